/- Contracts of the laws' own helpers on join forests (one slice of ints): sizes, copies, equality, marks. -/
import Derived.Test.YtaeeogighoobdaaMarkA
namespace Go.Proofs.Ytaeeogighoobdaa.Forest
open Go.RowKit
open Go.Proofs.Ytaeeogighoobdaa.Num Go.Proofs.Ytaeeogighoobdaa.IntRow Go.Proofs.Ytaeeogighoobdaa.IntLaw Go.Proofs.Ytaeeogighoobdaa.Grid Go.Proofs.Ytaeeogighoobdaa.GridLaw Go.Proofs.Ytaeeogighoobdaa.GridLaw2 Go.Proofs.Ytaeeogighoobdaa.Rdr Go.Proofs.Ytaeeogighoobdaa.Dat Go.Proofs.Ytaeeogighoobdaa.HasL Go.Proofs.Ytaeeogighoobdaa.Thaw Go.Proofs.Ytaeeogighoobdaa.ToF Go.Proofs.Ytaeeogighoobdaa.MarkA
set_option linter.unusedVariables false

theorem row_open {w : World} {lo hi : Nat} {cs : List Value} {x : List Int} (h : rRow w lo hi cs x) : ∃ a cap, cs = [.slice a x.length cap] ∧ x.length ≤ 9223372036854775807 ∧ Els 1 rInt w lo hi a x := by
  obtain ⟨h1, a, cap, rfl, _, h2⟩ := h
  exact ⟨a, cap, rfl, h1, h2⟩
theorem row_mk {w : World} {lo hi : Nat} {a : Option Addr} {cap : Nat} {x : List Int} (h1 : x.length ≤ 9223372036854775807) (h2 : Els 1 rInt w lo hi a x) (hc : x.length ≤ cap := by first | exact Nat.le_refl _ | omega) : rRow w lo hi [.slice a x.length cap] x := ⟨h1, a, cap, rfl, hc, h2⟩
theorem row_cap {w : World} {lo hi n1 cap : Nat} {a : Option Addr} {x : List Int} (h : rRow w lo hi [.slice a n1 cap] x) : x.length ≤ cap := by
  obtain ⟨_, a', cap', e, h1, _⟩ := h
  simp only [List.cons.injEq, Value.slice.injEq, and_true] at e
  obtain ⟨_, _, rfl⟩ := e
  exact h1
theorem good_forest : Gd rRow := good_sl good_int
def szF (x : List Int) : Nat := x.length
theorem opn_forest : Opn Try.prog 44 rRow := opn_struct1 Try.underlying44 rfl (by kernel_rfl) (opn_slice Try.underlying23 (by kernel_rfl) (by decide) (opn_int Try.underlying3))

theorem sz_forest (cs : List Value) (x : List Int) (lo hi : Nat) (k r : Int) (w : World) (h0 : 0 ≤ k) (hk : k ≤ 1048576) (h : rRow w lo hi cs x) (hh : hi ≤ w.heap.size)
    (hr : RowKit.Hid ((k < (szF x : Nat) ∧ r = -1) ∨ ((szF x : Nat) ≤ k ∧ r = k - (szF x : Nat)))) :
    Calls Try.prog 26 #[.agg cs.toArray, .int .i64 k] w fun e w' => e = .returned (.int .i64 r) ∧ Below w.heap.size w w' := by
  obtain ⟨a, cap, rfl, hl, hels⟩ := row_open h
  have B1 := hid ((Below.refl w.heap.size w).alloc (Nat.le_refl _) (.cells #[.slice a x.length cap] 44))
  have S := hid (sz_int a x.length cap k r (w.alloc (.cells #[.slice a x.length cap] 44)) h0 hk hl hr.out)
  clear h hels
  rcases (by rcases hr.out with h | h <;> omega : r = -1 ∨ ¬ r < 0) with rfl | h3
  · clear hr
    go_enter Try.func26, Try.ntmps26
    go_wp2_with fail
    with_reducible refine S.out.mono ?_
    rintro e w1 ⟨rfl, rfl⟩
    go_wp2
    go_ret
    exact ⟨rfl, B1.out⟩
  · clear hr
    go_enter Try.func26, Try.ntmps26
    go_wp2_with fail
    with_reducible refine S.out.mono ?_
    rintro e w1 ⟨rfl, rfl⟩
    go_wp2
    go_ret
    exact ⟨rfl, B1.out⟩

theorem to_forestF (cs : List Value) (x : List Int) (lo hi : Nat) (w : World) (hs : szF x ≤ 1048576) (h : rRow w lo hi cs x) (hh : hi ≤ w.heap.size) :
    Calls Try.prog 28 #[.agg cs.toArray] w fun e w' => ∃ ds : List Value, e = .returned (.agg ds.toArray) ∧ rRow w' w.heap.size w'.heap.size ds x ∧ BF w.heap.size w w' := by
  obtain ⟨a, cap, rfl, hz1, hels⟩ := row_open h
  have K1 := hid ((hasl_new (w.alloc (.cells #[.slice a x.length cap] 44)) [.slice none 0 0] 39).alloc (.cells #[.slice none 0 0] 39))
  have K2 := hid (hasl_new ((w.alloc (.cells #[.slice a x.length cap] 44)).alloc (.cells #[.slice none 0 0] 39)) [.slice none 0 0] 39)
  have B3 := hid ((((BF.refl w.heap.size w).alloc (Nat.le_refl _) (.cells #[.slice a x.length cap] 44)).alloc (by simp) (.cells #[.slice none 0 0] 39)).alloc (by simp; omega) (.cells #[.slice none 0 0] 39))
  have T := hid (to_intsF a cap hi x _ hs ((rd_of hels).below (B3.out.toBelow.mono hh)) (by simp; omega))
  simp only [World.size_alloc] at K1 K2
  clear h hels
  go_enter Try.func28, Try.ntmps28
  go_wp2_with fail
  refine T.out.mono ?_
  rintro e w1 ⟨rfl, hel, hb⟩
  have hs1 := hb.size
  simp only [World.size_alloc] at hs1 hel hb ⊢
  have P1 := K1.out.below (hb.mono (by first | exact Nat.le_refl _ | simp)).toBelow
  have P2 := K2.out.below (hb.mono (by first | exact Nat.le_refl _ | simp)).toBelow
  have HA := hid hel
  have HB := hid (B3.out.trans (hb.mono (by omega)))
  have HR := hid ((P1.far (c := w.heap.size + 1 + 1) (o := 0) (by omega) (.slice (some ⟨w.heap.size + 1 + 1 + 1, 0, none⟩) x.length x.length)).put 0 (.slice (some ⟨w.heap.size + 1 + 1 + 1, 0, none⟩) x.length x.length))
  obtain ⟨p0, p1, p2⟩ := P1.one
  obtain ⟨q0, q1, q2⟩ := P2.one
  obtain ⟨r0, _, _⟩ := HasL.one HR.out
  have hlt := hel.lt
  clear hel hb P1 P2 K1 K2 T
  go_wp2
  refine bodyPost_ret (v := .agg #[.slice (some ⟨w.heap.size + 1 + 1 + 1, 0, none⟩) x.length x.length]) (by simp [results, Try.results28, go_sem, r0]) rfl ⟨[.slice (some ⟨w.heap.size + 1 + 1 + 1, 0, none⟩) x.length x.length], rfl, ?_, ?_⟩
  · exact row_mk hz1 (of_at ((HA.out.far (p := ⟨w.heap.size + 1 + 1, 0, none⟩) (by simp) _).far (p := ⟨w.heap.size + 1, 0, none⟩) (by simp; omega) _) (by omega) (by simp; omega))
  · exact (HB.out.setCell (by simp; omega) _).setCell (by simp) _
theorem to_forest (cs : List Value) (x : List Int) (lo hi : Nat) (w : World) (hs : szF x ≤ 1048576) (h : rRow w lo hi cs x) (hh : hi ≤ w.heap.size) :
    Calls Try.prog 28 #[.agg cs.toArray] w fun e w' => ∃ ds : List Value, e = .returned (.agg ds.toArray) ∧ rRow w' w.heap.size w'.heap.size ds x ∧ Below w.heap.size w w' :=
  (to_forestF cs x lo hi w hs h hh).mono fun _ _ ⟨ds, he, hr, hb⟩ => ⟨ds, he, hr, hb.toBelow⟩

theorem eq_forest (cs ds : List Value) (x : List Int) (lo hi lo' hi' : Nat) (w : World) (hs : szF x ≤ 1048576) (h : rRow w lo hi cs x) (h' : rRow w lo' hi' ds x) (hh : hi ≤ w.heap.size) (hh' : hi' ≤ w.heap.size) :
    Calls Try.prog 23 #[.agg cs.toArray, .agg ds.toArray] w fun e w' => e = .returned (.bool true) ∧ Below w.heap.size w w' := by
  obtain ⟨a, cap, rfl, _, hels⟩ := row_open h
  obtain ⟨a', cap', rfl, _, hels'⟩ := row_open h'
  have hB1 := hid (((Below.refl w.heap.size w).alloc (Nat.le_refl _) (.cells #[.slice a x.length cap] 39)).alloc (by simp) (.cells #[.slice a' x.length cap'] 39))
  have E := hid (eq_ints a a' cap cap' x hi hi' _ hs ((rd_of hels).below (hB1.out.mono hh)) ((rd_of hels').below (hB1.out.mono hh')) (by simp; omega) (by simp; omega))
  clear h h' hels hels'
  go_enter Try.func23, Try.ntmps23
  go_wp2_with fail
  refine E.out.mono ?_
  rintro e w' ⟨rfl, hb⟩
  have HB := hid (hB1.out.trans (hb.mono (by simp; omega)))
  clear hb
  go_wp2
  go_ret
  exact ⟨rfl, HB.out⟩

theorem mark_forestA (cs : List Value) (x : List Int) (lo hi : Nat) (k0 : Int) (w : World) (hn : szF x ≤ 1048576) (h0 : 0 ≤ k0) (h1 : k0 ≤ 10000000) (h : rRow w lo hi cs x) (hh : hi ≤ w.heap.size) (hT : Thw lo hi w) :
    Calls Try.prog 24 #[.agg cs.toArray, .int .i64 k0] w fun e w' => e = .returned (.int .i64 (k0 + (x.length : Nat))) ∧ KT lo hi w w' := by
  obtain ⟨a, cap, hcs, hz1, hr⟩ := row_open h
  subst hcs
  have K := hid ((KT.refl lo hi w).alloc hh (.cells #[.slice a x.length cap] 39))
  have B := hid ((Below.refl w.heap.size w).alloc (Nat.le_refl _) (.cells #[.slice a x.length cap] 39))
  have M := hid (mark_intsA a cap lo hi k0 x _ hn h0 (by omega) (hr.keep good_int (sm_below B.out hh)) (hT.nf K.out.nf))
  clear h hT
  go_enter Try.func24, Try.ntmps24
  go_wp2_with fail
  refine M.out.mono ?_
  rintro e w1 ⟨rfl, ht⟩
  have HK := hid (K.out.trans ht)
  clear ht
  go_wp2
  go_ret
  exact ⟨rfl, HK.out⟩

/-! ### a forest of the call's own -/
theorem held_forest (a : Option Addr) (cap : Nat) (k0 : Int) (n : Nat) (B : Nat) (w : World) (hn : n ≤ 1048576) (h0 : 0 ≤ k0) (h1 : k0 ≤ 1048576) (h : Rd w B a (marks k0 n)) (hB : B ≤ w.heap.size) :
    Calls Try.prog 25 #[.agg #[.slice a n cap], .int .i64 k0] w fun e w' => e = .returned (.int .i64 (k0 + n)) ∧ Below w.heap.size w w' := by
  go_enter Try.func25, Try.ntmps25
  go_wp2_with fail
  refine (held_ints a cap k0 n B _ hn h0 (by omega) (h.alloc hB _)).mono ?_
  rintro e w' ⟨rfl, rfl⟩
  go_wp2
  go_ret
  exact ⟨rfl, (Below.refl _ _).alloc (Nat.le_refl _) _⟩
theorem mark_forest (lo : Nat) (v : Value) (k0 : Int) (xs : List Int) (w : World) (hn : xs.length ≤ 1048576) (h0 : 0 ≤ k0) (h1 : k0 ≤ 4194304) (h : Own w lo 3 v xs) :
    Calls Try.prog 24 #[.agg #[v], .int .i64 k0] w fun e w' => e = .returned (.int .i64 (k0 + xs.length)) ∧ Own w' lo 3 v (marks k0 xs.length) ∧ w.grownBy w' v.ownBlock := by
  rcases own_at h with ⟨rfl, rfl⟩ | ⟨g, cap, rfl, hl, hat⟩
  · go_enter Try.func24, Try.ntmps24
    go_wp2_with fail
    refine (mark_nil k0 _).mono ?_
    rintro e w' ⟨rfl, rfl⟩
    go_wp2
    go_ret
    exact ⟨by simp, Own.nil _ _ _, World.grownBy_alloc _ _ _⟩
  · go_enter Try.func24, Try.ntmps24
    go_wp2_with fail
    refine (mark_ints g cap k0 xs _ hn h0 h1 (hat.alloc _)).mono ?_
    rintro e w' ⟨rfl, hat', hgr⟩
    go_wp2
    go_ret
    exact ⟨rfl, by simpa [marks_length] using hat'.own hl, grown_trans (World.grownBy_alloc _ _ _) hgr⟩
end Go.Proofs.Ytaeeogighoobdaa.Forest
