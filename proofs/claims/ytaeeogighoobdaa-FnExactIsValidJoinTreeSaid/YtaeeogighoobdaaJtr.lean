/- JoinTreeRoot and JoinTreeChildren, the model's and the program's. -/
import Derived.Test.YtaeeogighoobdaaForest
import Derived.Test.YtaeeogighoobdaaVarIn
import Derived.Test.YtaeeogighoobdaaSetJ
import Derived.Test.YtaeeogighoobdaaCatE
namespace Go.Proofs.Ytaeeogighoobdaa.Jtr
open Go.RowKit
open Go.Proofs.Ytaeeogighoobdaa.Num Go.Proofs.Ytaeeogighoobdaa.IntRow Go.Proofs.Ytaeeogighoobdaa.IntLaw Go.Proofs.Ytaeeogighoobdaa.Rdr Go.Proofs.Ytaeeogighoobdaa.Dat Go.Proofs.Ytaeeogighoobdaa.HasL Go.Proofs.Ytaeeogighoobdaa.VarIn Go.Proofs.Ytaeeogighoobdaa.SetV Go.Proofs.Ytaeeogighoobdaa.SetJ Go.Proofs.Ytaeeogighoobdaa.CatE Go.Proofs.Ytaeeogighoobdaa.Forest
set_option linter.unusedVariables false

/-! ### the root -/
/-- The place of the only -1, or -1. -/
def jroot (xs : List Int) : Int := if xs.count (-1) = 1 then (xs.findIdx (fun z => z == -1) : Int) else -1
theorem cnt_zero {xs : List Int} (h : ∀ j (hj : j < xs.length), xs[j] ≠ -1) : xs.count (-1) = 0 := by
  rw [List.count_eq_zero]
  intro hm
  obtain ⟨j, hj, e⟩ := List.getElem_of_mem hm
  exact h j hj e
theorem jroot_none {xs : List Int} (h : ∀ j (hj : j < xs.length), xs[j] ≠ -1) : jroot xs = -1 := by
  rw [jroot, if_neg (by rw [cnt_zero h]; decide)]
theorem split_at {xs : List Int} {m : Nat} (hm : m < xs.length) : xs.count (-1) = (xs.take m).count (-1) + (if xs[m] = -1 then 1 else 0) + (xs.drop (m + 1)).count (-1) := by
  have e : xs = xs.take m ++ xs[m] :: xs.drop (m + 1) := by rw [← List.drop_eq_getElem_cons hm, List.take_append_drop]
  conv => lhs; rw [e]
  rw [List.count_append, List.count_cons]
  by_cases h : xs[m] = -1
  · simp [h]; omega
  · simp [h]
theorem jroot_one {xs : List Int} {m : Nat} (hm : m < xs.length) (e : xs[m] = -1) (h : ∀ j (hj : j < xs.length), j ≠ m → xs[j] ≠ -1) : jroot xs = (m : Int) := by
  have h1 : (xs.take m).count (-1) = 0 := cnt_zero (fun j hj => by
    rw [List.length_take] at hj
    rw [List.getElem_take]
    exact h j (by omega) (by omega))
  have h2 : (xs.drop (m + 1)).count (-1) = 0 := cnt_zero (fun j hj => by
    rw [List.length_drop] at hj
    rw [List.getElem_drop]
    exact h _ (by omega) (by omega))
  have hc := split_at hm
  rw [h1, h2, if_pos e] at hc
  have hf : xs.findIdx (fun z => z == -1) = m := by
    rw [List.findIdx_eq hm]
    refine ⟨by simp [e], fun j hj => ?_⟩
    have := h j (by omega) (by omega)
    simpa using this
  rw [jroot, if_pos hc, hf]
theorem jroot_two {xs : List Int} {i j : Nat} (hij : i < j) (hj : j < xs.length) (e1 : xs[i] = -1) (e2 : xs[j] = -1) : jroot xs = -1 := by
  have hc := split_at hj
  rw [if_pos e2] at hc
  have hp : 0 < (xs.take j).count (-1) := List.count_pos_iff.2 (by
    have : (xs.take j)[i]'(by rw [List.length_take]; omega) = -1 := by rw [List.getElem_take]; exact e1
    rw [← this]
    exact List.getElem_mem _)
  rw [jroot, if_neg (by omega)]
theorem jroot_nonneg {xs : List Int} : 0 ≤ jroot xs ↔ xs.count (-1) = 1 := by
  unfold jroot
  split
  · rename_i h; simp [h]
  · rename_i h; simp [h]
theorem jroot_bound (xs : List Int) : -1 ≤ jroot xs ∧ jroot xs ≤ (xs.length : Int) := by
  unfold jroot
  split
  · have := List.findIdx_le_length (p := fun z : Int => z == -1) (xs := xs)
    omega
  · omega

theorem ints_at {w : World} {lo hi : Nat} {a : Option Addr} {xs : List Int} (h : Els 1 rInt w lo hi a xs) (j : Nat) (hj : j < xs.length) : ∃ b off, a = some ⟨b, off, none⟩ ∧ w.cell? ⟨b, off + j, none⟩ = some (.int .i64 xs[j]) := by
  obtain ⟨b, off, e, _, hc⟩ := rd_of h (by omega)
  exact ⟨b, off, e, hc j hj⟩
/-- The first place of v, or -1. -/
def Fst (xs : List Int) (v : Int) (w : World) (e : Ending) (w' : World) : Prop := ((∃ m, ∃ h : m < xs.length, e = .returned (.int .i64 (m : Int)) ∧ xs[m] = v ∧ ∀ j (hj : j < xs.length), j < m → xs[j] ≠ v) ∨ (e = .returned (.int .i64 (-1)) ∧ ∀ j (hj : j < xs.length), xs[j] ≠ v)) ∧ w = w'
theorem lib_indexF (a : Option Addr) (cap B : Nat) (xs : List Int) (v : Int) (w : World) (hn : xs.length ≤ 1048576) (h : Rd w B a xs) :
    Calls Try.prog 52 #[.slice a xs.length cap, .int .i64 v] w (Fst xs v w) := by
  go_enter Try.func52, Try.ntmps52
  go_wp2
  go_loop [5, 8] (fun _ i => ∃ k : Nat, k ≤ xs.length ∧ i = .int .i64 k ∧ Hid (∀ j (h : j < xs.length), j < k → xs[j] ≠ v)) (fun _ i => xs.length - (intOf i).toNat)
  case atStart => exact ⟨0, Nat.zero_le _, rfl, hid (fun j _ h => by omega)⟩
  case round =>
    obtain ⟨k, hk, rfl, hno⟩ := hrel
    by_cases hlt : k < xs.length
    · obtain ⟨b, off, rfl, hbB, hc⟩ := h (by omega)
      have g := hc k hlt
      clear hc h
      by_cases hx : xs[k] = v
      · have ht : (v == xs[k]) = true := by simp [hx]
        have HX := hid hx
        clear hx
        go_wp2
        go_ret
        exact ⟨.inl ⟨k, hlt, rfl, HX.out, hno.out⟩, rfl⟩
      · have ht : (v == xs[k]) = false := by simp only [beq_eq_false_iff_ne]; exact fun e => hx e.symm
        have HN := hid (show ∀ j (h : j < xs.length), j < k + 1 → xs[j] ≠ v from fun j hj hjk => by
          by_cases e : j = k
          · subst e; exact hx
          · exact hno.out j hj (by omega))
        clear hx
        go_wp2
        go_round
        case rel => exact ⟨k + 1, by omega, by go_num, HN⟩
        case measure => simp [intOf]; omega
    · have H := hid (fun j (hj : j < xs.length) => hno.out j hj (by omega))
      clear h
      go_wp2
      go_ret
      exact ⟨.inr ⟨rfl, H.out⟩, rfl⟩

section
variable {P : Program}
/-- 's[p:]' of a row that is read. -/
theorem drop_rd {w : World} {lo hi : Nat} {a : Option Addr} {xs : List Int} (h : Els 1 rInt w lo hi a xs) {t e : TypeId} {i : TypeInfo} (ht : P.underlying t = some (.slice e)) (hi0 : P.info? e = some i) (hsize : i.size = 1) (cap p : Nat) (hp : p ≤ xs.length) (hcap : xs.length ≤ cap) :
    ∃ q, (∀ W : World, (Instr.sliceAt t (.slice a xs.length cap) (some (.int .i64 (p : Int))) none none).run P W = .ok (.slice q (xs.length - p) (cap - p)) W) ∧ Rd w hi q (xs.drop p) := by
  refine ⟨_, run_fromk ht hi0 hsize a xs.length cap p hp, fun h0 => ?_⟩
  rw [List.length_drop] at h0
  obtain ⟨b, off, e, hb, hc⟩ := rd_of h (by omega)
  subst e
  refine ⟨b, off + p, by rw [if_neg (by omega)]; simp [Go.WideShapes.add_plain], hb, fun j hj => ?_⟩
  rw [List.length_drop] at hj
  rw [List.getElem_drop, Nat.add_assoc]
  exact hc (p + j) (by omega)
end

set_option maxRecDepth 100000 in
theorem spec_root (cs : List Value) (x : List Int) (lo hi : Nat) (w : World) (hs : szF x ≤ 1048576) (h : rRow w lo hi cs x) (hh : hi ≤ w.heap.size) :
    Calls Try.prog 30 #[.agg cs.toArray] w fun e w' => e = .returned (.int .i64 (jroot x)) ∧ Below w.heap.size w w' := by
  obtain ⟨a, cap, hcs, _, hels⟩ := row_open h
  subst hcs
  have K := hid (hasl_new w [.slice a x.length cap] 39)
  have B1 := hid ((Below.refl w.heap.size w).alloc (Nat.le_refl _) (.cells #[.slice a x.length cap] 39))
  have hn : x.length ≤ 1048576 := hs
  have HE := hid (hels.grow good_int B1.out hh)
  clear h hels hs
  go_enter Try.func30, Try.ntmps30
  obtain ⟨q0, q1, q2⟩ := K.out.one
  go_wp2
  go_loop [3, 4] (fun ov i => ∃ (k : Nat) (o : Int), k ≤ x.length ∧ i = .int .i64 k ∧ ov = .int .i64 o ∧ -1 ≤ o ∧ o < k ∧ Hid ((o = -1 ∧ ∀ j (h : j < x.length), j < k → x[j] ≠ -1) ∨ (0 ≤ o ∧ ∃ m, ∃ h : m < x.length, m < k ∧ o = (m : Int) ∧ x[m] = -1 ∧ ∀ j (h : j < x.length), j < k → j ≠ m → x[j] ≠ -1))) (fun _ i => x.length - (intOf i).toNat)
  case atStart => exact ⟨0, -1, Nat.zero_le _, rfl, rfl, by omega, by omega, hid (.inl ⟨rfl, fun j _ h => by omega⟩)⟩
  case round =>
    obtain ⟨k, o, hk, rfl, rfl, ho1, ho2, hst⟩ := hrel
    by_cases hlt : k < x.length
    · have hlt' : (k : Int) < (x.length : Int) := by omega
      have h0' : (0 : Int) ≤ (k : Int) := by omega
      obtain ⟨b, off, ha, c0⟩ := ints_at HE.out k hlt
      subst ha
      by_cases hx : x[k] = -1
      · by_cases ho : 0 ≤ o
        · have HF := hid (show jroot x = -1 by
            rcases hst.out with ⟨h1, _⟩ | ⟨_, m, hm, hmk, _, e1, _⟩
            · omega
            · exact jroot_two hmk hlt e1 hx)
          have t1 : (x[k] == (-1 : Int)) = true := by simp [hx]
          clear hx hst
          go_wp2
          go_ret
          exact ⟨by rw [HF.out]; rfl, B1.out⟩
        · have HN := hid (show 0 ≤ (k : Int) ∧ ∃ m, ∃ h : m < x.length, m < k + 1 ∧ (k : Int) = (m : Int) ∧ x[m] = -1 ∧ ∀ j (h : j < x.length), j < k + 1 → j ≠ m → x[j] ≠ -1 from ⟨h0', k, hlt, by omega, rfl, hx, fun j hj hjk hne => by
            rcases hst.out with ⟨_, h1⟩ | ⟨h1, _⟩
            · exact h1 j hj (by omega)
            · omega⟩)
          have t1 : (x[k] == (-1 : Int)) = true := by simp [hx]
          clear hx hst
          go_wp2
          go_round
          case rel => exact ⟨k + 1, k, by omega, by go_num, rfl, by omega, by omega, hid (.inr HN.out)⟩
          case measure => simp [intOf]; omega
      · have HN := hid (show (o = -1 ∧ ∀ j (h : j < x.length), j < k + 1 → x[j] ≠ -1) ∨ (0 ≤ o ∧ ∃ m, ∃ h : m < x.length, m < k + 1 ∧ o = (m : Int) ∧ x[m] = -1 ∧ ∀ j (h : j < x.length), j < k + 1 → j ≠ m → x[j] ≠ -1) from by
          rcases hst.out with ⟨h1, h2⟩ | ⟨h0, m, hm, hmk, h1, e1, h2⟩
          · refine .inl ⟨h1, fun j hj hjk => ?_⟩
            by_cases e : j = k
            · subst e; exact hx
            · exact h2 j hj (by omega)
          · refine .inr ⟨h0, m, hm, by omega, h1, e1, fun j hj hjk hne => ?_⟩
            by_cases e : j = k
            · subst e; exact hx
            · exact h2 j hj (by omega) hne)
        have t1 : (x[k] == (-1 : Int)) = false := by simp [hx]
        clear hx hst
        go_wp2
        go_round
        case rel => exact ⟨k + 1, o, by omega, by go_num, rfl, by omega, by omega, HN⟩
        case measure => simp [intOf]; omega
    · have hlt' : ¬ (k : Int) < (x.length : Int) := by omega
      have HF := hid (show jroot x = o by
        rcases hst.out with ⟨h1, h2⟩ | ⟨_, m, hm, hmk, h1, e1, h2⟩
        · rw [h1]; exact jroot_none (fun j hj => h2 j hj (by omega))
        · rw [h1]; exact jroot_one hm e1 (fun j hj hne => h2 j hj (by omega) hne))
      clear hst
      go_wp2
      go_ret
      exact ⟨by rw [HF.out]; rfl, B1.out⟩

set_option maxRecDepth 100000 in
theorem impl_root (cs : List Value) (x : List Int) (lo hi : Nat) (w : World) (hs : szF x ≤ 1048576) (h : rRow w lo hi cs x) (hh : hi ≤ w.heap.size) :
    Calls Try.prog 31 #[.agg cs.toArray] w fun e w' => e = .returned (.int .i64 (jroot x)) ∧ Below w.heap.size w w' := by
  obtain ⟨i0, hi0, hz0, hz1, hz2⟩ := info_parts IntLaw.info
  obtain ⟨a, cap, hcs, _, hels⟩ := row_open h
  subst hcs
  have hcap := row_cap h
  have K := hid (hasl_new w [.slice a x.length cap] 39)
  have B1 := hid ((Below.refl w.heap.size w).alloc (Nat.le_refl _) (.cells #[.slice a x.length cap] 39))
  have hn : x.length ≤ 1048576 := hs
  have HE := hid (hels.grow good_int B1.out hh)
  have I := hid (lib_indexF a cap hi x (-1) _ hn (rd_of HE.out))
  clear h hels hs
  go_enter Try.func31, Try.ntmps31
  obtain ⟨q0, q1, q2⟩ := K.out.one
  go_wp2_with fail
  with_reducible refine I.out.mono ?_
  rintro e w1 ⟨he, rfl⟩
  rcases he with ⟨m, hm, rfl, e1, h1⟩ | ⟨rfl, h1⟩
  · have H1 := hid h1
    have HE1 := hid e1
    obtain ⟨m1, hm1⟩ : ∃ z, m + 1 = z := ⟨_, rfl⟩
    obtain ⟨q, SF, hr⟩ := drop_rd (P := Try.prog) HE.out Try.underlying23 hi0 hz1 cap m1 (by omega) hcap
    have u1 : IntKind.i64.wrap ((m : Int) + 1) = (m1 : Int) := by rw [show (m : Int) + 1 = (m1 : Int) by omega]; exact Num.wrap_small m1 (by omega)
    have u2 : IntKind.i64.wrap (m1 : Int) = (m1 : Int) := Num.wrap_small m1 (by omega)
    obtain ⟨n2, hn2⟩ : ∃ z, x.length - m1 = z := ⟨_, rfl⟩
    obtain ⟨c2, hc2⟩ : ∃ z, cap - m1 = z := ⟨_, rfl⟩
    rw [hn2, hc2] at SF
    have C := hid (lib_contains q c2 hi (x.drop m1) (-1) _ (by rw [List.length_drop]; omega) hr)
    rw [List.length_drop, hn2] at C
    have HM1 := hid hm1
    have t0 : ¬ (m : Int) < 0 := by omega
    have g1 : (0 : Int) ≤ (m1 : Int) := by omega
    have g2 : (m1 : Int) ≤ (x.length : Int) := by omega
    cases hin : decide ((-1 : Int) ∈ x.drop m1) with
    | true =>
      have HF := hid (show jroot x = -1 by
        rw [decide_eq_true_eq] at hin
        obtain ⟨j, hj, ej⟩ := List.getElem_of_mem hin
        rw [List.length_drop] at hj
        rw [List.getElem_drop] at ej
        exact jroot_two (i := m) (j := m1 + j) (by omega) (by omega) HE1.out ej)
      rw [hin] at C
      clear hin hn2 hc2 hm1 h1 e1 hr
      go_wp2_with fail
      with_reducible refine C.out.mono ?_
      rintro e w2 ⟨rfl, rfl⟩
      go_wp2
      go_ret
      exact ⟨by rw [HF.out]; rfl, B1.out⟩
    | false =>
      have HF := hid (show jroot x = (m : Int) by
        rw [decide_eq_false_iff_not] at hin
        refine jroot_one hm HE1.out (fun j hj hne => ?_)
        by_cases hjm : j < m
        · exact H1.out j hj hjm
        · intro ej
          refine hin ?_
          rw [← ej]
          have : x[j] = (x.drop m1)[j - m1]'(by rw [List.length_drop]; omega) := by
            rw [List.getElem_drop]
            congr 1
            omega
          rw [this]
          exact List.getElem_mem _)
      rw [hin] at C
      clear hin hn2 hc2 hm1 h1 e1 hr
      go_wp2_with fail
      with_reducible refine C.out.mono ?_
      rintro e w2 ⟨rfl, rfl⟩
      go_wp2
      go_ret
      exact ⟨by rw [HF.out]; rfl, B1.out⟩
  · have HF := hid (jroot_none h1)
    clear h1
    go_wp2
    go_ret
    exact ⟨by rw [HF.out]; rfl, B1.out⟩

/-! ### the children -/
def chP (xs : List Int) (k : Int) (i : Nat) : Bool := decide (xs[i]? = some k) && decide (0 ≤ k)
def chl (xs : List Int) (k : Int) : List Int := fl (chP xs k) xs.length
theorem chl_len (xs : List Int) (k : Int) : (chl xs k).length ≤ xs.length := fl_len _ _
theorem chP_at {xs : List Int} {k : Int} {i : Nat} (h : i < xs.length) : chP xs k i = (decide (xs[i] = k) && decide (0 ≤ k)) := by
  rw [chP, List.getElem?_eq_getElem h]
  simp
def Chl (xs : List Int) (k : Int) (w : World) (e : Ending) (w' : World) : Prop := ∃ a cap, e = .returned (.slice a (chl xs k).length cap) ∧ Own w' w.heap.size 3 (.slice a (chl xs k).length cap) (chl xs k) ∧ Below w.heap.size w w'

set_option maxRecDepth 100000 in
theorem spec_chl (cs : List Value) (x : List Int) (v : Int) (lo hi : Nat) (w : World) (hs : szF x ≤ 1048576) (h : rRow w lo hi cs x) (hh : hi ≤ w.heap.size) :
    Calls Try.prog 32 #[.agg cs.toArray, .int .i64 v] w (Chl x v w) := by
  obtain ⟨i0, hi0, hz0, hz1, hz2⟩ := info_parts IntLaw.info
  obtain ⟨a, cap, hcs, _, hels⟩ := row_open h
  subst hcs
  have K := hid (hasl_new w [.slice a x.length cap] 39)
  have B1 := hid ((Below.refl w.heap.size w).alloc (Nat.le_refl _) (.cells #[.slice a x.length cap] 39))
  have hn : x.length ≤ 1048576 := hs
  have HE := hid hels
  have hiw := hh
  clear h hels hs
  go_enter Try.func32, Try.ntmps32
  go_wp2
  go_loopw [5, 6] (fun ov i wr => ∃ k : Nat, k ≤ x.length ∧ i = .int .i64 k ∧ Own wr (w.heap.size + 1) 3 ov (fl (chP x v) k) ∧ Hid (HasL wr w.heap.size [.slice a x.length cap]) ∧ Hid (Below w.heap.size w wr) ∧ w.heap.size + 1 ≤ wr.heap.size) (fun _ i _ => x.length - (intOf i).toNat)
  case atStart => exact ⟨0, Nat.zero_le _, rfl, by simpa [fl] using own_lit (w.alloc (.cells #[.slice a x.length cap] 39)) (w.heap.size + 1) 3 (by simp), hid (K.out.alloc _), hid (B1.out.alloc B1.out.size _), by simp⟩
  case round =>
    obtain ⟨k, hk, rfl, hown, k0, hb, hsz⟩ := hrel
    obtain ⟨q0, q1, q2⟩ := k0.out.one
    by_cases hlt : k < x.length
    · have hlt' : (k : Int) < (x.length : Int) := by omega
      have h0' : (0 : Int) ≤ (k : Int) := by omega
      obtain ⟨b, off, ha, c0⟩ := ints_at (HE.out.grow good_int hb.out hiw) k hlt
      subst ha
      have hfl := fl_len (chP x v) k
      by_cases hx : x[k] = v
      · have t1 : (x[k] == v) = true := by simp [hx]
        by_cases hv : 0 ≤ v
        · have E := hid (fl_yes (p := chP x v) (k := k) (by rw [chP_at hlt, decide_eq_true hx, decide_eq_true hv]; rfl))
          clear hx
          go_wp2_with (at_builtin; refine append_int rfl _ _ 23 rfl (w.heap.size + 1) 3 i0 Try.underlying23 hi0 hz0 hz1 hz2 wr wr _ (fl (chP x v) k) (k : Int) hown (by rfl) (Below.refl _ _) hsz _ rfl (by rfl) (by omega) ?_)
          intro v1 w3 hown1 hbel1 hsz3 hgr
          have HB3 := hid (hb.out.trans (hbel1.mono (by omega)))
          have KA3 := hid (k0.out.under hbel1 (by omega))
          rw [← E.out] at hown1
          clear hown k0 hb hbel1 hgr q0 q1 q2 c0
          go_wp2
          go_roundw
          case rel => exact ⟨k + 1, by omega, by go_num, hown1, KA3, HB3, hsz3⟩
          case measure => simp [intOf]; omega
        · have E := hid (fl_no (p := chP x v) (k := k) (by rw [chP_at hlt, decide_eq_false hv, Bool.and_false]))
          clear hx
          rw [← E.out] at hown
          go_wp2
          go_roundw
          case rel => exact ⟨k + 1, by omega, by go_num, hown, k0, hb, hsz⟩
          case measure => simp [intOf]; omega
      · have t1 : (x[k] == v) = false := by simp [hx]
        have E := hid (fl_no (p := chP x v) (k := k) (by rw [chP_at hlt, decide_eq_false hx, Bool.false_and]))
        clear hx
        rw [← E.out] at hown
        go_wp2
        go_roundw
        case rel => exact ⟨k + 1, by omega, by go_num, hown, k0, hb, hsz⟩
        case measure => simp [intOf]; omega
    · have hlt' : ¬ (k : Int) < (x.length : Int) := by omega
      have e : k = x.length := by omega
      have hown2 := hown
      rw [show fl (chP x v) k = chl x v by rw [e]; rfl] at hown2
      obtain ⟨av, capv, hv, _, _, _⟩ := hown2.form
      subst hv
      have HO := hid (hown2.mono (show w.heap.size ≤ w.heap.size + 1 by omega))
      clear hown hown2 e
      go_wp2
      go_ret
      exact ⟨av, capv, rfl, HO.out, hb.out⟩

set_option maxRecDepth 100000 in
theorem impl_chl (cs : List Value) (x : List Int) (v : Int) (lo hi : Nat) (w : World) (hs : szF x ≤ 1048576) (h : rRow w lo hi cs x) (hh : hi ≤ w.heap.size) :
    Calls Try.prog 33 #[.agg cs.toArray, .int .i64 v] w (Chl x v w) := by
  obtain ⟨i0, hi0, hz0, hz1, hz2⟩ := info_parts IntLaw.info
  obtain ⟨a, cap, hcs, _, hels⟩ := row_open h
  subst hcs
  have K := hid (hasl_new w [.slice a x.length cap] 39)
  have B1 := hid ((Below.refl w.heap.size w).alloc (Nat.le_refl _) (.cells #[.slice a x.length cap] 39))
  have hn : x.length ≤ 1048576 := hs
  have HE := hid hels
  have hiw := hh
  clear h hels hs
  by_cases hneg : v < 0
  · have HF := hid (show chl x v = [] from by
      unfold chl
      have : ∀ k, fl (chP x v) k = [] := fun k => by
        induction k with
        | zero => rfl
        | succ k ih => rw [fl_no (by unfold chP; rw [decide_eq_false (show ¬ 0 ≤ v by omega), Bool.and_false]), ih]
      exact this _)
    go_enter Try.func33, Try.ntmps33
    go_wp2
    go_ret
    refine ⟨none, 0, by rw [HF.out]; rfl, ?_, B1.out⟩
    rw [HF.out]
    exact Own.nil _ _ _
  · go_enter Try.func33, Try.ntmps33
    obtain ⟨q0, q1, q2⟩ := K.out.one
    go_wp2
    clear q0 q1 q2
    go_loopw [5, 6, 7, 13] (fun ov _ _ i wr => ∃ k : Nat, k ≤ x.length ∧ i = .int .i64 k ∧ Own wr (w.heap.size + 1) 3 ov (fl (chP x v) k) ∧ Hid (Below w.heap.size w wr) ∧ w.heap.size + 1 ≤ wr.heap.size) (fun _ _ _ i _ => x.length - (intOf i).toNat)
    case atStart => exact ⟨0, Nat.zero_le _, rfl, Own.nil _ _ _, B1, by simp⟩
    case round =>
      obtain ⟨k, hk, rfl, hown, hb, hsz⟩ := hrel
      by_cases hlt : k < x.length
      · have hlt' : (k : Int) < (x.length : Int) := by omega
        have h0' : (0 : Int) ≤ (k : Int) := by omega
        obtain ⟨b, off, ha, c0⟩ := ints_at (HE.out.grow good_int hb.out hiw) k hlt
        subst ha
        have hfl := fl_len (chP x v) k
        by_cases hx : x[k] = v
        · have t1 : (x[k] == v) = true := by simp [hx]
          have E := hid (fl_yes (p := chP x v) (k := k) (by rw [chP_at hlt, decide_eq_true hx, decide_eq_true (show 0 ≤ v by omega)]; rfl))
          clear hx
          go_wp2_with (at_builtin; refine append_int rfl _ _ 23 rfl (w.heap.size + 1) 3 i0 Try.underlying23 hi0 hz0 hz1 hz2 wr wr _ (fl (chP x v) k) (k : Int) hown (by rfl) (Below.refl _ _) hsz _ rfl (by rfl) (by omega) ?_)
          intro v1 w3 hown1 hbel1 hsz3 hgr
          have HB3 := hid (hb.out.trans (hbel1.mono (by omega)))
          rw [← E.out] at hown1
          clear hown hb hbel1 hgr c0
          go_wp2
          go_roundw
          case rel => exact ⟨k + 1, by omega, by go_num, hown1, HB3, hsz3⟩
          case measure => simp [intOf]; omega
        · have t1 : (x[k] == v) = false := by simp [hx]
          have E := hid (fl_no (p := chP x v) (k := k) (by rw [chP_at hlt, decide_eq_false hx, Bool.false_and]))
          clear hx
          rw [← E.out] at hown
          go_wp2
          go_roundw
          case rel => exact ⟨k + 1, by omega, by go_num, hown, hb, hsz⟩
          case measure => simp [intOf]; omega
      · have hlt' : ¬ (k : Int) < (x.length : Int) := by omega
        have e : k = x.length := by omega
        have hown2 := hown
        rw [show fl (chP x v) k = chl x v by rw [e]; rfl] at hown2
        obtain ⟨av, capv, hv, _, _, _⟩ := hown2.form
        subst hv
        have HO := hid (hown2.mono (show w.heap.size ≤ w.heap.size + 1 by omega))
        clear hown hown2 e
        go_wp2
        go_ret
        exact ⟨av, capv, rfl, HO.out, hb.out⟩
end Go.Proofs.Ytaeeogighoobdaa.Jtr
