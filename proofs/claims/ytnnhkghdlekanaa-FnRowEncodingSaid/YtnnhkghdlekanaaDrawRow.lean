/- The draws of rows and of codes (spec.l4Row, l4Any, DrawCompareRows, DrawEncodeRow, DrawDecodeRow). -/
import Derived.Test.YtnnhkghdlekanaaTextDraw
import Derived.Test.YtnnhkghdlekanaaPick
import Derived.Test.YtnnhkghdlekanaaIntLaw
import Derived.Test.YtnnhkghdlekanaaRowEnc
namespace Go.Proofs.Ytnnhkghdlekanaa.DrawRow
open Go.RowKit
open Go.Proofs.Ytnnhkghdlekanaa.Num Go.Proofs.Ytnnhkghdlekanaa.IntRow Go.Proofs.Ytnnhkghdlekanaa.Cur Go.Proofs.Ytnnhkghdlekanaa.Draw
set_option linter.unusedVariables false

def slen : Value → Nat
  | .slice _ n _ => n
  | _ => 0
theorem gr_below {w wr w' : World} {r : Option Nat} (h : w.grownBy wr r) (hb : Below w.heap.size wr w') : w.grownBy w' r := TextDraw.grown_then_below h hb
theorem own_moved {w w' : World} {lo c : Nat} {e : TypeId} {v : Value} {xs : List Int} (h : Own w lo e v xs) (hg : w.grownBy w' (some c)) (hc : c < lo) : Own w' lo e v xs :=
  h.grown hg (fun k hk e => by injection e with e; have := (h.lt k hk).1; omega)

/-- What a draw of n ints below m leaves: a new row of them, the cursor moved. -/
def RowAt (c : Nat) (sv : Value) (l : List UInt8) (n : Nat) (m : Int) (w : World) (e : Ending) (w' : World) : Prop :=
  ∃ (xs : List Int) (a : Option Addr) (cap : Nat) (s : St), e = .returned (.slice a n cap) ∧ xs.length = n ∧ (∀ x ∈ xs, 0 ≤ x ∧ x < m) ∧ Own w' w.heap.size 3 (.slice a n cap) xs ∧ Cu w' c sv l s ∧ w.grownBy w' (some c)

theorem row_any (c : Nat) (sv : Value) (l : List UInt8) (s : St) (w : World) (n : Nat) (hn : n ≤ 1000) (m : Int) (hm : 1 ≤ m) (hm2 : m ≤ 1000) (hc : Cu w c sv l s) :
    Calls Try.prog 32 #[.pointer (some ⟨c, 0, none⟩), .int .i64 (n : Nat), .int .i64 m] w fun e w' => RowAt c sv l n m w e w' := by
  obtain ⟨i0, hi, hz0, hz1, hz2⟩ := info_parts IntLaw.info
  have hcl := hc.lt
  have O0 := hid (show Own (w.alloc (.cells #[] 3)) w.heap.size 3 (.slice (some ⟨w.heap.size, 0, none⟩) 0 0) [] from World.ownsRow_made w #[] 0 (Nat.le_refl _) (by decide) (by decide))
  have C0 := hid (hc.below ((Below.refl w.heap.size w).alloc (Nat.le_refl _) (.cells #[] 3)) hcl)
  have G0 := hid (below_grown (r := some c) ((Below.refl w.heap.size w).alloc (Nat.le_refl _) (.cells #[] 3)))
  clear hc
  go_enter Try.func32, Try.ntmps32
  go_wp2
  go_loopw [7] (fun v wr => ∃ (xs : List Int) (a : Option Addr) (cap : Nat) (s1 : St), v = .slice a xs.length cap ∧ xs.length ≤ n ∧ Hid (∀ x ∈ xs, 0 ≤ x ∧ x < m) ∧ Hid (Own wr w.heap.size 3 (.slice a xs.length cap) xs) ∧ Hid (Cu wr c sv l s1) ∧ Hid (w.grownBy wr (some c)) ∧ w.heap.size ≤ wr.heap.size) (fun v _ => n - slen v)
  case atStart => exact ⟨[], _, 0, s, rfl, Nat.zero_le _, hid (by simp), O0, C0, G0, by simp⟩
  case round =>
    obtain ⟨xs, a, cap, s1, rfl, hk, hv, hown, hcu, hgr, hsz⟩ := hrel
    by_cases hlt : xs.length < n
    · have HB := hid (below_any c m sv l s1 wr hcu.out (by omega))
      have hbd := belowF_bounds l m s1 hm
      generalize belowF l m s1 = r at HB hbd
      obtain ⟨z, s2⟩ := r
      simp only at *
      obtain ⟨z0, z1⟩ := hbd
      have hcl2 : xs.length ≤ 1000 := by omega
      go_wp2_with fail
      refine HB.out.mono ?_
      rintro e w1 ⟨rfl, hc1, hg1⟩
      have hsz1 : w.heap.size ≤ w1.heap.size := Nat.le_trans hsz hg1.size
      have O1 := own_moved hown.out hg1 hcl
      have C1 := hid hc1
      have G1 := hid (Cur.grown_trans hgr.out hg1)
      clear hc1 hg1 HB
      go_wp2_with (at_builtin; refine append_int rfl _ _ 24 rfl w.heap.size 3 i0 Try.underlying24 hi hz0 hz1 hz2 w1 w1 _ xs z O1 (by rfl) (Below.refl _ _) hsz1 _ ?c1 (by rfl) (by omega) ?_)
      case c1 => rfl
      intro v2 w2 hown2 hbel2 hsz2 hgr2
      obtain ⟨a2, cap2, rfl, _, _, _⟩ := hown2.form
      have O2 := hid hown2
      have C2 := hid (C1.out.below hbel2 hcl)
      have G2 := hid (gr_below G1.out hbel2)
      have HV := hid (show ∀ x ∈ xs ++ [z], 0 ≤ x ∧ x < m from fun x hx => by
        rcases List.mem_append.1 hx with h | h
        · exact hv.out x h
        · obtain rfl := List.mem_singleton.1 h; exact ⟨z0, z1⟩)
      have hl2 : (xs ++ [z]).length = xs.length + 1 := by simp
      clear hown2 hbel2 hgr2 O1
      go_wp2_with fail
      go_roundw
      case rel => exact ⟨xs ++ [z], a2, cap2, s2, rfl, by omega, HV, O2, C2, G2, hsz2⟩
      case measure => simp only [slen]; omega
    · have e : xs.length = n := by omega
      subst e
      go_wp2_with fail
      go_ret
      exact ⟨xs, a, cap, s1, rfl, rfl, hv.out, hown.out, hcu.out, hgr.out⟩

/-- What a draw of any short row leaves. -/
def AnyAt (c : Nat) (sv : Value) (l : List UInt8) (w : World) (e : Ending) (w' : World) : Prop :=
  ∃ (xs : List Int) (a : Option Addr) (cap : Nat) (s : St), e = .returned (.slice a xs.length cap) ∧ xs.length ≤ 4 ∧ Own w' w.heap.size 3 (.slice a xs.length cap) xs ∧ Cu w' c sv l s ∧ w.grownBy w' (some c)

def tabP : List Int := [-1, 100, 99]
theorem list_cell (zs : List Int) (j : Nat) (hj : j < zs.length) : ((zs.map (Value.int .i64)).toArray)[j]? = some (.int .i64 (zs.getD j 0)) := by
  simp [List.getD, hj]

set_option maxRecDepth 100000 in
theorem any_row (c : Nat) (sv : Value) (l : List UInt8) (s : St) (w : World) (hc : Cu w c sv l s) :
    Calls Try.prog 35 #[.pointer (some ⟨c, 0, none⟩)] w fun e w' => AnyAt c sv l w e w' := by
  have hcl := hc.lt
  have HB := hid (below_any c 5 sv l s w hc (by omega))
  have hbd := belowF_bounds l 5 s (by omega)
  generalize belowF l 5 s = r at HB hbd
  obtain ⟨z, s1⟩ := r
  simp only at *
  obtain ⟨n, rfl⟩ := Int.eq_ofNat_of_zero_le hbd.1
  have hn : n ≤ 4 := by omega
  clear hc hbd
  go_enter Try.func35, Try.ntmps35
  go_wp2_with fail
  refine HB.out.mono ?_
  rintro e w1 ⟨rfl, hc1, hg1⟩
  have HR := hid (row_any c sv l s1 w1 n (by omega) 100 (by omega) (by omega) hc1)
  have G1 := hid hg1
  have hs1 := hg1.size
  clear hc1 hg1 HB
  go_wp2_with fail
  refine HR.out.mono ?_
  rintro e w2 ⟨xs, a, cap, s2, rfl, hlen, hxs, hown, hc2, hg2⟩
  subst hlen
  have G2 := hid (Cur.grown_trans G1.out hg2)
  have hs2 := hg2.size
  clear hg2 hxs HR G1
  by_cases h0 : xs.length = 0
  · have h0' : ¬ (0 : Int) < (xs.length : Int) := by omega
    have O2 := hid (hown.mono hs1)
    have C2 := hid hc2
    clear hown hc2 h0
    go_wp2_with fail
    go_ret
    exact ⟨xs, a, cap, s2, rfl, by omega, O2.out, C2.out, G2.out⟩
  · have h0' : (0 : Int) < (xs.length : Int) := by omega
    have HO := hid (once_any c 8 sv l s2 w2 hc2 (by omega))
    generalize belowF l 8 s2 = r3 at HO
    obtain ⟨z3, s3⟩ := r3
    simp only at *
    obtain ⟨b3, hb3⟩ : ∃ b3 : Bool, (z3 == 0) = b3 := ⟨_, rfl⟩
    rw [hb3] at HO
    clear hb3 hc2
    have O2 := hid hown
    clear hown
    go_wp2_with fail
    refine HO.out.mono ?_
    rintro e w3 ⟨rfl, hc3, hg3⟩
    have G3 := hid (Cur.grown_trans G2.out hg3)
    have O3 := hid (own_moved O2.out hg3 (by omega))
    have hs3 := hg3.size
    have C3 := hid hc3
    have hlt3 := hc3.lt
    clear hc3 hg3 HO O2 G2
    cases b3 with
    | false =>
      have O4 := hid (O3.out.mono hs1)
      go_wp2_with fail
      go_ret
      exact ⟨xs, a, cap, s3, rfl, by omega, O4.out, C3.out, G3.out⟩
    | true =>
      have CA := hid (C3.out.below ((Below.refl w3.heap.size w3).alloc (Nat.le_refl _) (.cells #[.int .i64 (-1), .int .i64 100, .int .i64 99] 3)) hlt3)
      have OA := hid (O3.out.alloc (.cells #[.int .i64 (-1), .int .i64 100, .int .i64 99] 3))
      have GA := hid (gr_below G3.out ((Below.refl w.heap.size w3).alloc (by omega) (.cells #[.int .i64 (-1), .int .i64 100, .int .i64 99] 3)))
      clear O3 C3 G3
      go_wp2_with fail
      refine (Pick.pick_any c sv l s3 _ CA.out w3.heap.size 3 tabP (by decide) (by decide) (by omega) ?_).mono ?_
      · intro j hj
        refine (World.cell?_alloc_at _ _ _ _ rfl).trans ?_
        exact list_cell tabP j hj
      generalize Pick.pickF l tabP s3 = r5
      obtain ⟨y, s5⟩ := r5
      rintro e w4 ⟨rfl, hc4, hg4⟩
      have O4 := own_moved OA.out hg4 (by omega)
      have G4 := hid (Cur.grown_trans GA.out hg4)
      have C4 := hid hc4
      have hs4 := hg4.size
      simp only [World.size_alloc] at hs4
      clear hc4 hg4 OA CA GA
      rcases own_at O4 with ⟨_, rfl⟩ | ⟨g, cap', hv, hl', hat⟩
      · simp at h0
      · simp only [Value.slice.injEq] at hv
        obtain ⟨rfl, _, rfl⟩ := hv
        obtain ⟨u, c1⟩ : ∃ u, w4.cell? ⟨g, 0, none⟩ = some u := ⟨_, hat.cell 0 (by omega)⟩
        have c2 := hat.free 0
        have hset := hid (hat.set 0 y)
        have HS := hid ((Below.refl g w4).setCell (p := ⟨g, 0, none⟩) (Nat.le_refl _) (.int .i64 y))
        have C5 := hid (C4.out.below HS.out (by omega))
        have G5 := hid (gr_below G4.out (HS.out.mono (by omega)))
        clear hat O4 C4 G4
        go_wp2_with fail
        go_ret
        refine ⟨xs.set 0 y, some ⟨g, 0, none⟩, cap, s5, by rw [List.length_set]; rfl, by rw [List.length_set]; omega, ?_, C5.out, G5.out⟩
        exact hset.out.own (by omega)
end Go.Proofs.Ytnnhkghdlekanaa.DrawRow
