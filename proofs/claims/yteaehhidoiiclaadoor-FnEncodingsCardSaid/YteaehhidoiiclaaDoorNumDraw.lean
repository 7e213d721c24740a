/- The draws of numbers (spec.l1PickInt, spec.l1Num) and of the law's number (spec.DrawEncodeVarint). -/
import Derived.Test.YteaehhidoiiclaaDoorDraw
import Derived.WalkKit
import Derived.ProofKit
import Derived.OpenShut
import Derived.IntWalk
import Derived.BigQuiet
namespace Go.Proofs.YteaehhidoiiclaaDoor.NumDraw
open Go.ChangeShapes Go.WideShapes Go.ChangeAt Go.RowKit
open Go.Proofs.YteaehhidoiiclaaDoor.Num Go.Proofs.YteaehhidoiiclaaDoor.Row Go.Proofs.YteaehhidoiiclaaDoor.Cur Go.Proofs.YteaehhidoiiclaaDoor.Draw
set_option linter.unusedVariables false

/-- What a draw of an int leaves: the answer, the cursor moved, nothing else of what was there. -/
def IntAt (c : Nat) (sv : Value) (l : List UInt8) (r : Int × St) (w : World) (e : Ending) (w' : World) : Prop :=
  e = .returned (.int .i64 r.1) ∧ Cu w' c sv l r.2 ∧ w.grownBy w' (some c)

def pickF (l : List UInt8) (zs : List Int) (s : St) : Int × St :=
  (zs.getD (belowF l (zs.length : Nat) s).1.toNat 0, (belowF l (zs.length : Nat) s).2)

theorem pick_any (c : Nat) (sv : Value) (l : List UInt8) (s : St) (w : World) (hc : Cu w c sv l s) (b cap : Nat) (zs : List Int) (h1 : 1 ≤ zs.length) (h2 : zs.length ≤ 1000) (hbc : b ≠ c)
    (hcell : ∀ j, j < zs.length → w.cell? ⟨b, j, none⟩ = some (.int .i64 (zs.getD j 0))) :
    Calls Tryd.prog 31 #[.pointer (some ⟨c, 0, none⟩), .slice (some ⟨b, 0, none⟩) zs.length cap] w fun e w' => IntAt c sv l (pickF l zs s) w e w' := by
  have HB := hid (below_any c (zs.length : Nat) sv l s w hc (by omega))
  have hbd := belowF_bounds l (zs.length : Nat) s (by omega)
  have HC := hid hcell
  clear hc hcell
  unfold pickF
  generalize belowF l (zs.length : Nat) s = r at HB hbd ⊢
  obtain ⟨x, s1⟩ := r
  obtain ⟨x0, x1⟩ := hbd
  simp only at *
  obtain ⟨n, rfl⟩ := Int.eq_ofNat_of_zero_le x0
  have hn : n < zs.length := by omega
  simp only [Int.toNat_natCast]
  have hcn := HC.out n hn
  generalize zs.getD n 0 = z at hcn ⊢
  have HZ := hid hcn
  clear hcn
  go_enter Tryd.func31, Tryd.ntmps31
  go_wp2_with fail
  refine HB.out.mono ?_
  rintro e w1 ⟨rfl, hc1, hg1⟩
  have hce : w1.cell? ⟨b, n, none⟩ = some (.int .i64 z) := hg1.cell HZ.out (by simp; omega)
  have K1 := hid hc1
  have K2 := hid hg1
  clear hc1 hg1
  go_wp2_with fail
  go_ret
  exact ⟨rfl, K1.out, K2.out⟩

/-- The numbers of the draws' table. -/
def tab : List Int := [-1, 0, 127, 128, 255, 256, 16383, 16384, 65535, 65536, 562949953421311, 562949953421312, 999999999, 1000000000, -999999999, 9223372036854775807, -9223372036854775808]

theorem tab_cell (j : Nat) (hj : j < tab.length) : ((tab.map (Value.int .i64)).toArray)[j]? = some (.int .i64 (tab.getD j 0)) := by
  simp [List.getD, hj]

def numF (l : List UInt8) (s : St) : Int × St :=
  let r := belowF l 8 s
  if r.1 = 0 then pickF l tab r.2
  else if r.1 = 1 then ((belowF l 1000000000 r.2).1 * (belowF l 1000000000 (belowF l 1000000000 r.2).2).1, (belowF l 1000000000 (belowF l 1000000000 r.2).2).2)
  else if r.1 = 2 then (-(belowF l 100000 r.2).1, (belowF l 100000 r.2).2)
  else belowF l 70000 r.2

theorem tab_bounds (j : Nat) : -9223372036854775808 ≤ tab.getD j 0 ∧ tab.getD j 0 ≤ 9223372036854775807 := by
  by_cases h : j < 17
  · have : ∀ k : Fin 17, -9223372036854775808 ≤ tab.getD k.val 0 ∧ tab.getD k.val 0 ≤ 9223372036854775807 := by decide
    exact this ⟨j, h⟩
  · have : tab.getD j 0 = 0 := by
      rw [List.getD_eq_getElem?_getD, List.getElem?_eq_none (by show 17 ≤ j; omega)]
      rfl
    omega

theorem numF_bounds (l : List UInt8) (s : St) : -9223372036854775808 ≤ (numF l s).1 ∧ (numF l s).1 ≤ 9223372036854775807 := by
  unfold numF
  simp only
  split
  · exact tab_bounds _
  · split
    · have h1 := belowF_bounds l 1000000000 (belowF l 8 s).2 (by omega)
      have h2 := belowF_bounds l 1000000000 (belowF l 1000000000 (belowF l 8 s).2).2 (by omega)
      simp only
      generalize (belowF l 1000000000 (belowF l 8 s).2).1 = a at h1 ⊢
      generalize (belowF l 1000000000 (belowF l 1000000000 (belowF l 8 s).2).2).1 = b at h2 ⊢
      have h3 : 0 ≤ a * b := Int.mul_nonneg h1.1 h2.1
      have h4 : a * b ≤ 1000000000 * 1000000000 := Int.mul_le_mul (by omega) (by omega) h2.1 (by omega)
      omega
    · split
      · have h1 := belowF_bounds l 100000 (belowF l 8 s).2 (by omega)
        simp only
        omega
      · have h1 := belowF_bounds l 70000 (belowF l 8 s).2 (by omega)
        omega

set_option maxRecDepth 100000 in
/-- l1Num. -/
theorem num_any (c : Nat) (sv : Value) (l : List UInt8) (s : St) (w : World) (hc : Cu w c sv l s) :
    Calls Tryd.prog 21 #[.pointer (some ⟨c, 0, none⟩)] w fun e w' => IntAt c sv l (numF l s) w e w' := by
  have HB := hid (below_any c 8 sv l s w hc (by omega))
  have hbd := belowF_bounds l 8 s (by omega)
  have hcl := hc.lt
  clear hc
  unfold numF
  generalize belowF l 8 s = r at HB hbd ⊢
  obtain ⟨x, s1⟩ := r
  obtain ⟨x0, x1⟩ := hbd
  simp only at *
  by_cases h0 : x = 0
  · subst h0
    rw [if_pos rfl]
    go_enter Tryd.func21, Tryd.ntmps21
    go_wp2_with fail
    refine HB.out.mono ?_
    rintro e w1 ⟨rfl, hc1, hg1⟩
    have K2 := hid hg1
    have hlt1 := hc1.lt
    have K3 := fun o => hc1.below (B := w1.heap.size) ((Below.refl _ _).alloc (Nat.le_refl _) o) hlt1
    have K4 := hid K3
    clear K3 hc1 hg1
    go_wp2_with fail
    refine (pick_any c sv l s1 _ (K4.out _) w1.heap.size 17 tab (by decide) (by decide) (by omega) ?_).mono ?_
    · intro j hj
      refine (World.cell?_alloc_at _ _ _ _ rfl).trans ?_
      exact tab_cell j hj
    rintro e w2 ⟨rfl, hc2, hg2⟩
    have G2 := hid (grown_trans K2.out (grown_trans (below_grown ((Below.refl _ _).alloc (Nat.le_refl _) _)) hg2))
    have C2 := hid hc2
    clear hc2 hg2
    go_wp2_with fail
    go_ret
    exact ⟨rfl, C2.out, G2.out⟩
  · rw [if_neg h0]
    by_cases h1 : x = 1
    · subst h1
      rw [if_pos rfl]
      have B1 := hid fun w h => below_any c 1000000000 sv l s1 w h (by omega)
      have d1 := belowF_bounds l 1000000000 s1 (by omega)
      generalize belowF l 1000000000 s1 = r1 at B1 d1 ⊢
      obtain ⟨y, s2⟩ := r1
      have B2 := hid fun w h => below_any c 1000000000 sv l s2 w h (by omega)
      have d2 := belowF_bounds l 1000000000 s2 (by omega)
      simp only at *
      generalize belowF l 1000000000 s2 = r2 at B2 d2 ⊢
      obtain ⟨z, s3⟩ := r2
      simp only at *
      obtain ⟨y0, y1⟩ := d1
      obtain ⟨z0, z1⟩ := d2
      have hyz0 : 0 ≤ y * z := Int.mul_nonneg y0 z0
      have hyz : y * z ≤ 1000000000 * 1000000000 := Int.mul_le_mul (by omega) (by omega) z0 (by omega)
      have hyz1 : y * z ≤ 9223372036854775807 := by omega
      have hw := hid (show wrap64 (y * z) = y * z from IntWalk.wrap64_in _ (by omega))
      clear hyz
      go_enter Tryd.func21, Tryd.ntmps21
      go_wp2_with fail
      refine HB.out.mono ?_
      rintro e w1 ⟨rfl, hc1, hg1⟩
      have C1 := hid hc1
      have G1 := hid hg1
      clear hc1 hg1
      go_wp2_with fail
      refine (B1.out _ C1.out).mono ?_
      rintro e w2 ⟨rfl, hc2, hg2⟩
      have C2 := hid hc2
      have G2 := hid hg2
      clear hc2 hg2
      go_wp2_with fail
      refine (B2.out _ C2.out).mono ?_
      rintro e w3 ⟨rfl, hc3, hg3⟩
      have C3 := hid hc3
      have G3 := hid hg3
      clear hc3 hg3
      go_wp2_with fail
      go_ret
      exact ⟨rfl, C3.out, grown_trans (grown_trans G1.out G2.out) G3.out⟩
    · rw [if_neg h1]
      have e0 : (x == 0) = false := by simpa using h0
      have e1 : (x == 1) = false := by simpa using h1
      by_cases h2 : x = 2
      · subst h2
        rw [if_pos rfl]
        have B1 := hid fun w h => below_any c 100000 sv l s1 w h (by omega)
        have d1 := belowF_bounds l 100000 s1 (by omega)
        generalize belowF l 100000 s1 = r1 at B1 d1 ⊢
        obtain ⟨y, s2⟩ := r1
        simp only at *
        obtain ⟨y0, y1⟩ := d1
        clear e0 e1 h0 h1
        go_enter Tryd.func21, Tryd.ntmps21
        go_wp2_with fail
        refine HB.out.mono ?_
        rintro e w1 ⟨rfl, hc1, hg1⟩
        have C1 := hid hc1
        have G1 := hid hg1
        clear hc1 hg1
        go_wp2_with fail
        refine (B1.out _ C1.out).mono ?_
        rintro e w2 ⟨rfl, hc2, hg2⟩
        have C2 := hid hc2
        have G2 := hid hg2
        clear hc2 hg2
        go_wp2_with fail
        go_ret
        exact ⟨rfl, C2.out, grown_trans G1.out G2.out⟩
      · rw [if_neg h2]
        have e2 : (x == 2) = false := by simpa using h2
        have B1 := hid fun w h => below_any c 70000 sv l s1 w h (by omega)
        generalize belowF l 70000 s1 = r1 at B1 ⊢
        obtain ⟨y, s2⟩ := r1
        simp only at *
        clear h0 h1 h2
        go_enter Tryd.func21, Tryd.ntmps21
        go_wp2_with fail
        refine HB.out.mono ?_
        rintro e w1 ⟨rfl, hc1, hg1⟩
        have C1 := hid hc1
        have G1 := hid hg1
        clear hc1 hg1
        go_wp2_with fail
        refine (B1.out _ C1.out).mono ?_
        rintro e w2 ⟨rfl, hc2, hg2⟩
        have C2 := hid hc2
        have G2 := hid hg2
        clear hc2 hg2
        go_wp2_with fail
        go_ret
        exact ⟨rfl, C2.out, grown_trans G1.out G2.out⟩

end Go.Proofs.YteaehhidoiiclaaDoor.NumDraw
