/- Equality of iterators, both sides. -/
import Derived.Test.YtliomgoakiidfaaItLaw
import Derived.Test.YtliomgoakiidfaaTriV
import Derived.Test.YtliomgoakiidfaaRelEqI
import Derived.Test.YtliomgoakiidfaaRelEqS
import Derived.Test.YtliomgoakiidfaaLibEqual
import Derived.Deep.RegionHeld3
import Derived.Deep.DeepCutAuto
import Derived.BigQuiet
import Derived.Deep.DrawnRows
namespace Go.Proofs.Ytliomgoakiidfaa.ItEq
open Go.RowKit
open Go.Proofs.Ytliomgoakiidfaa.Num Go.Proofs.Ytliomgoakiidfaa.IntRow Go.Proofs.Ytliomgoakiidfaa.Vals Go.Proofs.Ytliomgoakiidfaa.CmpL Go.Proofs.Ytliomgoakiidfaa.RowCmp Go.Proofs.Ytliomgoakiidfaa.RowCmpS Go.Proofs.Ytliomgoakiidfaa.Grid Go.Proofs.Ytliomgoakiidfaa.Asc Go.Proofs.Ytliomgoakiidfaa.IntLaw Go.Proofs.Ytliomgoakiidfaa.GridMore Go.Proofs.Ytliomgoakiidfaa.GridLaw Go.Proofs.Ytliomgoakiidfaa.GridLaw2 Go.Proofs.Ytliomgoakiidfaa.Keep Go.Proofs.Ytliomgoakiidfaa.Kept Go.Proofs.Ytliomgoakiidfaa.Cells Go.Proofs.Ytliomgoakiidfaa.RelKit Go.Proofs.Ytliomgoakiidfaa.HasL Go.Proofs.Ytliomgoakiidfaa.ItLaw Go.Proofs.Ytliomgoakiidfaa.TriV Go.Proofs.Ytliomgoakiidfaa.RelEqS Go.Proofs.Ytliomgoakiidfaa.RelEqI Go.Proofs.Ytliomgoakiidfaa.LibEqual
set_option linter.unusedVariables false
set_option linter.unusedSimpArgs false

def eqI (n0 n1 : Int) (xss0 xss1 : List (List Int)) (L0 L1 H0 H1 P0 P1 : List Int) : Bool := eqR n0 n1 xss0 xss1 && decide (L0 = L1) && decide (H0 = H1) && decide (P0 = P1)
theorem cmp_dec (xs ys : List Int) : (cmpL xs ys == 0) = decide (xs = ys) := by
  by_cases h : xs = ys
  · subst h; simp [cmpL_self]
  · have : ¬ cmpL xs ys = 0 := fun e => h (cmpL_zero e)
    simp [h, this]

set_option maxRecDepth 100000 in
set_option maxHeartbeats 4000000 in
theorem impl_eqi (n0 : Int) (a0 l0 h0 p0 : Option Addr) (cap0 capl0 caph0 capp0 : Nat) (xss0 : List (List Int)) (L0 H0 P0 : List Int) (B0 : Nat) (n1 : Int) (a1 l1 h1 p1 : Option Addr) (cap1 capl1 caph1 capp1 : Nat) (xss1 : List (List Int)) (L1 H1 P1 : List Int) (B1 : Nat) (w : World) (hs0 : szI xss0 L0 H0 P0 ≤ 1048576) (r0 : ItRd w B0 a0 l0 h0 p0 cap0 capl0 caph0 capp0 xss0 L0 H0 P0) (hB0 : B0 ≤ w.heap.size) (hs1 : szI xss1 L1 H1 P1 ≤ 1048576) (r1 : ItRd w B1 a1 l1 h1 p1 cap1 capl1 caph1 capp1 xss1 L1 H1 P1) (hB1 : B1 ≤ w.heap.size) :
    Calls Try.prog 28 #[.agg #[.int .i64 n0, .slice a0 xss0.length cap0, .slice l0 L0.length capl0, .slice h0 H0.length caph0, .slice p0 P0.length capp0], .agg #[.int .i64 n1, .slice a1 xss1.length cap1, .slice l1 L1.length capl1, .slice h1 H1.length caph1, .slice p1 P1.length capp1]] w fun e w' => e = .returned (.bool (eqI n0 n1 xss0 xss1 L0 L1 H0 H1 P0 P1)) ∧ Below w.heap.size w w' := by
  obtain ⟨m1, ml, mx, m3, m4, m5, _, _⟩ := szI_parts hs0
  obtain ⟨k1, kl, kx, k3, k4, k5, _, _⟩ := szI_parts hs1
  have B2 := hid (((Below.refl w.heap.size w).alloc (Nat.le_refl _) (.cells #[.int .i64 n0, .slice a0 xss0.length cap0, .slice l0 L0.length capl0, .slice h0 H0.length caph0, .slice p0 P0.length capp0] 29)).alloc (by simp) (.cells #[.int .i64 n1, .slice a1 xss1.length cap1, .slice l1 L1.length capl1, .slice h1 H1.length caph1, .slice p1 P1.length capp1] 29))
  have K0 := hid ((hasl_new w [.int .i64 n0, .slice a0 xss0.length cap0, .slice l0 L0.length capl0, .slice h0 H0.length caph0, .slice p0 P0.length capp0] 29).alloc (.cells #[.int .i64 n1, .slice a1 xss1.length cap1, .slice l1 L1.length capl1, .slice h1 H1.length caph1, .slice p1 P1.length capp1] 29))
  have K1 := hid (hasl_new (w.alloc (.cells #[.int .i64 n0, .slice a0 xss0.length cap0, .slice l0 L0.length capl0, .slice h0 H0.length caph0, .slice p0 P0.length capp0] 29)) [.int .i64 n1, .slice a1 xss1.length cap1, .slice l1 L1.length capl1, .slice h1 H1.length caph1, .slice p1 P1.length capp1] 29)
  simp only [World.size_alloc] at K1
  have R := hid (And.intro r0 r1)
  have MX := hid (And.intro mx kx)
  obtain ⟨rv, hrv⟩ : ∃ z, eqR n0 n1 xss0 xss1 = z := ⟨_, rfl⟩
  obtain ⟨en, hen⟩ : ∃ z, eqI n0 n1 xss0 xss1 L0 L1 H0 H1 P0 P1 = z := ⟨_, rfl⟩
  rw [hen]
  have HEN := hid hen
  have HRV := hid hrv
  have E := hid (impl_eqr n0 n1 a0 a1 _ _ cap0 cap1 B0 B1 xss0 xss1 _ rfl rfl ml kl mx kx (r0.t.below (B2.out.mono hB0)) (r1.t.below (B2.out.mono hB1)) (Nat.le_trans hB0 B2.out.size) (Nat.le_trans hB1 B2.out.size))
  rw [hrv] at E
  have EL := hid (fun W (hW : Below w.heap.size w W) => lib_equal l0 l1 L0.length L1.length capl0 capl1 B0 B1 L0 L1 W rfl rfl m3 k3 (R.out.1.l.below (hW.mono hB0)) (R.out.2.l.below (hW.mono hB1)) (Nat.le_trans hB0 hW.size) (Nat.le_trans hB1 hW.size))
  obtain ⟨vl, hvl⟩ : ∃ z, decide (L0 = L1) = z := ⟨_, rfl⟩
  rw [hvl] at EL
  have EH := hid (fun W (hW : Below w.heap.size w W) => lib_equal h0 h1 H0.length H1.length caph0 caph1 B0 B1 H0 H1 W rfl rfl m4 k4 (R.out.1.h.below (hW.mono hB0)) (R.out.2.h.below (hW.mono hB1)) (Nat.le_trans hB0 hW.size) (Nat.le_trans hB1 hW.size))
  obtain ⟨vh, hvh⟩ : ∃ z, decide (H0 = H1) = z := ⟨_, rfl⟩
  rw [hvh] at EH
  have EP := hid (fun W (hW : Below w.heap.size w W) => lib_equal p0 p1 P0.length P1.length capp0 capp1 B0 B1 P0 P1 W rfl rfl m5 k5 (R.out.1.p.below (hW.mono hB0)) (R.out.2.p.below (hW.mono hB1)) (Nat.le_trans hB0 hW.size) (Nat.le_trans hB1 hW.size))
  obtain ⟨vp, hvp⟩ : ∃ z, decide (P0 = P1) = z := ⟨_, rfl⟩
  rw [hvp] at EP
  unfold eqI at hen
  rw [hrv, hvl, hvh, hvp] at hen
  clear HEN
  have HEN := hid hen
  obtain ⟨c0, c1, c2, c3, c4, _, _, _, _, _, zc⟩ := five K0.out
  obtain ⟨d0, d1, d2, d3, d4, _, _, _, _, _, zd⟩ := five K1.out
  clear r0 r1 hs0 hs1 mx kx hrv hen hvl hvh hvp
  go_enter Try.func28, Try.ntmps28
  go_wp2_with fail
  with_reducible refine E.out.mono ?_
  rintro e w1 ⟨rfl, hb⟩
  have BB := hid (B2.out.trans (hb.mono B2.out.size))
  replace K0 := hid (K0.out.below hb)
  replace K1 := hid (K1.out.below hb)
  clear c0 c1 c2 c3 c4 zc d0 d1 d2 d3 d4 zd hb E
  obtain ⟨c0, c1, c2, c3, c4, _, _, _, _, _, zc⟩ := five K0.out
  obtain ⟨d0, d1, d2, d3, d4, _, _, _, _, _, zd⟩ := five K1.out
  cases rv with
  | false =>
    obtain rfl : false = en := by rw [← HEN.out]; simp
    go_wp2
    go_ret
    exact ⟨rfl, BB.out⟩
  | true =>
    go_wp2_with fail
    with_reducible refine (EL.out _ BB.out).mono ?_
    rintro e w2 ⟨rfl, hb⟩
    have BL := hid (BB.out.trans (hb.mono BB.out.size))
    replace K0 := hid (K0.out.below hb)
    replace K1 := hid (K1.out.below hb)
    clear c0 c1 c2 c3 c4 zc d0 d1 d2 d3 d4 zd hb EL
    obtain ⟨c0, c1, c2, c3, c4, _, _, _, _, _, zc⟩ := five K0.out
    obtain ⟨d0, d1, d2, d3, d4, _, _, _, _, _, zd⟩ := five K1.out
    cases vl with
    | false =>
      obtain rfl : false = en := by rw [← HEN.out]; simp
      go_wp2
      go_ret
      exact ⟨rfl, BL.out⟩
    | true =>
      go_wp2_with fail
      with_reducible refine (EH.out _ BL.out).mono ?_
      rintro e w3 ⟨rfl, hb⟩
      have BH := hid (BL.out.trans (hb.mono BL.out.size))
      replace K0 := hid (K0.out.below hb)
      replace K1 := hid (K1.out.below hb)
      clear c0 c1 c2 c3 c4 zc d0 d1 d2 d3 d4 zd hb EH
      obtain ⟨c0, c1, c2, c3, c4, _, _, _, _, _, zc⟩ := five K0.out
      obtain ⟨d0, d1, d2, d3, d4, _, _, _, _, _, zd⟩ := five K1.out
      cases vh with
      | false =>
        obtain rfl : false = en := by rw [← HEN.out]; simp
        go_wp2
        go_ret
        exact ⟨rfl, BH.out⟩
      | true =>
        go_wp2_with fail
        with_reducible refine (EP.out _ BH.out).mono ?_
        rintro e w4 ⟨rfl, hb⟩
        have BP := hid (BH.out.trans (hb.mono BH.out.size))
        replace K0 := hid (K0.out.below hb)
        replace K1 := hid (K1.out.below hb)
        clear c0 c1 c2 c3 c4 zc d0 d1 d2 d3 d4 zd hb EP
        obtain ⟨c0, c1, c2, c3, c4, _, _, _, _, _, zc⟩ := five K0.out
        obtain ⟨d0, d1, d2, d3, d4, _, _, _, _, _, zd⟩ := five K1.out
        obtain rfl : vp = en := by rw [← HEN.out]; simp
        go_wp2
        go_ret
        exact ⟨rfl, BP.out⟩

set_option maxRecDepth 100000 in
set_option maxHeartbeats 8000000 in
theorem spec_eqi (n0 : Int) (a0 l0 h0 p0 : Option Addr) (cap0 capl0 caph0 capp0 : Nat) (xss0 : List (List Int)) (L0 H0 P0 : List Int) (B0 : Nat) (n1 : Int) (a1 l1 h1 p1 : Option Addr) (cap1 capl1 caph1 capp1 : Nat) (xss1 : List (List Int)) (L1 H1 P1 : List Int) (B1 : Nat) (w : World) (hs0 : szI xss0 L0 H0 P0 ≤ 1048576) (r0 : ItRd w B0 a0 l0 h0 p0 cap0 capl0 caph0 capp0 xss0 L0 H0 P0) (hB0 : B0 ≤ w.heap.size) (hs1 : szI xss1 L1 H1 P1 ≤ 1048576) (r1 : ItRd w B1 a1 l1 h1 p1 cap1 capl1 caph1 capp1 xss1 L1 H1 P1) (hB1 : B1 ≤ w.heap.size) :
    Calls Try.prog 21 #[.agg #[.int .i64 n0, .slice a0 xss0.length cap0, .slice l0 L0.length capl0, .slice h0 H0.length caph0, .slice p0 P0.length capp0], .agg #[.int .i64 n1, .slice a1 xss1.length cap1, .slice l1 L1.length capl1, .slice h1 H1.length caph1, .slice p1 P1.length capp1]] w fun e w' => e = .returned (.bool (eqI n0 n1 xss0 xss1 L0 L1 H0 H1 P0 P1)) ∧ Below w.heap.size w w' := by
  obtain ⟨m1, ml, mx, m3, m4, m5, _, _⟩ := szI_parts hs0
  obtain ⟨k1, kl, kx, k3, k4, k5, _, _⟩ := szI_parts hs1
  have B2 := hid (((Below.refl w.heap.size w).alloc (Nat.le_refl _) (.cells #[.int .i64 n0, .slice a0 xss0.length cap0, .slice l0 L0.length capl0, .slice h0 H0.length caph0, .slice p0 P0.length capp0] 29)).alloc (by simp) (.cells #[.int .i64 n1, .slice a1 xss1.length cap1, .slice l1 L1.length capl1, .slice h1 H1.length caph1, .slice p1 P1.length capp1] 29))
  have K0 := hid ((hasl_new w [.int .i64 n0, .slice a0 xss0.length cap0, .slice l0 L0.length capl0, .slice h0 H0.length caph0, .slice p0 P0.length capp0] 29).alloc (.cells #[.int .i64 n1, .slice a1 xss1.length cap1, .slice l1 L1.length capl1, .slice h1 H1.length caph1, .slice p1 P1.length capp1] 29))
  have K1 := hid (hasl_new (w.alloc (.cells #[.int .i64 n0, .slice a0 xss0.length cap0, .slice l0 L0.length capl0, .slice h0 H0.length caph0, .slice p0 P0.length capp0] 29)) [.int .i64 n1, .slice a1 xss1.length cap1, .slice l1 L1.length capl1, .slice h1 H1.length caph1, .slice p1 P1.length capp1] 29)
  simp only [World.size_alloc] at K1
  have R := hid (And.intro r0 r1)
  have MX := hid (And.intro mx kx)
  obtain ⟨rv, hrv⟩ : ∃ z, eqR n0 n1 xss0 xss1 = z := ⟨_, rfl⟩
  obtain ⟨en, hen⟩ : ∃ z, eqI n0 n1 xss0 xss1 L0 L1 H0 H1 P0 P1 = z := ⟨_, rfl⟩
  rw [hen]
  have HEN := hid hen
  have HRV := hid hrv
  have E := hid (fun W (hW : Below w.heap.size w W) => by
    have := spec_eqr n0 n1 a0 a1 _ _ cap0 cap1 B0 B1 xss0 xss1 W rfl rfl ml kl MX.out.1 MX.out.2 (R.out.1.t.below (hW.mono hB0)) (R.out.2.t.below (hW.mono hB1)) (Nat.le_trans hB0 hW.size) (Nat.le_trans hB1 hW.size)
    rw [hrv] at this
    exact this)
  have EL := hid (fun W (hW : Below w.heap.size w W) => spec_cmp l0 l1 capl0 capl1 B0 B1 L0 L1 W m3 k3 (R.out.1.l.below (hW.mono hB0)) (R.out.2.l.below (hW.mono hB1)) (Nat.le_trans hB0 hW.size) (Nat.le_trans hB1 hW.size))
  have hvl := cmp_dec L0 L1
  obtain ⟨vl, hwl⟩ : ∃ z, decide (L0 = L1) = z := ⟨_, rfl⟩
  obtain ⟨zl, hzl⟩ : ∃ z, cmpL L0 L1 = z := ⟨_, rfl⟩
  rw [hzl] at EL hvl
  rw [hwl] at hvl
  have EH := hid (fun W (hW : Below w.heap.size w W) => spec_cmp h0 h1 caph0 caph1 B0 B1 H0 H1 W m4 k4 (R.out.1.h.below (hW.mono hB0)) (R.out.2.h.below (hW.mono hB1)) (Nat.le_trans hB0 hW.size) (Nat.le_trans hB1 hW.size))
  have hvh := cmp_dec H0 H1
  obtain ⟨vh, hwh⟩ : ∃ z, decide (H0 = H1) = z := ⟨_, rfl⟩
  obtain ⟨zh, hzh⟩ : ∃ z, cmpL H0 H1 = z := ⟨_, rfl⟩
  rw [hzh] at EH hvh
  rw [hwh] at hvh
  have EP := hid (fun W (hW : Below w.heap.size w W) => spec_cmp p0 p1 capp0 capp1 B0 B1 P0 P1 W m5 k5 (R.out.1.p.below (hW.mono hB0)) (R.out.2.p.below (hW.mono hB1)) (Nat.le_trans hB0 hW.size) (Nat.le_trans hB1 hW.size))
  have hvp := cmp_dec P0 P1
  obtain ⟨vp, hwp⟩ : ∃ z, decide (P0 = P1) = z := ⟨_, rfl⟩
  obtain ⟨zp, hzp⟩ : ∃ z, cmpL P0 P1 = z := ⟨_, rfl⟩
  rw [hzp] at EP hvp
  rw [hwp] at hvp
  unfold eqI at hen
  rw [hrv, hwl, hwh, hwp] at hen
  clear HEN
  have HEN := hid hen
  have SA := hid (fun W => spec_rel n0 a0 xss0.length cap0 W)
  have SB := hid (fun W => spec_rel n1 a1 xss1.length cap1 W)
  obtain ⟨c0, c1, c2, c3, c4, _, _, _, _, _, zc⟩ := five K0.out
  obtain ⟨d0, d1, d2, d3, d4, _, _, _, _, _, zd⟩ := five K1.out
  obtain ⟨w0, hw0⟩ : ∃ wo : World, wo = (w.alloc (.cells #[.int .i64 n0, .slice a0 xss0.length cap0, .slice l0 L0.length capl0, .slice h0 H0.length caph0, .slice p0 P0.length capp0] 29)).alloc (.cells #[.int .i64 n1, .slice a1 xss1.length cap1, .slice l1 L1.length capl1, .slice h1 H1.length caph1, .slice p1 P1.length capp1] 29) := ⟨_, rfl⟩
  have hz0 : w.heap.size + 2 ≤ w0.heap.size := by rw [hw0]; simp
  rw [← hw0] at B2 c0 c1 c2 c3 c4 zc d0 d1 d2 d3 d4 zd
  have HW0 := hid hw0
  clear r0 r1 hs0 hs1 mx kx hrv hen hwl hwh hwp hzl hzh hzp hw0 K0 K1
  cases rv with
  | false =>
    obtain rfl : false = en := by rw [← HEN.out]; simp
    go_enter Try.func21, Try.ntmps21
    go_upto_region 1 with fail
    rw [← HW0.out]
    go_cut [4] (fun s wx => s = .bool false ∧ Kp w0 0 wx)
    case first =>
      refine wp_region_held_drew (S := (fun w' => w'.cell? ⟨w.heap.size, 0, none⟩ = some (.int .i64 n0) ∧ w'.cell? ⟨w.heap.size, 1, none⟩ = some (.slice a0 xss0.length cap0) ∧ w'.cell? ⟨w.heap.size, 2, none⟩ = some (.slice l0 L0.length capl0) ∧ w'.cell? ⟨w.heap.size, 3, none⟩ = some (.slice h0 H0.length caph0) ∧ w'.cell? ⟨w.heap.size, 4, none⟩ = some (.slice p0 P0.length capp0) ∧ w'.cell? ⟨w.heap.size + 1, 0, none⟩ = some (.int .i64 n1) ∧ w'.cell? ⟨w.heap.size + 1, 1, none⟩ = some (.slice a1 xss1.length cap1) ∧ w'.cell? ⟨w.heap.size + 1, 2, none⟩ = some (.slice l1 L1.length capl1) ∧ w'.cell? ⟨w.heap.size + 1, 3, none⟩ = some (.slice h1 H1.length caph1) ∧ w'.cell? ⟨w.heap.size + 1, 4, none⟩ = some (.slice p1 P1.length capp1) ∧ Kp w0 0 w')) (by kernel_rfl) ⟨c0, c1, c2, c3, c4, d0, d1, d2, d3, d4, (kp_refl w0).drew⟩ (fun hHeld => ?_)
      refine wpAnyH_take (i := 0) (oi := { dst := some 5, op := .fieldAddr 29 (.tmp 2) 0, type := _, pos := _, after := _, guard := none }) (v := ?_) rfl (by kernel_rfl) (by kernel_rfl) (by kernel_rfl) (fun _ _ _ h => h) ?_ hHeld ?_
      rotate_left
      · (refine Or.inl ⟨by rfl, fun w hSw => ?_⟩; (try dsimp only at hSw); go_simp; (try with_reducible rfl))
      (try simp only [Act.put, List.setIfInBounds_toArray, List.set_cons_zero, List.set_cons_succ])
      refine wpAnyH_take (i := 1) (oi := { dst := some 6, op := .load 26 (.tmp 5), type := _, pos := _, after := _, guard := none }) (v := ?_) rfl (by kernel_rfl) (by kernel_rfl) (by kernel_rfl) (fun _ _ _ h => h) ?_ hHeld ?_
      rotate_left
      · (refine Or.inl ⟨by rfl, fun w hSw => ?_⟩; (try dsimp only at hSw); go_simp; (try with_reducible rfl))
      (try simp only [Act.put, List.setIfInBounds_toArray, List.set_cons_zero, List.set_cons_succ])
      refine wpAnyH_take (i := 3) (oi := { dst := some 8, op := .fieldAddr 29 (.tmp 3) 0, type := _, pos := _, after := _, guard := none }) (v := ?_) rfl (by kernel_rfl) (by kernel_rfl) (by kernel_rfl) (fun _ _ _ h => h) ?_ hHeld ?_
      rotate_left
      · (refine Or.inl ⟨by rfl, fun w hSw => ?_⟩; (try dsimp only at hSw); go_simp; (try with_reducible rfl))
      (try simp only [Act.put, List.setIfInBounds_toArray, List.set_cons_zero, List.set_cons_succ])
      refine wpAnyH_take (i := 4) (oi := { dst := some 9, op := .load 26 (.tmp 8), type := _, pos := _, after := _, guard := none }) (v := ?_) rfl (by kernel_rfl) (by kernel_rfl) (by kernel_rfl) (fun _ _ _ h => h) ?_ hHeld ?_
      rotate_left
      · (refine Or.inl ⟨by rfl, fun w hSw => ?_⟩; (try dsimp only at hSw); go_simp; (try with_reducible rfl))
      (try simp only [Act.put, List.setIfInBounds_toArray, List.set_cons_zero, List.set_cons_succ])
      refine wpAnyH_ready (rs := [2]) (by kernel_rfl) (by simp) ?_
      refine AllReadyH.cons (o := { dst := some 7, op := .call { callee := .value (.func 64), args := #[(.tmp 6)], argTypes := #[26] }, type := _, pos := _, after := _, guard := none }) rfl (fun K hK => ?_) AllReadyH.nil
      go_simp
      (with_reducible refine (SA.out _).mono ?_); rintro e wA ⟨rfl, hbwA⟩
      (try go_wp2_with fail)
      refine hK.out _ _ ?_ (fun hH2 => ?_)
      · exact ⟨hHeld.2.2.2.2.2.2.2.2.2.2.cell hbwA (by omega) hHeld.1, hHeld.2.2.2.2.2.2.2.2.2.2.cell hbwA (by omega) hHeld.2.1, hHeld.2.2.2.2.2.2.2.2.2.2.cell hbwA (by omega) hHeld.2.2.1, hHeld.2.2.2.2.2.2.2.2.2.2.cell hbwA (by omega) hHeld.2.2.2.1, hHeld.2.2.2.2.2.2.2.2.2.2.cell hbwA (by omega) hHeld.2.2.2.2.1, hHeld.2.2.2.2.2.2.2.2.2.2.cell hbwA (by omega) hHeld.2.2.2.2.2.1, hHeld.2.2.2.2.2.2.2.2.2.2.cell hbwA (by omega) hHeld.2.2.2.2.2.2.1, hHeld.2.2.2.2.2.2.2.2.2.2.cell hbwA (by omega) hHeld.2.2.2.2.2.2.2.1, hHeld.2.2.2.2.2.2.2.2.2.2.cell hbwA (by omega) hHeld.2.2.2.2.2.2.2.2.1, hHeld.2.2.2.2.2.2.2.2.2.2.cell hbwA (by omega) hHeld.2.2.2.2.2.2.2.2.2.1, hHeld.2.2.2.2.2.2.2.2.2.2.call hbwA⟩
      clear hK K hHeld
      have hHeld := hH2
      clear hH2
      (try simp only [Act.put, List.setIfInBounds_toArray, List.set_cons_zero, List.set_cons_succ])
      refine wpAnyH_ready (rs := [5]) (by kernel_rfl) (by simp) ?_
      refine AllReadyH.cons (o := { dst := some 10, op := .call { callee := .value (.func 64), args := #[(.tmp 9)], argTypes := #[26] }, type := _, pos := _, after := _, guard := none }) rfl (fun K hK => ?_) AllReadyH.nil
      go_simp
      (with_reducible refine (SB.out _).mono ?_); rintro e wB ⟨rfl, hbwB⟩
      (try go_wp2_with fail)
      refine hK.out _ _ ?_ (fun hH2 => ?_)
      · exact ⟨hHeld.2.2.2.2.2.2.2.2.2.2.cell hbwB (by omega) hHeld.1, hHeld.2.2.2.2.2.2.2.2.2.2.cell hbwB (by omega) hHeld.2.1, hHeld.2.2.2.2.2.2.2.2.2.2.cell hbwB (by omega) hHeld.2.2.1, hHeld.2.2.2.2.2.2.2.2.2.2.cell hbwB (by omega) hHeld.2.2.2.1, hHeld.2.2.2.2.2.2.2.2.2.2.cell hbwB (by omega) hHeld.2.2.2.2.1, hHeld.2.2.2.2.2.2.2.2.2.2.cell hbwB (by omega) hHeld.2.2.2.2.2.1, hHeld.2.2.2.2.2.2.2.2.2.2.cell hbwB (by omega) hHeld.2.2.2.2.2.2.1, hHeld.2.2.2.2.2.2.2.2.2.2.cell hbwB (by omega) hHeld.2.2.2.2.2.2.2.1, hHeld.2.2.2.2.2.2.2.2.2.2.cell hbwB (by omega) hHeld.2.2.2.2.2.2.2.2.1, hHeld.2.2.2.2.2.2.2.2.2.2.cell hbwB (by omega) hHeld.2.2.2.2.2.2.2.2.2.1, hHeld.2.2.2.2.2.2.2.2.2.2.call hbwB⟩
      clear hK K hHeld
      have hHeld := hH2
      clear hH2
      (try simp only [Act.put, List.setIfInBounds_toArray, List.set_cons_zero, List.set_cons_succ])
      refine wpAnyH_ready (rs := [6]) (by kernel_rfl) (by simp) ?_
      refine AllReadyH.cons (o := { dst := some 11, op := .call { callee := .value (.func 63), args := #[(.tmp 7), (.tmp 10)], argTypes := #[70, 70] }, type := _, pos := _, after := _, guard := none }) rfl (fun K hK => ?_) AllReadyH.nil
      go_simp
      (with_reducible refine (E.out _ (B2.out.trans (hHeld.2.2.2.2.2.2.2.2.2.2.bel.mono (by omega)))).mono ?_); rintro e wC ⟨rfl, hbwC⟩
      (try go_wp2_with fail)
      refine hK.out _ _ ?_ (fun hH2 => ?_)
      · exact ⟨hHeld.2.2.2.2.2.2.2.2.2.2.cell hbwC (by omega) hHeld.1, hHeld.2.2.2.2.2.2.2.2.2.2.cell hbwC (by omega) hHeld.2.1, hHeld.2.2.2.2.2.2.2.2.2.2.cell hbwC (by omega) hHeld.2.2.1, hHeld.2.2.2.2.2.2.2.2.2.2.cell hbwC (by omega) hHeld.2.2.2.1, hHeld.2.2.2.2.2.2.2.2.2.2.cell hbwC (by omega) hHeld.2.2.2.2.1, hHeld.2.2.2.2.2.2.2.2.2.2.cell hbwC (by omega) hHeld.2.2.2.2.2.1, hHeld.2.2.2.2.2.2.2.2.2.2.cell hbwC (by omega) hHeld.2.2.2.2.2.2.1, hHeld.2.2.2.2.2.2.2.2.2.2.cell hbwC (by omega) hHeld.2.2.2.2.2.2.2.1, hHeld.2.2.2.2.2.2.2.2.2.2.cell hbwC (by omega) hHeld.2.2.2.2.2.2.2.2.1, hHeld.2.2.2.2.2.2.2.2.2.2.cell hbwC (by omega) hHeld.2.2.2.2.2.2.2.2.2.1, hHeld.2.2.2.2.2.2.2.2.2.2.call hbwC⟩
      clear hK K hHeld
      have hHeld := hH2
      clear hH2
      (try simp only [Act.put, List.setIfInBounds_toArray, List.set_cons_zero, List.set_cons_succ])
      refine wpAnyH_take (i := 7) (oi := { dst := some 12, op := .move (.tmp 11), type := _, pos := _, after := _, guard := none }) (v := ?_) rfl (by kernel_rfl) (by kernel_rfl) (by kernel_rfl) (fun _ _ _ h => h) ?_ hHeld ?_
      rotate_left
      · (refine Or.inl ⟨by rfl, fun w hSw => ?_⟩; (try dsimp only at hSw); go_simp; (try with_reducible rfl))
      (try simp only [Act.put, List.setIfInBounds_toArray, List.set_cons_zero, List.set_cons_succ])
      refine wpAnyH_take (i := 8) (oi := { dst := some 13, op := .fieldAddr 29 (.tmp 2) 1, type := _, pos := _, after := _, guard := some (7, true) }) (v := undef) rfl (by kernel_rfl) (by kernel_rfl) (by kernel_rfl) (fun _ _ _ h => h) (Or.inr ?_) hHeld ?_
      · exact ⟨by rfl, rfl⟩
      (try simp only [Act.put, List.setIfInBounds_toArray, List.set_cons_zero, List.set_cons_succ])
      refine wpAnyH_take (i := 9) (oi := { dst := some 14, op := .load 27 (.tmp 13), type := _, pos := _, after := _, guard := some (7, true) }) (v := undef) rfl (by kernel_rfl) (by kernel_rfl) (by kernel_rfl) (fun _ _ _ h => h) (Or.inr ?_) hHeld ?_
      · exact ⟨by rfl, rfl⟩
      (try simp only [Act.put, List.setIfInBounds_toArray, List.set_cons_zero, List.set_cons_succ])
      refine wpAnyH_take (i := 10) (oi := { dst := some 15, op := .fieldAddr 29 (.tmp 3) 1, type := _, pos := _, after := _, guard := some (7, true) }) (v := undef) rfl (by kernel_rfl) (by kernel_rfl) (by kernel_rfl) (fun _ _ _ h => h) (Or.inr ?_) hHeld ?_
      · exact ⟨by rfl, rfl⟩
      (try simp only [Act.put, List.setIfInBounds_toArray, List.set_cons_zero, List.set_cons_succ])
      refine wpAnyH_take (i := 11) (oi := { dst := some 16, op := .load 27 (.tmp 15), type := _, pos := _, after := _, guard := some (7, true) }) (v := undef) rfl (by kernel_rfl) (by kernel_rfl) (by kernel_rfl) (fun _ _ _ h => h) (Or.inr ?_) hHeld ?_
      · exact ⟨by rfl, rfl⟩
      (try simp only [Act.put, List.setIfInBounds_toArray, List.set_cons_zero, List.set_cons_succ])
      refine wpAnyH_take (i := 12) (oi := { dst := some 17, op := .call { callee := .value (.func 65), args := #[(.tmp 14), (.tmp 16)], argTypes := #[27, 27] }, type := _, pos := _, after := _, guard := some (7, true) }) (v := undef) rfl (by kernel_rfl) (by kernel_rfl) (by kernel_rfl) (fun _ _ _ h => h) (Or.inr ?_) hHeld ?_
      · exact ⟨by rfl, rfl⟩
      (try simp only [Act.put, List.setIfInBounds_toArray, List.set_cons_zero, List.set_cons_succ])
      refine wpAnyH_take (i := 13) (oi := { dst := some 18, op := .binOp .eql 3 (.tmp 17) (.const (.int .i64 0)) 3, type := _, pos := _, after := _, guard := some (7, true) }) (v := undef) rfl (by kernel_rfl) (by kernel_rfl) (by kernel_rfl) (fun _ _ _ h => h) (Or.inr ?_) hHeld ?_
      · exact ⟨by rfl, rfl⟩
      (try simp only [Act.put, List.setIfInBounds_toArray, List.set_cons_zero, List.set_cons_succ])
      refine wpAnyH_take (i := 14) (oi := { dst := some 19, op := .pick (.tmp 12) (.tmp 18) (.const (.bool false)), type := _, pos := _, after := _, guard := none }) (v := ?_) rfl (by kernel_rfl) (by kernel_rfl) (by kernel_rfl) (fun _ _ _ h => h) ?_ hHeld ?_
      rotate_left
      · (refine Or.inl ⟨by rfl, fun w hSw => ?_⟩; (try dsimp only at hSw); go_simp; (try with_reducible rfl))
      (try simp only [Act.put, List.setIfInBounds_toArray, List.set_cons_zero, List.set_cons_succ])
      refine wpAnyH_take (i := 15) (oi := { dst := some 20, op := .move (.tmp 19), type := _, pos := _, after := _, guard := none }) (v := ?_) rfl (by kernel_rfl) (by kernel_rfl) (by kernel_rfl) (fun _ _ _ h => h) ?_ hHeld ?_
      rotate_left
      · (refine Or.inl ⟨by rfl, fun w hSw => ?_⟩; (try dsimp only at hSw); go_simp; (try with_reducible rfl))
      (try simp only [Act.put, List.setIfInBounds_toArray, List.set_cons_zero, List.set_cons_succ])
      refine wpAnyH_take (i := 16) (oi := { dst := some 21, op := .fieldAddr 29 (.tmp 2) 2, type := _, pos := _, after := _, guard := some (15, true) }) (v := undef) rfl (by kernel_rfl) (by kernel_rfl) (by kernel_rfl) (fun _ _ _ h => h) (Or.inr ?_) hHeld ?_
      · exact ⟨by rfl, rfl⟩
      (try simp only [Act.put, List.setIfInBounds_toArray, List.set_cons_zero, List.set_cons_succ])
      refine wpAnyH_take (i := 17) (oi := { dst := some 22, op := .load 27 (.tmp 21), type := _, pos := _, after := _, guard := some (15, true) }) (v := undef) rfl (by kernel_rfl) (by kernel_rfl) (by kernel_rfl) (fun _ _ _ h => h) (Or.inr ?_) hHeld ?_
      · exact ⟨by rfl, rfl⟩
      (try simp only [Act.put, List.setIfInBounds_toArray, List.set_cons_zero, List.set_cons_succ])
      refine wpAnyH_take (i := 18) (oi := { dst := some 23, op := .fieldAddr 29 (.tmp 3) 2, type := _, pos := _, after := _, guard := some (15, true) }) (v := undef) rfl (by kernel_rfl) (by kernel_rfl) (by kernel_rfl) (fun _ _ _ h => h) (Or.inr ?_) hHeld ?_
      · exact ⟨by rfl, rfl⟩
      (try simp only [Act.put, List.setIfInBounds_toArray, List.set_cons_zero, List.set_cons_succ])
      refine wpAnyH_take (i := 19) (oi := { dst := some 24, op := .load 27 (.tmp 23), type := _, pos := _, after := _, guard := some (15, true) }) (v := undef) rfl (by kernel_rfl) (by kernel_rfl) (by kernel_rfl) (fun _ _ _ h => h) (Or.inr ?_) hHeld ?_
      · exact ⟨by rfl, rfl⟩
      (try simp only [Act.put, List.setIfInBounds_toArray, List.set_cons_zero, List.set_cons_succ])
      refine wpAnyH_take (i := 20) (oi := { dst := some 25, op := .call { callee := .value (.func 65), args := #[(.tmp 22), (.tmp 24)], argTypes := #[27, 27] }, type := _, pos := _, after := _, guard := some (15, true) }) (v := undef) rfl (by kernel_rfl) (by kernel_rfl) (by kernel_rfl) (fun _ _ _ h => h) (Or.inr ?_) hHeld ?_
      · exact ⟨by rfl, rfl⟩
      (try simp only [Act.put, List.setIfInBounds_toArray, List.set_cons_zero, List.set_cons_succ])
      refine wpAnyH_take (i := 21) (oi := { dst := some 26, op := .binOp .eql 3 (.tmp 25) (.const (.int .i64 0)) 3, type := _, pos := _, after := _, guard := some (15, true) }) (v := undef) rfl (by kernel_rfl) (by kernel_rfl) (by kernel_rfl) (fun _ _ _ h => h) (Or.inr ?_) hHeld ?_
      · exact ⟨by rfl, rfl⟩
      (try simp only [Act.put, List.setIfInBounds_toArray, List.set_cons_zero, List.set_cons_succ])
      refine wpAnyH_take (i := 22) (oi := { dst := some 27, op := .pick (.tmp 20) (.tmp 26) (.const (.bool false)), type := _, pos := _, after := _, guard := none }) (v := ?_) rfl (by kernel_rfl) (by kernel_rfl) (by kernel_rfl) (fun _ _ _ h => h) ?_ hHeld ?_
      rotate_left
      · (refine Or.inl ⟨by rfl, fun w hSw => ?_⟩; (try dsimp only at hSw); go_simp; (try with_reducible rfl))
      (try simp only [Act.put, List.setIfInBounds_toArray, List.set_cons_zero, List.set_cons_succ])
      refine wpAnyH_take (i := 23) (oi := { dst := some 28, op := .move (.tmp 27), type := _, pos := _, after := _, guard := none }) (v := ?_) rfl (by kernel_rfl) (by kernel_rfl) (by kernel_rfl) (fun _ _ _ h => h) ?_ hHeld ?_
      rotate_left
      · (refine Or.inl ⟨by rfl, fun w hSw => ?_⟩; (try dsimp only at hSw); go_simp; (try with_reducible rfl))
      (try simp only [Act.put, List.setIfInBounds_toArray, List.set_cons_zero, List.set_cons_succ])
      refine wpAnyH_take (i := 24) (oi := { dst := some 29, op := .fieldAddr 29 (.tmp 2) 3, type := _, pos := _, after := _, guard := some (23, true) }) (v := undef) rfl (by kernel_rfl) (by kernel_rfl) (by kernel_rfl) (fun _ _ _ h => h) (Or.inr ?_) hHeld ?_
      · exact ⟨by rfl, rfl⟩
      (try simp only [Act.put, List.setIfInBounds_toArray, List.set_cons_zero, List.set_cons_succ])
      refine wpAnyH_take (i := 25) (oi := { dst := some 30, op := .load 27 (.tmp 29), type := _, pos := _, after := _, guard := some (23, true) }) (v := undef) rfl (by kernel_rfl) (by kernel_rfl) (by kernel_rfl) (fun _ _ _ h => h) (Or.inr ?_) hHeld ?_
      · exact ⟨by rfl, rfl⟩
      (try simp only [Act.put, List.setIfInBounds_toArray, List.set_cons_zero, List.set_cons_succ])
      refine wpAnyH_take (i := 26) (oi := { dst := some 31, op := .fieldAddr 29 (.tmp 3) 3, type := _, pos := _, after := _, guard := some (23, true) }) (v := undef) rfl (by kernel_rfl) (by kernel_rfl) (by kernel_rfl) (fun _ _ _ h => h) (Or.inr ?_) hHeld ?_
      · exact ⟨by rfl, rfl⟩
      (try simp only [Act.put, List.setIfInBounds_toArray, List.set_cons_zero, List.set_cons_succ])
      refine wpAnyH_take (i := 27) (oi := { dst := some 32, op := .load 27 (.tmp 31), type := _, pos := _, after := _, guard := some (23, true) }) (v := undef) rfl (by kernel_rfl) (by kernel_rfl) (by kernel_rfl) (fun _ _ _ h => h) (Or.inr ?_) hHeld ?_
      · exact ⟨by rfl, rfl⟩
      (try simp only [Act.put, List.setIfInBounds_toArray, List.set_cons_zero, List.set_cons_succ])
      refine wpAnyH_take (i := 28) (oi := { dst := some 33, op := .call { callee := .value (.func 65), args := #[(.tmp 30), (.tmp 32)], argTypes := #[27, 27] }, type := _, pos := _, after := _, guard := some (23, true) }) (v := undef) rfl (by kernel_rfl) (by kernel_rfl) (by kernel_rfl) (fun _ _ _ h => h) (Or.inr ?_) hHeld ?_
      · exact ⟨by rfl, rfl⟩
      (try simp only [Act.put, List.setIfInBounds_toArray, List.set_cons_zero, List.set_cons_succ])
      refine wpAnyH_take (i := 29) (oi := { dst := some 34, op := .binOp .eql 3 (.tmp 33) (.const (.int .i64 0)) 3, type := _, pos := _, after := _, guard := some (23, true) }) (v := undef) rfl (by kernel_rfl) (by kernel_rfl) (by kernel_rfl) (fun _ _ _ h => h) (Or.inr ?_) hHeld ?_
      · exact ⟨by rfl, rfl⟩
      (try simp only [Act.put, List.setIfInBounds_toArray, List.set_cons_zero, List.set_cons_succ])
      refine wpAnyH_take (i := 30) (oi := { dst := some 35, op := .pick (.tmp 28) (.tmp 34) (.const (.bool false)), type := _, pos := _, after := _, guard := none }) (v := ?_) rfl (by kernel_rfl) (by kernel_rfl) (by kernel_rfl) (fun _ _ _ h => h) ?_ hHeld ?_
      rotate_left
      · (refine Or.inl ⟨by rfl, fun w hSw => ?_⟩; (try dsimp only at hSw); go_simp; (try with_reducible rfl))
      (try simp only [Act.put, List.setIfInBounds_toArray, List.set_cons_zero, List.set_cons_succ])
      refine wpAnyH_take (i := 31) (oi := { dst := some 4, op := .assign (.tmp 35), type := _, pos := _, after := _, guard := none }) (v := ?_) rfl (by kernel_rfl) (by kernel_rfl) (by kernel_rfl) (fun _ _ _ h => h) ?_ hHeld ?_
      rotate_left
      · (refine Or.inl ⟨by rfl, fun w hSw => ?_⟩; (try dsimp only at hSw); go_simp; (try with_reducible rfl))
      (try simp only [Act.put, List.setIfInBounds_toArray, List.set_cons_zero, List.set_cons_succ])
      refine wpAnyH_done (by kernel_rfl) ?_ _
      go_wp2_with fail
      go_meet
      exact ⟨by first | rfl | trivial, hHeld.2.2.2.2.2.2.2.2.2.2⟩
    case rest =>
    obtain ⟨rfl, hkp⟩ := hcut
    have HB5 := hid (B2.out.trans (hkp.bel.mono (by omega)))
    clear hkp
    go_wp2
    go_ret
    exact ⟨rfl, HB5.out⟩
  | true =>
    cases vl with
    | false =>
      obtain rfl : false = en := by rw [← HEN.out]; simp
      go_enter Try.func21, Try.ntmps21
      go_upto_region 1 with fail
      rw [← HW0.out]
      go_cut [4] (fun s wx => s = .bool false ∧ Kp w0 0 wx)
      case first =>
        refine wp_region_held_drew (S := (fun w' => w'.cell? ⟨w.heap.size, 0, none⟩ = some (.int .i64 n0) ∧ w'.cell? ⟨w.heap.size, 1, none⟩ = some (.slice a0 xss0.length cap0) ∧ w'.cell? ⟨w.heap.size, 2, none⟩ = some (.slice l0 L0.length capl0) ∧ w'.cell? ⟨w.heap.size, 3, none⟩ = some (.slice h0 H0.length caph0) ∧ w'.cell? ⟨w.heap.size, 4, none⟩ = some (.slice p0 P0.length capp0) ∧ w'.cell? ⟨w.heap.size + 1, 0, none⟩ = some (.int .i64 n1) ∧ w'.cell? ⟨w.heap.size + 1, 1, none⟩ = some (.slice a1 xss1.length cap1) ∧ w'.cell? ⟨w.heap.size + 1, 2, none⟩ = some (.slice l1 L1.length capl1) ∧ w'.cell? ⟨w.heap.size + 1, 3, none⟩ = some (.slice h1 H1.length caph1) ∧ w'.cell? ⟨w.heap.size + 1, 4, none⟩ = some (.slice p1 P1.length capp1) ∧ Kp w0 0 w')) (by kernel_rfl) ⟨c0, c1, c2, c3, c4, d0, d1, d2, d3, d4, (kp_refl w0).drew⟩ (fun hHeld => ?_)
        refine wpAnyH_take (i := 0) (oi := { dst := some 5, op := .fieldAddr 29 (.tmp 2) 0, type := _, pos := _, after := _, guard := none }) (v := ?_) rfl (by kernel_rfl) (by kernel_rfl) (by kernel_rfl) (fun _ _ _ h => h) ?_ hHeld ?_
        rotate_left
        · (refine Or.inl ⟨by rfl, fun w hSw => ?_⟩; (try dsimp only at hSw); go_simp; (try with_reducible rfl))
        (try simp only [Act.put, List.setIfInBounds_toArray, List.set_cons_zero, List.set_cons_succ])
        refine wpAnyH_take (i := 1) (oi := { dst := some 6, op := .load 26 (.tmp 5), type := _, pos := _, after := _, guard := none }) (v := ?_) rfl (by kernel_rfl) (by kernel_rfl) (by kernel_rfl) (fun _ _ _ h => h) ?_ hHeld ?_
        rotate_left
        · (refine Or.inl ⟨by rfl, fun w hSw => ?_⟩; (try dsimp only at hSw); go_simp; (try with_reducible rfl))
        (try simp only [Act.put, List.setIfInBounds_toArray, List.set_cons_zero, List.set_cons_succ])
        refine wpAnyH_take (i := 3) (oi := { dst := some 8, op := .fieldAddr 29 (.tmp 3) 0, type := _, pos := _, after := _, guard := none }) (v := ?_) rfl (by kernel_rfl) (by kernel_rfl) (by kernel_rfl) (fun _ _ _ h => h) ?_ hHeld ?_
        rotate_left
        · (refine Or.inl ⟨by rfl, fun w hSw => ?_⟩; (try dsimp only at hSw); go_simp; (try with_reducible rfl))
        (try simp only [Act.put, List.setIfInBounds_toArray, List.set_cons_zero, List.set_cons_succ])
        refine wpAnyH_take (i := 4) (oi := { dst := some 9, op := .load 26 (.tmp 8), type := _, pos := _, after := _, guard := none }) (v := ?_) rfl (by kernel_rfl) (by kernel_rfl) (by kernel_rfl) (fun _ _ _ h => h) ?_ hHeld ?_
        rotate_left
        · (refine Or.inl ⟨by rfl, fun w hSw => ?_⟩; (try dsimp only at hSw); go_simp; (try with_reducible rfl))
        (try simp only [Act.put, List.setIfInBounds_toArray, List.set_cons_zero, List.set_cons_succ])
        refine wpAnyH_ready (rs := [2]) (by kernel_rfl) (by simp) ?_
        refine AllReadyH.cons (o := { dst := some 7, op := .call { callee := .value (.func 64), args := #[(.tmp 6)], argTypes := #[26] }, type := _, pos := _, after := _, guard := none }) rfl (fun K hK => ?_) AllReadyH.nil
        go_simp
        (with_reducible refine (SA.out _).mono ?_); rintro e wA ⟨rfl, hbwA⟩
        (try go_wp2_with fail)
        refine hK.out _ _ ?_ (fun hH2 => ?_)
        · exact ⟨hHeld.2.2.2.2.2.2.2.2.2.2.cell hbwA (by omega) hHeld.1, hHeld.2.2.2.2.2.2.2.2.2.2.cell hbwA (by omega) hHeld.2.1, hHeld.2.2.2.2.2.2.2.2.2.2.cell hbwA (by omega) hHeld.2.2.1, hHeld.2.2.2.2.2.2.2.2.2.2.cell hbwA (by omega) hHeld.2.2.2.1, hHeld.2.2.2.2.2.2.2.2.2.2.cell hbwA (by omega) hHeld.2.2.2.2.1, hHeld.2.2.2.2.2.2.2.2.2.2.cell hbwA (by omega) hHeld.2.2.2.2.2.1, hHeld.2.2.2.2.2.2.2.2.2.2.cell hbwA (by omega) hHeld.2.2.2.2.2.2.1, hHeld.2.2.2.2.2.2.2.2.2.2.cell hbwA (by omega) hHeld.2.2.2.2.2.2.2.1, hHeld.2.2.2.2.2.2.2.2.2.2.cell hbwA (by omega) hHeld.2.2.2.2.2.2.2.2.1, hHeld.2.2.2.2.2.2.2.2.2.2.cell hbwA (by omega) hHeld.2.2.2.2.2.2.2.2.2.1, hHeld.2.2.2.2.2.2.2.2.2.2.call hbwA⟩
        clear hK K hHeld
        have hHeld := hH2
        clear hH2
        (try simp only [Act.put, List.setIfInBounds_toArray, List.set_cons_zero, List.set_cons_succ])
        refine wpAnyH_ready (rs := [5]) (by kernel_rfl) (by simp) ?_
        refine AllReadyH.cons (o := { dst := some 10, op := .call { callee := .value (.func 64), args := #[(.tmp 9)], argTypes := #[26] }, type := _, pos := _, after := _, guard := none }) rfl (fun K hK => ?_) AllReadyH.nil
        go_simp
        (with_reducible refine (SB.out _).mono ?_); rintro e wB ⟨rfl, hbwB⟩
        (try go_wp2_with fail)
        refine hK.out _ _ ?_ (fun hH2 => ?_)
        · exact ⟨hHeld.2.2.2.2.2.2.2.2.2.2.cell hbwB (by omega) hHeld.1, hHeld.2.2.2.2.2.2.2.2.2.2.cell hbwB (by omega) hHeld.2.1, hHeld.2.2.2.2.2.2.2.2.2.2.cell hbwB (by omega) hHeld.2.2.1, hHeld.2.2.2.2.2.2.2.2.2.2.cell hbwB (by omega) hHeld.2.2.2.1, hHeld.2.2.2.2.2.2.2.2.2.2.cell hbwB (by omega) hHeld.2.2.2.2.1, hHeld.2.2.2.2.2.2.2.2.2.2.cell hbwB (by omega) hHeld.2.2.2.2.2.1, hHeld.2.2.2.2.2.2.2.2.2.2.cell hbwB (by omega) hHeld.2.2.2.2.2.2.1, hHeld.2.2.2.2.2.2.2.2.2.2.cell hbwB (by omega) hHeld.2.2.2.2.2.2.2.1, hHeld.2.2.2.2.2.2.2.2.2.2.cell hbwB (by omega) hHeld.2.2.2.2.2.2.2.2.1, hHeld.2.2.2.2.2.2.2.2.2.2.cell hbwB (by omega) hHeld.2.2.2.2.2.2.2.2.2.1, hHeld.2.2.2.2.2.2.2.2.2.2.call hbwB⟩
        clear hK K hHeld
        have hHeld := hH2
        clear hH2
        (try simp only [Act.put, List.setIfInBounds_toArray, List.set_cons_zero, List.set_cons_succ])
        refine wpAnyH_ready (rs := [6]) (by kernel_rfl) (by simp) ?_
        refine AllReadyH.cons (o := { dst := some 11, op := .call { callee := .value (.func 63), args := #[(.tmp 7), (.tmp 10)], argTypes := #[70, 70] }, type := _, pos := _, after := _, guard := none }) rfl (fun K hK => ?_) AllReadyH.nil
        go_simp
        (with_reducible refine (E.out _ (B2.out.trans (hHeld.2.2.2.2.2.2.2.2.2.2.bel.mono (by omega)))).mono ?_); rintro e wC ⟨rfl, hbwC⟩
        (try go_wp2_with fail)
        refine hK.out _ _ ?_ (fun hH2 => ?_)
        · exact ⟨hHeld.2.2.2.2.2.2.2.2.2.2.cell hbwC (by omega) hHeld.1, hHeld.2.2.2.2.2.2.2.2.2.2.cell hbwC (by omega) hHeld.2.1, hHeld.2.2.2.2.2.2.2.2.2.2.cell hbwC (by omega) hHeld.2.2.1, hHeld.2.2.2.2.2.2.2.2.2.2.cell hbwC (by omega) hHeld.2.2.2.1, hHeld.2.2.2.2.2.2.2.2.2.2.cell hbwC (by omega) hHeld.2.2.2.2.1, hHeld.2.2.2.2.2.2.2.2.2.2.cell hbwC (by omega) hHeld.2.2.2.2.2.1, hHeld.2.2.2.2.2.2.2.2.2.2.cell hbwC (by omega) hHeld.2.2.2.2.2.2.1, hHeld.2.2.2.2.2.2.2.2.2.2.cell hbwC (by omega) hHeld.2.2.2.2.2.2.2.1, hHeld.2.2.2.2.2.2.2.2.2.2.cell hbwC (by omega) hHeld.2.2.2.2.2.2.2.2.1, hHeld.2.2.2.2.2.2.2.2.2.2.cell hbwC (by omega) hHeld.2.2.2.2.2.2.2.2.2.1, hHeld.2.2.2.2.2.2.2.2.2.2.call hbwC⟩
        clear hK K hHeld
        have hHeld := hH2
        clear hH2
        (try simp only [Act.put, List.setIfInBounds_toArray, List.set_cons_zero, List.set_cons_succ])
        refine wpAnyH_take (i := 7) (oi := { dst := some 12, op := .move (.tmp 11), type := _, pos := _, after := _, guard := none }) (v := ?_) rfl (by kernel_rfl) (by kernel_rfl) (by kernel_rfl) (fun _ _ _ h => h) ?_ hHeld ?_
        rotate_left
        · (refine Or.inl ⟨by rfl, fun w hSw => ?_⟩; (try dsimp only at hSw); go_simp; (try with_reducible rfl))
        (try simp only [Act.put, List.setIfInBounds_toArray, List.set_cons_zero, List.set_cons_succ])
        refine wpAnyH_take (i := 8) (oi := { dst := some 13, op := .fieldAddr 29 (.tmp 2) 1, type := _, pos := _, after := _, guard := some (7, true) }) (v := ?_) rfl (by kernel_rfl) (by kernel_rfl) (by kernel_rfl) (fun _ _ _ h => h) ?_ hHeld ?_
        rotate_left
        · (refine Or.inl ⟨by rfl, fun w hSw => ?_⟩; (try dsimp only at hSw); go_simp; (try with_reducible rfl))
        (try simp only [Act.put, List.setIfInBounds_toArray, List.set_cons_zero, List.set_cons_succ])
        refine wpAnyH_take (i := 9) (oi := { dst := some 14, op := .load 27 (.tmp 13), type := _, pos := _, after := _, guard := some (7, true) }) (v := ?_) rfl (by kernel_rfl) (by kernel_rfl) (by kernel_rfl) (fun _ _ _ h => h) ?_ hHeld ?_
        rotate_left
        · (refine Or.inl ⟨by rfl, fun w hSw => ?_⟩; (try dsimp only at hSw); go_simp; (try with_reducible rfl))
        (try simp only [Act.put, List.setIfInBounds_toArray, List.set_cons_zero, List.set_cons_succ])
        refine wpAnyH_take (i := 10) (oi := { dst := some 15, op := .fieldAddr 29 (.tmp 3) 1, type := _, pos := _, after := _, guard := some (7, true) }) (v := ?_) rfl (by kernel_rfl) (by kernel_rfl) (by kernel_rfl) (fun _ _ _ h => h) ?_ hHeld ?_
        rotate_left
        · (refine Or.inl ⟨by rfl, fun w hSw => ?_⟩; (try dsimp only at hSw); go_simp; (try with_reducible rfl))
        (try simp only [Act.put, List.setIfInBounds_toArray, List.set_cons_zero, List.set_cons_succ])
        refine wpAnyH_take (i := 11) (oi := { dst := some 16, op := .load 27 (.tmp 15), type := _, pos := _, after := _, guard := some (7, true) }) (v := ?_) rfl (by kernel_rfl) (by kernel_rfl) (by kernel_rfl) (fun _ _ _ h => h) ?_ hHeld ?_
        rotate_left
        · (refine Or.inl ⟨by rfl, fun w hSw => ?_⟩; (try dsimp only at hSw); go_simp; (try with_reducible rfl))
        (try simp only [Act.put, List.setIfInBounds_toArray, List.set_cons_zero, List.set_cons_succ])
        refine wpAnyH_ready (rs := [12]) (by kernel_rfl) (by simp) ?_
        refine AllReadyH.cons (o := { dst := some 17, op := .call { callee := .value (.func 65), args := #[(.tmp 14), (.tmp 16)], argTypes := #[27, 27] }, type := _, pos := _, after := _, guard := some (7, true) }) rfl (fun K hK => ?_) AllReadyH.nil
        go_simp
        (with_reducible refine (EL.out _ (B2.out.trans (hHeld.2.2.2.2.2.2.2.2.2.2.bel.mono (by omega)))).mono ?_); rintro e wD ⟨rfl, hbwD⟩
        (try go_wp2_with fail)
        refine hK.out _ _ ?_ (fun hH2 => ?_)
        · exact ⟨hHeld.2.2.2.2.2.2.2.2.2.2.cell hbwD (by omega) hHeld.1, hHeld.2.2.2.2.2.2.2.2.2.2.cell hbwD (by omega) hHeld.2.1, hHeld.2.2.2.2.2.2.2.2.2.2.cell hbwD (by omega) hHeld.2.2.1, hHeld.2.2.2.2.2.2.2.2.2.2.cell hbwD (by omega) hHeld.2.2.2.1, hHeld.2.2.2.2.2.2.2.2.2.2.cell hbwD (by omega) hHeld.2.2.2.2.1, hHeld.2.2.2.2.2.2.2.2.2.2.cell hbwD (by omega) hHeld.2.2.2.2.2.1, hHeld.2.2.2.2.2.2.2.2.2.2.cell hbwD (by omega) hHeld.2.2.2.2.2.2.1, hHeld.2.2.2.2.2.2.2.2.2.2.cell hbwD (by omega) hHeld.2.2.2.2.2.2.2.1, hHeld.2.2.2.2.2.2.2.2.2.2.cell hbwD (by omega) hHeld.2.2.2.2.2.2.2.2.1, hHeld.2.2.2.2.2.2.2.2.2.2.cell hbwD (by omega) hHeld.2.2.2.2.2.2.2.2.2.1, hHeld.2.2.2.2.2.2.2.2.2.2.call hbwD⟩
        clear hK K hHeld
        have hHeld := hH2
        clear hH2
        (try simp only [Act.put, List.setIfInBounds_toArray, List.set_cons_zero, List.set_cons_succ])
        refine wpAnyH_take (i := 13) (oi := { dst := some 18, op := .binOp .eql 3 (.tmp 17) (.const (.int .i64 0)) 3, type := _, pos := _, after := _, guard := some (7, true) }) (v := .bool false) rfl (by kernel_rfl) (by kernel_rfl) (by kernel_rfl) (fun _ _ _ h => h) ?_ hHeld ?_
        · (refine Or.inl ⟨by rfl, fun w hSw => ?_⟩; (try dsimp only at hSw); go_simp; (try (first | rfl | (rw [← hvl]) | (simp [*]; done))))
        (try simp only [Act.put, List.setIfInBounds_toArray, List.set_cons_zero, List.set_cons_succ])
        refine wpAnyH_take (i := 14) (oi := { dst := some 19, op := .pick (.tmp 12) (.tmp 18) (.const (.bool false)), type := _, pos := _, after := _, guard := none }) (v := ?_) rfl (by kernel_rfl) (by kernel_rfl) (by kernel_rfl) (fun _ _ _ h => h) ?_ hHeld ?_
        rotate_left
        · (refine Or.inl ⟨by rfl, fun w hSw => ?_⟩; (try dsimp only at hSw); go_simp; (try with_reducible rfl))
        (try simp only [Act.put, List.setIfInBounds_toArray, List.set_cons_zero, List.set_cons_succ])
        refine wpAnyH_take (i := 15) (oi := { dst := some 20, op := .move (.tmp 19), type := _, pos := _, after := _, guard := none }) (v := ?_) rfl (by kernel_rfl) (by kernel_rfl) (by kernel_rfl) (fun _ _ _ h => h) ?_ hHeld ?_
        rotate_left
        · (refine Or.inl ⟨by rfl, fun w hSw => ?_⟩; (try dsimp only at hSw); go_simp; (try with_reducible rfl))
        (try simp only [Act.put, List.setIfInBounds_toArray, List.set_cons_zero, List.set_cons_succ])
        refine wpAnyH_take (i := 16) (oi := { dst := some 21, op := .fieldAddr 29 (.tmp 2) 2, type := _, pos := _, after := _, guard := some (15, true) }) (v := undef) rfl (by kernel_rfl) (by kernel_rfl) (by kernel_rfl) (fun _ _ _ h => h) (Or.inr ?_) hHeld ?_
        · exact ⟨by rfl, rfl⟩
        (try simp only [Act.put, List.setIfInBounds_toArray, List.set_cons_zero, List.set_cons_succ])
        refine wpAnyH_take (i := 17) (oi := { dst := some 22, op := .load 27 (.tmp 21), type := _, pos := _, after := _, guard := some (15, true) }) (v := undef) rfl (by kernel_rfl) (by kernel_rfl) (by kernel_rfl) (fun _ _ _ h => h) (Or.inr ?_) hHeld ?_
        · exact ⟨by rfl, rfl⟩
        (try simp only [Act.put, List.setIfInBounds_toArray, List.set_cons_zero, List.set_cons_succ])
        refine wpAnyH_take (i := 18) (oi := { dst := some 23, op := .fieldAddr 29 (.tmp 3) 2, type := _, pos := _, after := _, guard := some (15, true) }) (v := undef) rfl (by kernel_rfl) (by kernel_rfl) (by kernel_rfl) (fun _ _ _ h => h) (Or.inr ?_) hHeld ?_
        · exact ⟨by rfl, rfl⟩
        (try simp only [Act.put, List.setIfInBounds_toArray, List.set_cons_zero, List.set_cons_succ])
        refine wpAnyH_take (i := 19) (oi := { dst := some 24, op := .load 27 (.tmp 23), type := _, pos := _, after := _, guard := some (15, true) }) (v := undef) rfl (by kernel_rfl) (by kernel_rfl) (by kernel_rfl) (fun _ _ _ h => h) (Or.inr ?_) hHeld ?_
        · exact ⟨by rfl, rfl⟩
        (try simp only [Act.put, List.setIfInBounds_toArray, List.set_cons_zero, List.set_cons_succ])
        refine wpAnyH_take (i := 20) (oi := { dst := some 25, op := .call { callee := .value (.func 65), args := #[(.tmp 22), (.tmp 24)], argTypes := #[27, 27] }, type := _, pos := _, after := _, guard := some (15, true) }) (v := undef) rfl (by kernel_rfl) (by kernel_rfl) (by kernel_rfl) (fun _ _ _ h => h) (Or.inr ?_) hHeld ?_
        · exact ⟨by rfl, rfl⟩
        (try simp only [Act.put, List.setIfInBounds_toArray, List.set_cons_zero, List.set_cons_succ])
        refine wpAnyH_take (i := 21) (oi := { dst := some 26, op := .binOp .eql 3 (.tmp 25) (.const (.int .i64 0)) 3, type := _, pos := _, after := _, guard := some (15, true) }) (v := undef) rfl (by kernel_rfl) (by kernel_rfl) (by kernel_rfl) (fun _ _ _ h => h) (Or.inr ?_) hHeld ?_
        · exact ⟨by rfl, rfl⟩
        (try simp only [Act.put, List.setIfInBounds_toArray, List.set_cons_zero, List.set_cons_succ])
        refine wpAnyH_take (i := 22) (oi := { dst := some 27, op := .pick (.tmp 20) (.tmp 26) (.const (.bool false)), type := _, pos := _, after := _, guard := none }) (v := ?_) rfl (by kernel_rfl) (by kernel_rfl) (by kernel_rfl) (fun _ _ _ h => h) ?_ hHeld ?_
        rotate_left
        · (refine Or.inl ⟨by rfl, fun w hSw => ?_⟩; (try dsimp only at hSw); go_simp; (try with_reducible rfl))
        (try simp only [Act.put, List.setIfInBounds_toArray, List.set_cons_zero, List.set_cons_succ])
        refine wpAnyH_take (i := 23) (oi := { dst := some 28, op := .move (.tmp 27), type := _, pos := _, after := _, guard := none }) (v := ?_) rfl (by kernel_rfl) (by kernel_rfl) (by kernel_rfl) (fun _ _ _ h => h) ?_ hHeld ?_
        rotate_left
        · (refine Or.inl ⟨by rfl, fun w hSw => ?_⟩; (try dsimp only at hSw); go_simp; (try with_reducible rfl))
        (try simp only [Act.put, List.setIfInBounds_toArray, List.set_cons_zero, List.set_cons_succ])
        refine wpAnyH_take (i := 24) (oi := { dst := some 29, op := .fieldAddr 29 (.tmp 2) 3, type := _, pos := _, after := _, guard := some (23, true) }) (v := undef) rfl (by kernel_rfl) (by kernel_rfl) (by kernel_rfl) (fun _ _ _ h => h) (Or.inr ?_) hHeld ?_
        · exact ⟨by rfl, rfl⟩
        (try simp only [Act.put, List.setIfInBounds_toArray, List.set_cons_zero, List.set_cons_succ])
        refine wpAnyH_take (i := 25) (oi := { dst := some 30, op := .load 27 (.tmp 29), type := _, pos := _, after := _, guard := some (23, true) }) (v := undef) rfl (by kernel_rfl) (by kernel_rfl) (by kernel_rfl) (fun _ _ _ h => h) (Or.inr ?_) hHeld ?_
        · exact ⟨by rfl, rfl⟩
        (try simp only [Act.put, List.setIfInBounds_toArray, List.set_cons_zero, List.set_cons_succ])
        refine wpAnyH_take (i := 26) (oi := { dst := some 31, op := .fieldAddr 29 (.tmp 3) 3, type := _, pos := _, after := _, guard := some (23, true) }) (v := undef) rfl (by kernel_rfl) (by kernel_rfl) (by kernel_rfl) (fun _ _ _ h => h) (Or.inr ?_) hHeld ?_
        · exact ⟨by rfl, rfl⟩
        (try simp only [Act.put, List.setIfInBounds_toArray, List.set_cons_zero, List.set_cons_succ])
        refine wpAnyH_take (i := 27) (oi := { dst := some 32, op := .load 27 (.tmp 31), type := _, pos := _, after := _, guard := some (23, true) }) (v := undef) rfl (by kernel_rfl) (by kernel_rfl) (by kernel_rfl) (fun _ _ _ h => h) (Or.inr ?_) hHeld ?_
        · exact ⟨by rfl, rfl⟩
        (try simp only [Act.put, List.setIfInBounds_toArray, List.set_cons_zero, List.set_cons_succ])
        refine wpAnyH_take (i := 28) (oi := { dst := some 33, op := .call { callee := .value (.func 65), args := #[(.tmp 30), (.tmp 32)], argTypes := #[27, 27] }, type := _, pos := _, after := _, guard := some (23, true) }) (v := undef) rfl (by kernel_rfl) (by kernel_rfl) (by kernel_rfl) (fun _ _ _ h => h) (Or.inr ?_) hHeld ?_
        · exact ⟨by rfl, rfl⟩
        (try simp only [Act.put, List.setIfInBounds_toArray, List.set_cons_zero, List.set_cons_succ])
        refine wpAnyH_take (i := 29) (oi := { dst := some 34, op := .binOp .eql 3 (.tmp 33) (.const (.int .i64 0)) 3, type := _, pos := _, after := _, guard := some (23, true) }) (v := undef) rfl (by kernel_rfl) (by kernel_rfl) (by kernel_rfl) (fun _ _ _ h => h) (Or.inr ?_) hHeld ?_
        · exact ⟨by rfl, rfl⟩
        (try simp only [Act.put, List.setIfInBounds_toArray, List.set_cons_zero, List.set_cons_succ])
        refine wpAnyH_take (i := 30) (oi := { dst := some 35, op := .pick (.tmp 28) (.tmp 34) (.const (.bool false)), type := _, pos := _, after := _, guard := none }) (v := ?_) rfl (by kernel_rfl) (by kernel_rfl) (by kernel_rfl) (fun _ _ _ h => h) ?_ hHeld ?_
        rotate_left
        · (refine Or.inl ⟨by rfl, fun w hSw => ?_⟩; (try dsimp only at hSw); go_simp; (try with_reducible rfl))
        (try simp only [Act.put, List.setIfInBounds_toArray, List.set_cons_zero, List.set_cons_succ])
        refine wpAnyH_take (i := 31) (oi := { dst := some 4, op := .assign (.tmp 35), type := _, pos := _, after := _, guard := none }) (v := ?_) rfl (by kernel_rfl) (by kernel_rfl) (by kernel_rfl) (fun _ _ _ h => h) ?_ hHeld ?_
        rotate_left
        · (refine Or.inl ⟨by rfl, fun w hSw => ?_⟩; (try dsimp only at hSw); go_simp; (try with_reducible rfl))
        (try simp only [Act.put, List.setIfInBounds_toArray, List.set_cons_zero, List.set_cons_succ])
        refine wpAnyH_done (by kernel_rfl) ?_ _
        go_wp2_with fail
        go_meet
        exact ⟨by first | rfl | trivial, hHeld.2.2.2.2.2.2.2.2.2.2⟩
      case rest =>
      obtain ⟨rfl, hkp⟩ := hcut
      have HB5 := hid (B2.out.trans (hkp.bel.mono (by omega)))
      clear hkp
      go_wp2
      go_ret
      exact ⟨rfl, HB5.out⟩
    | true =>
      cases vh with
      | false =>
        obtain rfl : false = en := by rw [← HEN.out]; simp
        go_enter Try.func21, Try.ntmps21
        go_upto_region 1 with fail
        rw [← HW0.out]
        go_cut [4] (fun s wx => s = .bool false ∧ Kp w0 0 wx)
        case first =>
          refine wp_region_held_drew (S := (fun w' => w'.cell? ⟨w.heap.size, 0, none⟩ = some (.int .i64 n0) ∧ w'.cell? ⟨w.heap.size, 1, none⟩ = some (.slice a0 xss0.length cap0) ∧ w'.cell? ⟨w.heap.size, 2, none⟩ = some (.slice l0 L0.length capl0) ∧ w'.cell? ⟨w.heap.size, 3, none⟩ = some (.slice h0 H0.length caph0) ∧ w'.cell? ⟨w.heap.size, 4, none⟩ = some (.slice p0 P0.length capp0) ∧ w'.cell? ⟨w.heap.size + 1, 0, none⟩ = some (.int .i64 n1) ∧ w'.cell? ⟨w.heap.size + 1, 1, none⟩ = some (.slice a1 xss1.length cap1) ∧ w'.cell? ⟨w.heap.size + 1, 2, none⟩ = some (.slice l1 L1.length capl1) ∧ w'.cell? ⟨w.heap.size + 1, 3, none⟩ = some (.slice h1 H1.length caph1) ∧ w'.cell? ⟨w.heap.size + 1, 4, none⟩ = some (.slice p1 P1.length capp1) ∧ Kp w0 0 w')) (by kernel_rfl) ⟨c0, c1, c2, c3, c4, d0, d1, d2, d3, d4, (kp_refl w0).drew⟩ (fun hHeld => ?_)
          refine wpAnyH_take (i := 0) (oi := { dst := some 5, op := .fieldAddr 29 (.tmp 2) 0, type := _, pos := _, after := _, guard := none }) (v := ?_) rfl (by kernel_rfl) (by kernel_rfl) (by kernel_rfl) (fun _ _ _ h => h) ?_ hHeld ?_
          rotate_left
          · (refine Or.inl ⟨by rfl, fun w hSw => ?_⟩; (try dsimp only at hSw); go_simp; (try with_reducible rfl))
          (try simp only [Act.put, List.setIfInBounds_toArray, List.set_cons_zero, List.set_cons_succ])
          refine wpAnyH_take (i := 1) (oi := { dst := some 6, op := .load 26 (.tmp 5), type := _, pos := _, after := _, guard := none }) (v := ?_) rfl (by kernel_rfl) (by kernel_rfl) (by kernel_rfl) (fun _ _ _ h => h) ?_ hHeld ?_
          rotate_left
          · (refine Or.inl ⟨by rfl, fun w hSw => ?_⟩; (try dsimp only at hSw); go_simp; (try with_reducible rfl))
          (try simp only [Act.put, List.setIfInBounds_toArray, List.set_cons_zero, List.set_cons_succ])
          refine wpAnyH_take (i := 3) (oi := { dst := some 8, op := .fieldAddr 29 (.tmp 3) 0, type := _, pos := _, after := _, guard := none }) (v := ?_) rfl (by kernel_rfl) (by kernel_rfl) (by kernel_rfl) (fun _ _ _ h => h) ?_ hHeld ?_
          rotate_left
          · (refine Or.inl ⟨by rfl, fun w hSw => ?_⟩; (try dsimp only at hSw); go_simp; (try with_reducible rfl))
          (try simp only [Act.put, List.setIfInBounds_toArray, List.set_cons_zero, List.set_cons_succ])
          refine wpAnyH_take (i := 4) (oi := { dst := some 9, op := .load 26 (.tmp 8), type := _, pos := _, after := _, guard := none }) (v := ?_) rfl (by kernel_rfl) (by kernel_rfl) (by kernel_rfl) (fun _ _ _ h => h) ?_ hHeld ?_
          rotate_left
          · (refine Or.inl ⟨by rfl, fun w hSw => ?_⟩; (try dsimp only at hSw); go_simp; (try with_reducible rfl))
          (try simp only [Act.put, List.setIfInBounds_toArray, List.set_cons_zero, List.set_cons_succ])
          refine wpAnyH_ready (rs := [2]) (by kernel_rfl) (by simp) ?_
          refine AllReadyH.cons (o := { dst := some 7, op := .call { callee := .value (.func 64), args := #[(.tmp 6)], argTypes := #[26] }, type := _, pos := _, after := _, guard := none }) rfl (fun K hK => ?_) AllReadyH.nil
          go_simp
          (with_reducible refine (SA.out _).mono ?_); rintro e wA ⟨rfl, hbwA⟩
          (try go_wp2_with fail)
          refine hK.out _ _ ?_ (fun hH2 => ?_)
          · exact ⟨hHeld.2.2.2.2.2.2.2.2.2.2.cell hbwA (by omega) hHeld.1, hHeld.2.2.2.2.2.2.2.2.2.2.cell hbwA (by omega) hHeld.2.1, hHeld.2.2.2.2.2.2.2.2.2.2.cell hbwA (by omega) hHeld.2.2.1, hHeld.2.2.2.2.2.2.2.2.2.2.cell hbwA (by omega) hHeld.2.2.2.1, hHeld.2.2.2.2.2.2.2.2.2.2.cell hbwA (by omega) hHeld.2.2.2.2.1, hHeld.2.2.2.2.2.2.2.2.2.2.cell hbwA (by omega) hHeld.2.2.2.2.2.1, hHeld.2.2.2.2.2.2.2.2.2.2.cell hbwA (by omega) hHeld.2.2.2.2.2.2.1, hHeld.2.2.2.2.2.2.2.2.2.2.cell hbwA (by omega) hHeld.2.2.2.2.2.2.2.1, hHeld.2.2.2.2.2.2.2.2.2.2.cell hbwA (by omega) hHeld.2.2.2.2.2.2.2.2.1, hHeld.2.2.2.2.2.2.2.2.2.2.cell hbwA (by omega) hHeld.2.2.2.2.2.2.2.2.2.1, hHeld.2.2.2.2.2.2.2.2.2.2.call hbwA⟩
          clear hK K hHeld
          have hHeld := hH2
          clear hH2
          (try simp only [Act.put, List.setIfInBounds_toArray, List.set_cons_zero, List.set_cons_succ])
          refine wpAnyH_ready (rs := [5]) (by kernel_rfl) (by simp) ?_
          refine AllReadyH.cons (o := { dst := some 10, op := .call { callee := .value (.func 64), args := #[(.tmp 9)], argTypes := #[26] }, type := _, pos := _, after := _, guard := none }) rfl (fun K hK => ?_) AllReadyH.nil
          go_simp
          (with_reducible refine (SB.out _).mono ?_); rintro e wB ⟨rfl, hbwB⟩
          (try go_wp2_with fail)
          refine hK.out _ _ ?_ (fun hH2 => ?_)
          · exact ⟨hHeld.2.2.2.2.2.2.2.2.2.2.cell hbwB (by omega) hHeld.1, hHeld.2.2.2.2.2.2.2.2.2.2.cell hbwB (by omega) hHeld.2.1, hHeld.2.2.2.2.2.2.2.2.2.2.cell hbwB (by omega) hHeld.2.2.1, hHeld.2.2.2.2.2.2.2.2.2.2.cell hbwB (by omega) hHeld.2.2.2.1, hHeld.2.2.2.2.2.2.2.2.2.2.cell hbwB (by omega) hHeld.2.2.2.2.1, hHeld.2.2.2.2.2.2.2.2.2.2.cell hbwB (by omega) hHeld.2.2.2.2.2.1, hHeld.2.2.2.2.2.2.2.2.2.2.cell hbwB (by omega) hHeld.2.2.2.2.2.2.1, hHeld.2.2.2.2.2.2.2.2.2.2.cell hbwB (by omega) hHeld.2.2.2.2.2.2.2.1, hHeld.2.2.2.2.2.2.2.2.2.2.cell hbwB (by omega) hHeld.2.2.2.2.2.2.2.2.1, hHeld.2.2.2.2.2.2.2.2.2.2.cell hbwB (by omega) hHeld.2.2.2.2.2.2.2.2.2.1, hHeld.2.2.2.2.2.2.2.2.2.2.call hbwB⟩
          clear hK K hHeld
          have hHeld := hH2
          clear hH2
          (try simp only [Act.put, List.setIfInBounds_toArray, List.set_cons_zero, List.set_cons_succ])
          refine wpAnyH_ready (rs := [6]) (by kernel_rfl) (by simp) ?_
          refine AllReadyH.cons (o := { dst := some 11, op := .call { callee := .value (.func 63), args := #[(.tmp 7), (.tmp 10)], argTypes := #[70, 70] }, type := _, pos := _, after := _, guard := none }) rfl (fun K hK => ?_) AllReadyH.nil
          go_simp
          (with_reducible refine (E.out _ (B2.out.trans (hHeld.2.2.2.2.2.2.2.2.2.2.bel.mono (by omega)))).mono ?_); rintro e wC ⟨rfl, hbwC⟩
          (try go_wp2_with fail)
          refine hK.out _ _ ?_ (fun hH2 => ?_)
          · exact ⟨hHeld.2.2.2.2.2.2.2.2.2.2.cell hbwC (by omega) hHeld.1, hHeld.2.2.2.2.2.2.2.2.2.2.cell hbwC (by omega) hHeld.2.1, hHeld.2.2.2.2.2.2.2.2.2.2.cell hbwC (by omega) hHeld.2.2.1, hHeld.2.2.2.2.2.2.2.2.2.2.cell hbwC (by omega) hHeld.2.2.2.1, hHeld.2.2.2.2.2.2.2.2.2.2.cell hbwC (by omega) hHeld.2.2.2.2.1, hHeld.2.2.2.2.2.2.2.2.2.2.cell hbwC (by omega) hHeld.2.2.2.2.2.1, hHeld.2.2.2.2.2.2.2.2.2.2.cell hbwC (by omega) hHeld.2.2.2.2.2.2.1, hHeld.2.2.2.2.2.2.2.2.2.2.cell hbwC (by omega) hHeld.2.2.2.2.2.2.2.1, hHeld.2.2.2.2.2.2.2.2.2.2.cell hbwC (by omega) hHeld.2.2.2.2.2.2.2.2.1, hHeld.2.2.2.2.2.2.2.2.2.2.cell hbwC (by omega) hHeld.2.2.2.2.2.2.2.2.2.1, hHeld.2.2.2.2.2.2.2.2.2.2.call hbwC⟩
          clear hK K hHeld
          have hHeld := hH2
          clear hH2
          (try simp only [Act.put, List.setIfInBounds_toArray, List.set_cons_zero, List.set_cons_succ])
          refine wpAnyH_take (i := 7) (oi := { dst := some 12, op := .move (.tmp 11), type := _, pos := _, after := _, guard := none }) (v := ?_) rfl (by kernel_rfl) (by kernel_rfl) (by kernel_rfl) (fun _ _ _ h => h) ?_ hHeld ?_
          rotate_left
          · (refine Or.inl ⟨by rfl, fun w hSw => ?_⟩; (try dsimp only at hSw); go_simp; (try with_reducible rfl))
          (try simp only [Act.put, List.setIfInBounds_toArray, List.set_cons_zero, List.set_cons_succ])
          refine wpAnyH_take (i := 8) (oi := { dst := some 13, op := .fieldAddr 29 (.tmp 2) 1, type := _, pos := _, after := _, guard := some (7, true) }) (v := ?_) rfl (by kernel_rfl) (by kernel_rfl) (by kernel_rfl) (fun _ _ _ h => h) ?_ hHeld ?_
          rotate_left
          · (refine Or.inl ⟨by rfl, fun w hSw => ?_⟩; (try dsimp only at hSw); go_simp; (try with_reducible rfl))
          (try simp only [Act.put, List.setIfInBounds_toArray, List.set_cons_zero, List.set_cons_succ])
          refine wpAnyH_take (i := 9) (oi := { dst := some 14, op := .load 27 (.tmp 13), type := _, pos := _, after := _, guard := some (7, true) }) (v := ?_) rfl (by kernel_rfl) (by kernel_rfl) (by kernel_rfl) (fun _ _ _ h => h) ?_ hHeld ?_
          rotate_left
          · (refine Or.inl ⟨by rfl, fun w hSw => ?_⟩; (try dsimp only at hSw); go_simp; (try with_reducible rfl))
          (try simp only [Act.put, List.setIfInBounds_toArray, List.set_cons_zero, List.set_cons_succ])
          refine wpAnyH_take (i := 10) (oi := { dst := some 15, op := .fieldAddr 29 (.tmp 3) 1, type := _, pos := _, after := _, guard := some (7, true) }) (v := ?_) rfl (by kernel_rfl) (by kernel_rfl) (by kernel_rfl) (fun _ _ _ h => h) ?_ hHeld ?_
          rotate_left
          · (refine Or.inl ⟨by rfl, fun w hSw => ?_⟩; (try dsimp only at hSw); go_simp; (try with_reducible rfl))
          (try simp only [Act.put, List.setIfInBounds_toArray, List.set_cons_zero, List.set_cons_succ])
          refine wpAnyH_take (i := 11) (oi := { dst := some 16, op := .load 27 (.tmp 15), type := _, pos := _, after := _, guard := some (7, true) }) (v := ?_) rfl (by kernel_rfl) (by kernel_rfl) (by kernel_rfl) (fun _ _ _ h => h) ?_ hHeld ?_
          rotate_left
          · (refine Or.inl ⟨by rfl, fun w hSw => ?_⟩; (try dsimp only at hSw); go_simp; (try with_reducible rfl))
          (try simp only [Act.put, List.setIfInBounds_toArray, List.set_cons_zero, List.set_cons_succ])
          refine wpAnyH_ready (rs := [12]) (by kernel_rfl) (by simp) ?_
          refine AllReadyH.cons (o := { dst := some 17, op := .call { callee := .value (.func 65), args := #[(.tmp 14), (.tmp 16)], argTypes := #[27, 27] }, type := _, pos := _, after := _, guard := some (7, true) }) rfl (fun K hK => ?_) AllReadyH.nil
          go_simp
          (with_reducible refine (EL.out _ (B2.out.trans (hHeld.2.2.2.2.2.2.2.2.2.2.bel.mono (by omega)))).mono ?_); rintro e wD ⟨rfl, hbwD⟩
          (try go_wp2_with fail)
          refine hK.out _ _ ?_ (fun hH2 => ?_)
          · exact ⟨hHeld.2.2.2.2.2.2.2.2.2.2.cell hbwD (by omega) hHeld.1, hHeld.2.2.2.2.2.2.2.2.2.2.cell hbwD (by omega) hHeld.2.1, hHeld.2.2.2.2.2.2.2.2.2.2.cell hbwD (by omega) hHeld.2.2.1, hHeld.2.2.2.2.2.2.2.2.2.2.cell hbwD (by omega) hHeld.2.2.2.1, hHeld.2.2.2.2.2.2.2.2.2.2.cell hbwD (by omega) hHeld.2.2.2.2.1, hHeld.2.2.2.2.2.2.2.2.2.2.cell hbwD (by omega) hHeld.2.2.2.2.2.1, hHeld.2.2.2.2.2.2.2.2.2.2.cell hbwD (by omega) hHeld.2.2.2.2.2.2.1, hHeld.2.2.2.2.2.2.2.2.2.2.cell hbwD (by omega) hHeld.2.2.2.2.2.2.2.1, hHeld.2.2.2.2.2.2.2.2.2.2.cell hbwD (by omega) hHeld.2.2.2.2.2.2.2.2.1, hHeld.2.2.2.2.2.2.2.2.2.2.cell hbwD (by omega) hHeld.2.2.2.2.2.2.2.2.2.1, hHeld.2.2.2.2.2.2.2.2.2.2.call hbwD⟩
          clear hK K hHeld
          have hHeld := hH2
          clear hH2
          (try simp only [Act.put, List.setIfInBounds_toArray, List.set_cons_zero, List.set_cons_succ])
          refine wpAnyH_take (i := 13) (oi := { dst := some 18, op := .binOp .eql 3 (.tmp 17) (.const (.int .i64 0)) 3, type := _, pos := _, after := _, guard := some (7, true) }) (v := .bool true) rfl (by kernel_rfl) (by kernel_rfl) (by kernel_rfl) (fun _ _ _ h => h) ?_ hHeld ?_
          · (refine Or.inl ⟨by rfl, fun w hSw => ?_⟩; (try dsimp only at hSw); go_simp; (try (first | rfl | (rw [← hvl]) | (simp [*]; done))))
          (try simp only [Act.put, List.setIfInBounds_toArray, List.set_cons_zero, List.set_cons_succ])
          refine wpAnyH_take (i := 14) (oi := { dst := some 19, op := .pick (.tmp 12) (.tmp 18) (.const (.bool false)), type := _, pos := _, after := _, guard := none }) (v := ?_) rfl (by kernel_rfl) (by kernel_rfl) (by kernel_rfl) (fun _ _ _ h => h) ?_ hHeld ?_
          rotate_left
          · (refine Or.inl ⟨by rfl, fun w hSw => ?_⟩; (try dsimp only at hSw); go_simp; (try with_reducible rfl))
          (try simp only [Act.put, List.setIfInBounds_toArray, List.set_cons_zero, List.set_cons_succ])
          refine wpAnyH_take (i := 15) (oi := { dst := some 20, op := .move (.tmp 19), type := _, pos := _, after := _, guard := none }) (v := ?_) rfl (by kernel_rfl) (by kernel_rfl) (by kernel_rfl) (fun _ _ _ h => h) ?_ hHeld ?_
          rotate_left
          · (refine Or.inl ⟨by rfl, fun w hSw => ?_⟩; (try dsimp only at hSw); go_simp; (try with_reducible rfl))
          (try simp only [Act.put, List.setIfInBounds_toArray, List.set_cons_zero, List.set_cons_succ])
          refine wpAnyH_take (i := 16) (oi := { dst := some 21, op := .fieldAddr 29 (.tmp 2) 2, type := _, pos := _, after := _, guard := some (15, true) }) (v := ?_) rfl (by kernel_rfl) (by kernel_rfl) (by kernel_rfl) (fun _ _ _ h => h) ?_ hHeld ?_
          rotate_left
          · (refine Or.inl ⟨by rfl, fun w hSw => ?_⟩; (try dsimp only at hSw); go_simp; (try with_reducible rfl))
          (try simp only [Act.put, List.setIfInBounds_toArray, List.set_cons_zero, List.set_cons_succ])
          refine wpAnyH_take (i := 17) (oi := { dst := some 22, op := .load 27 (.tmp 21), type := _, pos := _, after := _, guard := some (15, true) }) (v := ?_) rfl (by kernel_rfl) (by kernel_rfl) (by kernel_rfl) (fun _ _ _ h => h) ?_ hHeld ?_
          rotate_left
          · (refine Or.inl ⟨by rfl, fun w hSw => ?_⟩; (try dsimp only at hSw); go_simp; (try with_reducible rfl))
          (try simp only [Act.put, List.setIfInBounds_toArray, List.set_cons_zero, List.set_cons_succ])
          refine wpAnyH_take (i := 18) (oi := { dst := some 23, op := .fieldAddr 29 (.tmp 3) 2, type := _, pos := _, after := _, guard := some (15, true) }) (v := ?_) rfl (by kernel_rfl) (by kernel_rfl) (by kernel_rfl) (fun _ _ _ h => h) ?_ hHeld ?_
          rotate_left
          · (refine Or.inl ⟨by rfl, fun w hSw => ?_⟩; (try dsimp only at hSw); go_simp; (try with_reducible rfl))
          (try simp only [Act.put, List.setIfInBounds_toArray, List.set_cons_zero, List.set_cons_succ])
          refine wpAnyH_take (i := 19) (oi := { dst := some 24, op := .load 27 (.tmp 23), type := _, pos := _, after := _, guard := some (15, true) }) (v := ?_) rfl (by kernel_rfl) (by kernel_rfl) (by kernel_rfl) (fun _ _ _ h => h) ?_ hHeld ?_
          rotate_left
          · (refine Or.inl ⟨by rfl, fun w hSw => ?_⟩; (try dsimp only at hSw); go_simp; (try with_reducible rfl))
          (try simp only [Act.put, List.setIfInBounds_toArray, List.set_cons_zero, List.set_cons_succ])
          refine wpAnyH_ready (rs := [20]) (by kernel_rfl) (by simp) ?_
          refine AllReadyH.cons (o := { dst := some 25, op := .call { callee := .value (.func 65), args := #[(.tmp 22), (.tmp 24)], argTypes := #[27, 27] }, type := _, pos := _, after := _, guard := some (15, true) }) rfl (fun K hK => ?_) AllReadyH.nil
          go_simp
          (with_reducible refine (EH.out _ (B2.out.trans (hHeld.2.2.2.2.2.2.2.2.2.2.bel.mono (by omega)))).mono ?_); rintro e wF ⟨rfl, hbwF⟩
          (try go_wp2_with fail)
          refine hK.out _ _ ?_ (fun hH2 => ?_)
          · exact ⟨hHeld.2.2.2.2.2.2.2.2.2.2.cell hbwF (by omega) hHeld.1, hHeld.2.2.2.2.2.2.2.2.2.2.cell hbwF (by omega) hHeld.2.1, hHeld.2.2.2.2.2.2.2.2.2.2.cell hbwF (by omega) hHeld.2.2.1, hHeld.2.2.2.2.2.2.2.2.2.2.cell hbwF (by omega) hHeld.2.2.2.1, hHeld.2.2.2.2.2.2.2.2.2.2.cell hbwF (by omega) hHeld.2.2.2.2.1, hHeld.2.2.2.2.2.2.2.2.2.2.cell hbwF (by omega) hHeld.2.2.2.2.2.1, hHeld.2.2.2.2.2.2.2.2.2.2.cell hbwF (by omega) hHeld.2.2.2.2.2.2.1, hHeld.2.2.2.2.2.2.2.2.2.2.cell hbwF (by omega) hHeld.2.2.2.2.2.2.2.1, hHeld.2.2.2.2.2.2.2.2.2.2.cell hbwF (by omega) hHeld.2.2.2.2.2.2.2.2.1, hHeld.2.2.2.2.2.2.2.2.2.2.cell hbwF (by omega) hHeld.2.2.2.2.2.2.2.2.2.1, hHeld.2.2.2.2.2.2.2.2.2.2.call hbwF⟩
          clear hK K hHeld
          have hHeld := hH2
          clear hH2
          (try simp only [Act.put, List.setIfInBounds_toArray, List.set_cons_zero, List.set_cons_succ])
          refine wpAnyH_take (i := 21) (oi := { dst := some 26, op := .binOp .eql 3 (.tmp 25) (.const (.int .i64 0)) 3, type := _, pos := _, after := _, guard := some (15, true) }) (v := .bool false) rfl (by kernel_rfl) (by kernel_rfl) (by kernel_rfl) (fun _ _ _ h => h) ?_ hHeld ?_
          · (refine Or.inl ⟨by rfl, fun w hSw => ?_⟩; (try dsimp only at hSw); go_simp; (try (first | rfl | (rw [← hvh]) | (simp [*]; done))))
          (try simp only [Act.put, List.setIfInBounds_toArray, List.set_cons_zero, List.set_cons_succ])
          refine wpAnyH_take (i := 22) (oi := { dst := some 27, op := .pick (.tmp 20) (.tmp 26) (.const (.bool false)), type := _, pos := _, after := _, guard := none }) (v := ?_) rfl (by kernel_rfl) (by kernel_rfl) (by kernel_rfl) (fun _ _ _ h => h) ?_ hHeld ?_
          rotate_left
          · (refine Or.inl ⟨by rfl, fun w hSw => ?_⟩; (try dsimp only at hSw); go_simp; (try with_reducible rfl))
          (try simp only [Act.put, List.setIfInBounds_toArray, List.set_cons_zero, List.set_cons_succ])
          refine wpAnyH_take (i := 23) (oi := { dst := some 28, op := .move (.tmp 27), type := _, pos := _, after := _, guard := none }) (v := ?_) rfl (by kernel_rfl) (by kernel_rfl) (by kernel_rfl) (fun _ _ _ h => h) ?_ hHeld ?_
          rotate_left
          · (refine Or.inl ⟨by rfl, fun w hSw => ?_⟩; (try dsimp only at hSw); go_simp; (try with_reducible rfl))
          (try simp only [Act.put, List.setIfInBounds_toArray, List.set_cons_zero, List.set_cons_succ])
          refine wpAnyH_take (i := 24) (oi := { dst := some 29, op := .fieldAddr 29 (.tmp 2) 3, type := _, pos := _, after := _, guard := some (23, true) }) (v := undef) rfl (by kernel_rfl) (by kernel_rfl) (by kernel_rfl) (fun _ _ _ h => h) (Or.inr ?_) hHeld ?_
          · exact ⟨by rfl, rfl⟩
          (try simp only [Act.put, List.setIfInBounds_toArray, List.set_cons_zero, List.set_cons_succ])
          refine wpAnyH_take (i := 25) (oi := { dst := some 30, op := .load 27 (.tmp 29), type := _, pos := _, after := _, guard := some (23, true) }) (v := undef) rfl (by kernel_rfl) (by kernel_rfl) (by kernel_rfl) (fun _ _ _ h => h) (Or.inr ?_) hHeld ?_
          · exact ⟨by rfl, rfl⟩
          (try simp only [Act.put, List.setIfInBounds_toArray, List.set_cons_zero, List.set_cons_succ])
          refine wpAnyH_take (i := 26) (oi := { dst := some 31, op := .fieldAddr 29 (.tmp 3) 3, type := _, pos := _, after := _, guard := some (23, true) }) (v := undef) rfl (by kernel_rfl) (by kernel_rfl) (by kernel_rfl) (fun _ _ _ h => h) (Or.inr ?_) hHeld ?_
          · exact ⟨by rfl, rfl⟩
          (try simp only [Act.put, List.setIfInBounds_toArray, List.set_cons_zero, List.set_cons_succ])
          refine wpAnyH_take (i := 27) (oi := { dst := some 32, op := .load 27 (.tmp 31), type := _, pos := _, after := _, guard := some (23, true) }) (v := undef) rfl (by kernel_rfl) (by kernel_rfl) (by kernel_rfl) (fun _ _ _ h => h) (Or.inr ?_) hHeld ?_
          · exact ⟨by rfl, rfl⟩
          (try simp only [Act.put, List.setIfInBounds_toArray, List.set_cons_zero, List.set_cons_succ])
          refine wpAnyH_take (i := 28) (oi := { dst := some 33, op := .call { callee := .value (.func 65), args := #[(.tmp 30), (.tmp 32)], argTypes := #[27, 27] }, type := _, pos := _, after := _, guard := some (23, true) }) (v := undef) rfl (by kernel_rfl) (by kernel_rfl) (by kernel_rfl) (fun _ _ _ h => h) (Or.inr ?_) hHeld ?_
          · exact ⟨by rfl, rfl⟩
          (try simp only [Act.put, List.setIfInBounds_toArray, List.set_cons_zero, List.set_cons_succ])
          refine wpAnyH_take (i := 29) (oi := { dst := some 34, op := .binOp .eql 3 (.tmp 33) (.const (.int .i64 0)) 3, type := _, pos := _, after := _, guard := some (23, true) }) (v := undef) rfl (by kernel_rfl) (by kernel_rfl) (by kernel_rfl) (fun _ _ _ h => h) (Or.inr ?_) hHeld ?_
          · exact ⟨by rfl, rfl⟩
          (try simp only [Act.put, List.setIfInBounds_toArray, List.set_cons_zero, List.set_cons_succ])
          refine wpAnyH_take (i := 30) (oi := { dst := some 35, op := .pick (.tmp 28) (.tmp 34) (.const (.bool false)), type := _, pos := _, after := _, guard := none }) (v := ?_) rfl (by kernel_rfl) (by kernel_rfl) (by kernel_rfl) (fun _ _ _ h => h) ?_ hHeld ?_
          rotate_left
          · (refine Or.inl ⟨by rfl, fun w hSw => ?_⟩; (try dsimp only at hSw); go_simp; (try with_reducible rfl))
          (try simp only [Act.put, List.setIfInBounds_toArray, List.set_cons_zero, List.set_cons_succ])
          refine wpAnyH_take (i := 31) (oi := { dst := some 4, op := .assign (.tmp 35), type := _, pos := _, after := _, guard := none }) (v := ?_) rfl (by kernel_rfl) (by kernel_rfl) (by kernel_rfl) (fun _ _ _ h => h) ?_ hHeld ?_
          rotate_left
          · (refine Or.inl ⟨by rfl, fun w hSw => ?_⟩; (try dsimp only at hSw); go_simp; (try with_reducible rfl))
          (try simp only [Act.put, List.setIfInBounds_toArray, List.set_cons_zero, List.set_cons_succ])
          refine wpAnyH_done (by kernel_rfl) ?_ _
          go_wp2_with fail
          go_meet
          exact ⟨by first | rfl | trivial, hHeld.2.2.2.2.2.2.2.2.2.2⟩
        case rest =>
        obtain ⟨rfl, hkp⟩ := hcut
        have HB5 := hid (B2.out.trans (hkp.bel.mono (by omega)))
        clear hkp
        go_wp2
        go_ret
        exact ⟨rfl, HB5.out⟩
      | true =>
        obtain rfl : vp = en := by rw [← HEN.out]; simp
        go_enter Try.func21, Try.ntmps21
        go_upto_region 1 with fail
        rw [← HW0.out]
        go_cut [4] (fun s wx => s = .bool vp ∧ Kp w0 0 wx)
        case first =>
          refine wp_region_held_drew (S := (fun w' => w'.cell? ⟨w.heap.size, 0, none⟩ = some (.int .i64 n0) ∧ w'.cell? ⟨w.heap.size, 1, none⟩ = some (.slice a0 xss0.length cap0) ∧ w'.cell? ⟨w.heap.size, 2, none⟩ = some (.slice l0 L0.length capl0) ∧ w'.cell? ⟨w.heap.size, 3, none⟩ = some (.slice h0 H0.length caph0) ∧ w'.cell? ⟨w.heap.size, 4, none⟩ = some (.slice p0 P0.length capp0) ∧ w'.cell? ⟨w.heap.size + 1, 0, none⟩ = some (.int .i64 n1) ∧ w'.cell? ⟨w.heap.size + 1, 1, none⟩ = some (.slice a1 xss1.length cap1) ∧ w'.cell? ⟨w.heap.size + 1, 2, none⟩ = some (.slice l1 L1.length capl1) ∧ w'.cell? ⟨w.heap.size + 1, 3, none⟩ = some (.slice h1 H1.length caph1) ∧ w'.cell? ⟨w.heap.size + 1, 4, none⟩ = some (.slice p1 P1.length capp1) ∧ Kp w0 0 w')) (by kernel_rfl) ⟨c0, c1, c2, c3, c4, d0, d1, d2, d3, d4, (kp_refl w0).drew⟩ (fun hHeld => ?_)
          refine wpAnyH_take (i := 0) (oi := { dst := some 5, op := .fieldAddr 29 (.tmp 2) 0, type := _, pos := _, after := _, guard := none }) (v := ?_) rfl (by kernel_rfl) (by kernel_rfl) (by kernel_rfl) (fun _ _ _ h => h) ?_ hHeld ?_
          rotate_left
          · (refine Or.inl ⟨by rfl, fun w hSw => ?_⟩; (try dsimp only at hSw); go_simp; (try with_reducible rfl))
          (try simp only [Act.put, List.setIfInBounds_toArray, List.set_cons_zero, List.set_cons_succ])
          refine wpAnyH_take (i := 1) (oi := { dst := some 6, op := .load 26 (.tmp 5), type := _, pos := _, after := _, guard := none }) (v := ?_) rfl (by kernel_rfl) (by kernel_rfl) (by kernel_rfl) (fun _ _ _ h => h) ?_ hHeld ?_
          rotate_left
          · (refine Or.inl ⟨by rfl, fun w hSw => ?_⟩; (try dsimp only at hSw); go_simp; (try with_reducible rfl))
          (try simp only [Act.put, List.setIfInBounds_toArray, List.set_cons_zero, List.set_cons_succ])
          refine wpAnyH_take (i := 3) (oi := { dst := some 8, op := .fieldAddr 29 (.tmp 3) 0, type := _, pos := _, after := _, guard := none }) (v := ?_) rfl (by kernel_rfl) (by kernel_rfl) (by kernel_rfl) (fun _ _ _ h => h) ?_ hHeld ?_
          rotate_left
          · (refine Or.inl ⟨by rfl, fun w hSw => ?_⟩; (try dsimp only at hSw); go_simp; (try with_reducible rfl))
          (try simp only [Act.put, List.setIfInBounds_toArray, List.set_cons_zero, List.set_cons_succ])
          refine wpAnyH_take (i := 4) (oi := { dst := some 9, op := .load 26 (.tmp 8), type := _, pos := _, after := _, guard := none }) (v := ?_) rfl (by kernel_rfl) (by kernel_rfl) (by kernel_rfl) (fun _ _ _ h => h) ?_ hHeld ?_
          rotate_left
          · (refine Or.inl ⟨by rfl, fun w hSw => ?_⟩; (try dsimp only at hSw); go_simp; (try with_reducible rfl))
          (try simp only [Act.put, List.setIfInBounds_toArray, List.set_cons_zero, List.set_cons_succ])
          refine wpAnyH_ready (rs := [2]) (by kernel_rfl) (by simp) ?_
          refine AllReadyH.cons (o := { dst := some 7, op := .call { callee := .value (.func 64), args := #[(.tmp 6)], argTypes := #[26] }, type := _, pos := _, after := _, guard := none }) rfl (fun K hK => ?_) AllReadyH.nil
          go_simp
          (with_reducible refine (SA.out _).mono ?_); rintro e wA ⟨rfl, hbwA⟩
          (try go_wp2_with fail)
          refine hK.out _ _ ?_ (fun hH2 => ?_)
          · exact ⟨hHeld.2.2.2.2.2.2.2.2.2.2.cell hbwA (by omega) hHeld.1, hHeld.2.2.2.2.2.2.2.2.2.2.cell hbwA (by omega) hHeld.2.1, hHeld.2.2.2.2.2.2.2.2.2.2.cell hbwA (by omega) hHeld.2.2.1, hHeld.2.2.2.2.2.2.2.2.2.2.cell hbwA (by omega) hHeld.2.2.2.1, hHeld.2.2.2.2.2.2.2.2.2.2.cell hbwA (by omega) hHeld.2.2.2.2.1, hHeld.2.2.2.2.2.2.2.2.2.2.cell hbwA (by omega) hHeld.2.2.2.2.2.1, hHeld.2.2.2.2.2.2.2.2.2.2.cell hbwA (by omega) hHeld.2.2.2.2.2.2.1, hHeld.2.2.2.2.2.2.2.2.2.2.cell hbwA (by omega) hHeld.2.2.2.2.2.2.2.1, hHeld.2.2.2.2.2.2.2.2.2.2.cell hbwA (by omega) hHeld.2.2.2.2.2.2.2.2.1, hHeld.2.2.2.2.2.2.2.2.2.2.cell hbwA (by omega) hHeld.2.2.2.2.2.2.2.2.2.1, hHeld.2.2.2.2.2.2.2.2.2.2.call hbwA⟩
          clear hK K hHeld
          have hHeld := hH2
          clear hH2
          (try simp only [Act.put, List.setIfInBounds_toArray, List.set_cons_zero, List.set_cons_succ])
          refine wpAnyH_ready (rs := [5]) (by kernel_rfl) (by simp) ?_
          refine AllReadyH.cons (o := { dst := some 10, op := .call { callee := .value (.func 64), args := #[(.tmp 9)], argTypes := #[26] }, type := _, pos := _, after := _, guard := none }) rfl (fun K hK => ?_) AllReadyH.nil
          go_simp
          (with_reducible refine (SB.out _).mono ?_); rintro e wB ⟨rfl, hbwB⟩
          (try go_wp2_with fail)
          refine hK.out _ _ ?_ (fun hH2 => ?_)
          · exact ⟨hHeld.2.2.2.2.2.2.2.2.2.2.cell hbwB (by omega) hHeld.1, hHeld.2.2.2.2.2.2.2.2.2.2.cell hbwB (by omega) hHeld.2.1, hHeld.2.2.2.2.2.2.2.2.2.2.cell hbwB (by omega) hHeld.2.2.1, hHeld.2.2.2.2.2.2.2.2.2.2.cell hbwB (by omega) hHeld.2.2.2.1, hHeld.2.2.2.2.2.2.2.2.2.2.cell hbwB (by omega) hHeld.2.2.2.2.1, hHeld.2.2.2.2.2.2.2.2.2.2.cell hbwB (by omega) hHeld.2.2.2.2.2.1, hHeld.2.2.2.2.2.2.2.2.2.2.cell hbwB (by omega) hHeld.2.2.2.2.2.2.1, hHeld.2.2.2.2.2.2.2.2.2.2.cell hbwB (by omega) hHeld.2.2.2.2.2.2.2.1, hHeld.2.2.2.2.2.2.2.2.2.2.cell hbwB (by omega) hHeld.2.2.2.2.2.2.2.2.1, hHeld.2.2.2.2.2.2.2.2.2.2.cell hbwB (by omega) hHeld.2.2.2.2.2.2.2.2.2.1, hHeld.2.2.2.2.2.2.2.2.2.2.call hbwB⟩
          clear hK K hHeld
          have hHeld := hH2
          clear hH2
          (try simp only [Act.put, List.setIfInBounds_toArray, List.set_cons_zero, List.set_cons_succ])
          refine wpAnyH_ready (rs := [6]) (by kernel_rfl) (by simp) ?_
          refine AllReadyH.cons (o := { dst := some 11, op := .call { callee := .value (.func 63), args := #[(.tmp 7), (.tmp 10)], argTypes := #[70, 70] }, type := _, pos := _, after := _, guard := none }) rfl (fun K hK => ?_) AllReadyH.nil
          go_simp
          (with_reducible refine (E.out _ (B2.out.trans (hHeld.2.2.2.2.2.2.2.2.2.2.bel.mono (by omega)))).mono ?_); rintro e wC ⟨rfl, hbwC⟩
          (try go_wp2_with fail)
          refine hK.out _ _ ?_ (fun hH2 => ?_)
          · exact ⟨hHeld.2.2.2.2.2.2.2.2.2.2.cell hbwC (by omega) hHeld.1, hHeld.2.2.2.2.2.2.2.2.2.2.cell hbwC (by omega) hHeld.2.1, hHeld.2.2.2.2.2.2.2.2.2.2.cell hbwC (by omega) hHeld.2.2.1, hHeld.2.2.2.2.2.2.2.2.2.2.cell hbwC (by omega) hHeld.2.2.2.1, hHeld.2.2.2.2.2.2.2.2.2.2.cell hbwC (by omega) hHeld.2.2.2.2.1, hHeld.2.2.2.2.2.2.2.2.2.2.cell hbwC (by omega) hHeld.2.2.2.2.2.1, hHeld.2.2.2.2.2.2.2.2.2.2.cell hbwC (by omega) hHeld.2.2.2.2.2.2.1, hHeld.2.2.2.2.2.2.2.2.2.2.cell hbwC (by omega) hHeld.2.2.2.2.2.2.2.1, hHeld.2.2.2.2.2.2.2.2.2.2.cell hbwC (by omega) hHeld.2.2.2.2.2.2.2.2.1, hHeld.2.2.2.2.2.2.2.2.2.2.cell hbwC (by omega) hHeld.2.2.2.2.2.2.2.2.2.1, hHeld.2.2.2.2.2.2.2.2.2.2.call hbwC⟩
          clear hK K hHeld
          have hHeld := hH2
          clear hH2
          (try simp only [Act.put, List.setIfInBounds_toArray, List.set_cons_zero, List.set_cons_succ])
          refine wpAnyH_take (i := 7) (oi := { dst := some 12, op := .move (.tmp 11), type := _, pos := _, after := _, guard := none }) (v := ?_) rfl (by kernel_rfl) (by kernel_rfl) (by kernel_rfl) (fun _ _ _ h => h) ?_ hHeld ?_
          rotate_left
          · (refine Or.inl ⟨by rfl, fun w hSw => ?_⟩; (try dsimp only at hSw); go_simp; (try with_reducible rfl))
          (try simp only [Act.put, List.setIfInBounds_toArray, List.set_cons_zero, List.set_cons_succ])
          refine wpAnyH_take (i := 8) (oi := { dst := some 13, op := .fieldAddr 29 (.tmp 2) 1, type := _, pos := _, after := _, guard := some (7, true) }) (v := ?_) rfl (by kernel_rfl) (by kernel_rfl) (by kernel_rfl) (fun _ _ _ h => h) ?_ hHeld ?_
          rotate_left
          · (refine Or.inl ⟨by rfl, fun w hSw => ?_⟩; (try dsimp only at hSw); go_simp; (try with_reducible rfl))
          (try simp only [Act.put, List.setIfInBounds_toArray, List.set_cons_zero, List.set_cons_succ])
          refine wpAnyH_take (i := 9) (oi := { dst := some 14, op := .load 27 (.tmp 13), type := _, pos := _, after := _, guard := some (7, true) }) (v := ?_) rfl (by kernel_rfl) (by kernel_rfl) (by kernel_rfl) (fun _ _ _ h => h) ?_ hHeld ?_
          rotate_left
          · (refine Or.inl ⟨by rfl, fun w hSw => ?_⟩; (try dsimp only at hSw); go_simp; (try with_reducible rfl))
          (try simp only [Act.put, List.setIfInBounds_toArray, List.set_cons_zero, List.set_cons_succ])
          refine wpAnyH_take (i := 10) (oi := { dst := some 15, op := .fieldAddr 29 (.tmp 3) 1, type := _, pos := _, after := _, guard := some (7, true) }) (v := ?_) rfl (by kernel_rfl) (by kernel_rfl) (by kernel_rfl) (fun _ _ _ h => h) ?_ hHeld ?_
          rotate_left
          · (refine Or.inl ⟨by rfl, fun w hSw => ?_⟩; (try dsimp only at hSw); go_simp; (try with_reducible rfl))
          (try simp only [Act.put, List.setIfInBounds_toArray, List.set_cons_zero, List.set_cons_succ])
          refine wpAnyH_take (i := 11) (oi := { dst := some 16, op := .load 27 (.tmp 15), type := _, pos := _, after := _, guard := some (7, true) }) (v := ?_) rfl (by kernel_rfl) (by kernel_rfl) (by kernel_rfl) (fun _ _ _ h => h) ?_ hHeld ?_
          rotate_left
          · (refine Or.inl ⟨by rfl, fun w hSw => ?_⟩; (try dsimp only at hSw); go_simp; (try with_reducible rfl))
          (try simp only [Act.put, List.setIfInBounds_toArray, List.set_cons_zero, List.set_cons_succ])
          refine wpAnyH_ready (rs := [12]) (by kernel_rfl) (by simp) ?_
          refine AllReadyH.cons (o := { dst := some 17, op := .call { callee := .value (.func 65), args := #[(.tmp 14), (.tmp 16)], argTypes := #[27, 27] }, type := _, pos := _, after := _, guard := some (7, true) }) rfl (fun K hK => ?_) AllReadyH.nil
          go_simp
          (with_reducible refine (EL.out _ (B2.out.trans (hHeld.2.2.2.2.2.2.2.2.2.2.bel.mono (by omega)))).mono ?_); rintro e wD ⟨rfl, hbwD⟩
          (try go_wp2_with fail)
          refine hK.out _ _ ?_ (fun hH2 => ?_)
          · exact ⟨hHeld.2.2.2.2.2.2.2.2.2.2.cell hbwD (by omega) hHeld.1, hHeld.2.2.2.2.2.2.2.2.2.2.cell hbwD (by omega) hHeld.2.1, hHeld.2.2.2.2.2.2.2.2.2.2.cell hbwD (by omega) hHeld.2.2.1, hHeld.2.2.2.2.2.2.2.2.2.2.cell hbwD (by omega) hHeld.2.2.2.1, hHeld.2.2.2.2.2.2.2.2.2.2.cell hbwD (by omega) hHeld.2.2.2.2.1, hHeld.2.2.2.2.2.2.2.2.2.2.cell hbwD (by omega) hHeld.2.2.2.2.2.1, hHeld.2.2.2.2.2.2.2.2.2.2.cell hbwD (by omega) hHeld.2.2.2.2.2.2.1, hHeld.2.2.2.2.2.2.2.2.2.2.cell hbwD (by omega) hHeld.2.2.2.2.2.2.2.1, hHeld.2.2.2.2.2.2.2.2.2.2.cell hbwD (by omega) hHeld.2.2.2.2.2.2.2.2.1, hHeld.2.2.2.2.2.2.2.2.2.2.cell hbwD (by omega) hHeld.2.2.2.2.2.2.2.2.2.1, hHeld.2.2.2.2.2.2.2.2.2.2.call hbwD⟩
          clear hK K hHeld
          have hHeld := hH2
          clear hH2
          (try simp only [Act.put, List.setIfInBounds_toArray, List.set_cons_zero, List.set_cons_succ])
          refine wpAnyH_take (i := 13) (oi := { dst := some 18, op := .binOp .eql 3 (.tmp 17) (.const (.int .i64 0)) 3, type := _, pos := _, after := _, guard := some (7, true) }) (v := .bool true) rfl (by kernel_rfl) (by kernel_rfl) (by kernel_rfl) (fun _ _ _ h => h) ?_ hHeld ?_
          · (refine Or.inl ⟨by rfl, fun w hSw => ?_⟩; (try dsimp only at hSw); go_simp; (try (first | rfl | (rw [← hvl]) | (simp [*]; done))))
          (try simp only [Act.put, List.setIfInBounds_toArray, List.set_cons_zero, List.set_cons_succ])
          refine wpAnyH_take (i := 14) (oi := { dst := some 19, op := .pick (.tmp 12) (.tmp 18) (.const (.bool false)), type := _, pos := _, after := _, guard := none }) (v := ?_) rfl (by kernel_rfl) (by kernel_rfl) (by kernel_rfl) (fun _ _ _ h => h) ?_ hHeld ?_
          rotate_left
          · (refine Or.inl ⟨by rfl, fun w hSw => ?_⟩; (try dsimp only at hSw); go_simp; (try with_reducible rfl))
          (try simp only [Act.put, List.setIfInBounds_toArray, List.set_cons_zero, List.set_cons_succ])
          refine wpAnyH_take (i := 15) (oi := { dst := some 20, op := .move (.tmp 19), type := _, pos := _, after := _, guard := none }) (v := ?_) rfl (by kernel_rfl) (by kernel_rfl) (by kernel_rfl) (fun _ _ _ h => h) ?_ hHeld ?_
          rotate_left
          · (refine Or.inl ⟨by rfl, fun w hSw => ?_⟩; (try dsimp only at hSw); go_simp; (try with_reducible rfl))
          (try simp only [Act.put, List.setIfInBounds_toArray, List.set_cons_zero, List.set_cons_succ])
          refine wpAnyH_take (i := 16) (oi := { dst := some 21, op := .fieldAddr 29 (.tmp 2) 2, type := _, pos := _, after := _, guard := some (15, true) }) (v := ?_) rfl (by kernel_rfl) (by kernel_rfl) (by kernel_rfl) (fun _ _ _ h => h) ?_ hHeld ?_
          rotate_left
          · (refine Or.inl ⟨by rfl, fun w hSw => ?_⟩; (try dsimp only at hSw); go_simp; (try with_reducible rfl))
          (try simp only [Act.put, List.setIfInBounds_toArray, List.set_cons_zero, List.set_cons_succ])
          refine wpAnyH_take (i := 17) (oi := { dst := some 22, op := .load 27 (.tmp 21), type := _, pos := _, after := _, guard := some (15, true) }) (v := ?_) rfl (by kernel_rfl) (by kernel_rfl) (by kernel_rfl) (fun _ _ _ h => h) ?_ hHeld ?_
          rotate_left
          · (refine Or.inl ⟨by rfl, fun w hSw => ?_⟩; (try dsimp only at hSw); go_simp; (try with_reducible rfl))
          (try simp only [Act.put, List.setIfInBounds_toArray, List.set_cons_zero, List.set_cons_succ])
          refine wpAnyH_take (i := 18) (oi := { dst := some 23, op := .fieldAddr 29 (.tmp 3) 2, type := _, pos := _, after := _, guard := some (15, true) }) (v := ?_) rfl (by kernel_rfl) (by kernel_rfl) (by kernel_rfl) (fun _ _ _ h => h) ?_ hHeld ?_
          rotate_left
          · (refine Or.inl ⟨by rfl, fun w hSw => ?_⟩; (try dsimp only at hSw); go_simp; (try with_reducible rfl))
          (try simp only [Act.put, List.setIfInBounds_toArray, List.set_cons_zero, List.set_cons_succ])
          refine wpAnyH_take (i := 19) (oi := { dst := some 24, op := .load 27 (.tmp 23), type := _, pos := _, after := _, guard := some (15, true) }) (v := ?_) rfl (by kernel_rfl) (by kernel_rfl) (by kernel_rfl) (fun _ _ _ h => h) ?_ hHeld ?_
          rotate_left
          · (refine Or.inl ⟨by rfl, fun w hSw => ?_⟩; (try dsimp only at hSw); go_simp; (try with_reducible rfl))
          (try simp only [Act.put, List.setIfInBounds_toArray, List.set_cons_zero, List.set_cons_succ])
          refine wpAnyH_ready (rs := [20]) (by kernel_rfl) (by simp) ?_
          refine AllReadyH.cons (o := { dst := some 25, op := .call { callee := .value (.func 65), args := #[(.tmp 22), (.tmp 24)], argTypes := #[27, 27] }, type := _, pos := _, after := _, guard := some (15, true) }) rfl (fun K hK => ?_) AllReadyH.nil
          go_simp
          (with_reducible refine (EH.out _ (B2.out.trans (hHeld.2.2.2.2.2.2.2.2.2.2.bel.mono (by omega)))).mono ?_); rintro e wF ⟨rfl, hbwF⟩
          (try go_wp2_with fail)
          refine hK.out _ _ ?_ (fun hH2 => ?_)
          · exact ⟨hHeld.2.2.2.2.2.2.2.2.2.2.cell hbwF (by omega) hHeld.1, hHeld.2.2.2.2.2.2.2.2.2.2.cell hbwF (by omega) hHeld.2.1, hHeld.2.2.2.2.2.2.2.2.2.2.cell hbwF (by omega) hHeld.2.2.1, hHeld.2.2.2.2.2.2.2.2.2.2.cell hbwF (by omega) hHeld.2.2.2.1, hHeld.2.2.2.2.2.2.2.2.2.2.cell hbwF (by omega) hHeld.2.2.2.2.1, hHeld.2.2.2.2.2.2.2.2.2.2.cell hbwF (by omega) hHeld.2.2.2.2.2.1, hHeld.2.2.2.2.2.2.2.2.2.2.cell hbwF (by omega) hHeld.2.2.2.2.2.2.1, hHeld.2.2.2.2.2.2.2.2.2.2.cell hbwF (by omega) hHeld.2.2.2.2.2.2.2.1, hHeld.2.2.2.2.2.2.2.2.2.2.cell hbwF (by omega) hHeld.2.2.2.2.2.2.2.2.1, hHeld.2.2.2.2.2.2.2.2.2.2.cell hbwF (by omega) hHeld.2.2.2.2.2.2.2.2.2.1, hHeld.2.2.2.2.2.2.2.2.2.2.call hbwF⟩
          clear hK K hHeld
          have hHeld := hH2
          clear hH2
          (try simp only [Act.put, List.setIfInBounds_toArray, List.set_cons_zero, List.set_cons_succ])
          refine wpAnyH_take (i := 21) (oi := { dst := some 26, op := .binOp .eql 3 (.tmp 25) (.const (.int .i64 0)) 3, type := _, pos := _, after := _, guard := some (15, true) }) (v := .bool true) rfl (by kernel_rfl) (by kernel_rfl) (by kernel_rfl) (fun _ _ _ h => h) ?_ hHeld ?_
          · (refine Or.inl ⟨by rfl, fun w hSw => ?_⟩; (try dsimp only at hSw); go_simp; (try (first | rfl | (rw [← hvh]) | (simp [*]; done))))
          (try simp only [Act.put, List.setIfInBounds_toArray, List.set_cons_zero, List.set_cons_succ])
          refine wpAnyH_take (i := 22) (oi := { dst := some 27, op := .pick (.tmp 20) (.tmp 26) (.const (.bool false)), type := _, pos := _, after := _, guard := none }) (v := ?_) rfl (by kernel_rfl) (by kernel_rfl) (by kernel_rfl) (fun _ _ _ h => h) ?_ hHeld ?_
          rotate_left
          · (refine Or.inl ⟨by rfl, fun w hSw => ?_⟩; (try dsimp only at hSw); go_simp; (try with_reducible rfl))
          (try simp only [Act.put, List.setIfInBounds_toArray, List.set_cons_zero, List.set_cons_succ])
          refine wpAnyH_take (i := 23) (oi := { dst := some 28, op := .move (.tmp 27), type := _, pos := _, after := _, guard := none }) (v := ?_) rfl (by kernel_rfl) (by kernel_rfl) (by kernel_rfl) (fun _ _ _ h => h) ?_ hHeld ?_
          rotate_left
          · (refine Or.inl ⟨by rfl, fun w hSw => ?_⟩; (try dsimp only at hSw); go_simp; (try with_reducible rfl))
          (try simp only [Act.put, List.setIfInBounds_toArray, List.set_cons_zero, List.set_cons_succ])
          refine wpAnyH_take (i := 24) (oi := { dst := some 29, op := .fieldAddr 29 (.tmp 2) 3, type := _, pos := _, after := _, guard := some (23, true) }) (v := ?_) rfl (by kernel_rfl) (by kernel_rfl) (by kernel_rfl) (fun _ _ _ h => h) ?_ hHeld ?_
          rotate_left
          · (refine Or.inl ⟨by rfl, fun w hSw => ?_⟩; (try dsimp only at hSw); go_simp; (try with_reducible rfl))
          (try simp only [Act.put, List.setIfInBounds_toArray, List.set_cons_zero, List.set_cons_succ])
          refine wpAnyH_take (i := 25) (oi := { dst := some 30, op := .load 27 (.tmp 29), type := _, pos := _, after := _, guard := some (23, true) }) (v := ?_) rfl (by kernel_rfl) (by kernel_rfl) (by kernel_rfl) (fun _ _ _ h => h) ?_ hHeld ?_
          rotate_left
          · (refine Or.inl ⟨by rfl, fun w hSw => ?_⟩; (try dsimp only at hSw); go_simp; (try with_reducible rfl))
          (try simp only [Act.put, List.setIfInBounds_toArray, List.set_cons_zero, List.set_cons_succ])
          refine wpAnyH_take (i := 26) (oi := { dst := some 31, op := .fieldAddr 29 (.tmp 3) 3, type := _, pos := _, after := _, guard := some (23, true) }) (v := ?_) rfl (by kernel_rfl) (by kernel_rfl) (by kernel_rfl) (fun _ _ _ h => h) ?_ hHeld ?_
          rotate_left
          · (refine Or.inl ⟨by rfl, fun w hSw => ?_⟩; (try dsimp only at hSw); go_simp; (try with_reducible rfl))
          (try simp only [Act.put, List.setIfInBounds_toArray, List.set_cons_zero, List.set_cons_succ])
          refine wpAnyH_take (i := 27) (oi := { dst := some 32, op := .load 27 (.tmp 31), type := _, pos := _, after := _, guard := some (23, true) }) (v := ?_) rfl (by kernel_rfl) (by kernel_rfl) (by kernel_rfl) (fun _ _ _ h => h) ?_ hHeld ?_
          rotate_left
          · (refine Or.inl ⟨by rfl, fun w hSw => ?_⟩; (try dsimp only at hSw); go_simp; (try with_reducible rfl))
          (try simp only [Act.put, List.setIfInBounds_toArray, List.set_cons_zero, List.set_cons_succ])
          refine wpAnyH_ready (rs := [28]) (by kernel_rfl) (by simp) ?_
          refine AllReadyH.cons (o := { dst := some 33, op := .call { callee := .value (.func 65), args := #[(.tmp 30), (.tmp 32)], argTypes := #[27, 27] }, type := _, pos := _, after := _, guard := some (23, true) }) rfl (fun K hK => ?_) AllReadyH.nil
          go_simp
          (with_reducible refine (EP.out _ (B2.out.trans (hHeld.2.2.2.2.2.2.2.2.2.2.bel.mono (by omega)))).mono ?_); rintro e wG ⟨rfl, hbwG⟩
          (try go_wp2_with fail)
          refine hK.out _ _ ?_ (fun hH2 => ?_)
          · exact ⟨hHeld.2.2.2.2.2.2.2.2.2.2.cell hbwG (by omega) hHeld.1, hHeld.2.2.2.2.2.2.2.2.2.2.cell hbwG (by omega) hHeld.2.1, hHeld.2.2.2.2.2.2.2.2.2.2.cell hbwG (by omega) hHeld.2.2.1, hHeld.2.2.2.2.2.2.2.2.2.2.cell hbwG (by omega) hHeld.2.2.2.1, hHeld.2.2.2.2.2.2.2.2.2.2.cell hbwG (by omega) hHeld.2.2.2.2.1, hHeld.2.2.2.2.2.2.2.2.2.2.cell hbwG (by omega) hHeld.2.2.2.2.2.1, hHeld.2.2.2.2.2.2.2.2.2.2.cell hbwG (by omega) hHeld.2.2.2.2.2.2.1, hHeld.2.2.2.2.2.2.2.2.2.2.cell hbwG (by omega) hHeld.2.2.2.2.2.2.2.1, hHeld.2.2.2.2.2.2.2.2.2.2.cell hbwG (by omega) hHeld.2.2.2.2.2.2.2.2.1, hHeld.2.2.2.2.2.2.2.2.2.2.cell hbwG (by omega) hHeld.2.2.2.2.2.2.2.2.2.1, hHeld.2.2.2.2.2.2.2.2.2.2.call hbwG⟩
          clear hK K hHeld
          have hHeld := hH2
          clear hH2
          (try simp only [Act.put, List.setIfInBounds_toArray, List.set_cons_zero, List.set_cons_succ])
          refine wpAnyH_take (i := 29) (oi := { dst := some 34, op := .binOp .eql 3 (.tmp 33) (.const (.int .i64 0)) 3, type := _, pos := _, after := _, guard := some (23, true) }) (v := .bool vp) rfl (by kernel_rfl) (by kernel_rfl) (by kernel_rfl) (fun _ _ _ h => h) ?_ hHeld ?_
          · (refine Or.inl ⟨by rfl, fun w hSw => ?_⟩; (try dsimp only at hSw); go_simp; (try (first | rfl | (rw [← hvp]) | (simp [*]; done))))
          (try simp only [Act.put, List.setIfInBounds_toArray, List.set_cons_zero, List.set_cons_succ])
          refine wpAnyH_take (i := 30) (oi := { dst := some 35, op := .pick (.tmp 28) (.tmp 34) (.const (.bool false)), type := _, pos := _, after := _, guard := none }) (v := ?_) rfl (by kernel_rfl) (by kernel_rfl) (by kernel_rfl) (fun _ _ _ h => h) ?_ hHeld ?_
          rotate_left
          · (refine Or.inl ⟨by rfl, fun w hSw => ?_⟩; (try dsimp only at hSw); go_simp; (try with_reducible rfl))
          (try simp only [Act.put, List.setIfInBounds_toArray, List.set_cons_zero, List.set_cons_succ])
          refine wpAnyH_take (i := 31) (oi := { dst := some 4, op := .assign (.tmp 35), type := _, pos := _, after := _, guard := none }) (v := ?_) rfl (by kernel_rfl) (by kernel_rfl) (by kernel_rfl) (fun _ _ _ h => h) ?_ hHeld ?_
          rotate_left
          · (refine Or.inl ⟨by rfl, fun w hSw => ?_⟩; (try dsimp only at hSw); go_simp; (try with_reducible rfl))
          (try simp only [Act.put, List.setIfInBounds_toArray, List.set_cons_zero, List.set_cons_succ])
          refine wpAnyH_done (by kernel_rfl) ?_ _
          go_wp2_with fail
          go_meet
          exact ⟨by first | rfl | trivial, hHeld.2.2.2.2.2.2.2.2.2.2⟩
        case rest =>
        obtain ⟨rfl, hkp⟩ := hcut
        have HB5 := hid (B2.out.trans (hkp.bel.mono (by omega)))
        clear hkp
        go_wp2
        go_ret
        exact ⟨rfl, HB5.out⟩
end Go.Proofs.Ytliomgoakiidfaa.ItEq
