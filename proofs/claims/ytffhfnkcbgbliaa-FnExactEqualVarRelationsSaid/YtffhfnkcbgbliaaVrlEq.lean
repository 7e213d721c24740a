/- The equality of labeled relations, the model's and the program's (spec.EqualVarRelations, impl.EqualVarRelations). -/
import Derived.Test.YtffhfnkcbgbliaaVrl
import Derived.Test.YtffhfnkcbgbliaaLibEqual
import Derived.Test.YtffhfnkcbgbliaaRowCmpS
import Derived.Test.YtffhfnkcbgbliaaAsc
import Derived.Test.YtffhfnkcbgbliaaRelEqS
import Derived.Test.YtffhfnkcbgbliaaRelEqI
namespace Go.Proofs.Ytffhfnkcbgbliaa.VrlEq
open Go.RowKit
open Go.Proofs.Ytffhfnkcbgbliaa.Num Go.Proofs.Ytffhfnkcbgbliaa.IntRow Go.Proofs.Ytffhfnkcbgbliaa.Grid Go.Proofs.Ytffhfnkcbgbliaa.GridLaw Go.Proofs.Ytffhfnkcbgbliaa.RelKit Go.Proofs.Ytffhfnkcbgbliaa.CmpL Go.Proofs.Ytffhfnkcbgbliaa.RowCmpS Go.Proofs.Ytffhfnkcbgbliaa.Asc Go.Proofs.Ytffhfnkcbgbliaa.LibEqual Go.Proofs.Ytffhfnkcbgbliaa.RelEqS Go.Proofs.Ytffhfnkcbgbliaa.RelEqI Go.Proofs.Ytffhfnkcbgbliaa.Rdr Go.Proofs.Ytffhfnkcbgbliaa.Dat Go.Proofs.Ytffhfnkcbgbliaa.HasL Go.Proofs.Ytffhfnkcbgbliaa.TableLaw Go.Proofs.Ytffhfnkcbgbliaa.Vrl
set_option linter.unusedVariables false

def eqV (x y : VrelD) : Bool := decide (x.1 = y.1) && eqR x.2.1 y.2.1 x.2.2 y.2.2

theorem impl_eqv (cs ds : List Value) (x y : VrelD) (lo hi lo' hi' : Nat) (w : World) (hx : szV x ≤ 1048576) (hy : szV y ≤ 1048576) (h : rVrel w lo hi cs x) (h' : rVrel w lo' hi' ds y) (hh : hi ≤ w.heap.size) (hh' : hi' ≤ w.heap.size) :
    Calls Try.prog 9 #[.agg cs.toArray, .agg ds.toArray] w fun e w' => e = .returned (.bool (eqV x y)) ∧ Below w.heap.size w w' := by
  obtain ⟨a, cap, o, capo, rfl, _, _, hr, hg⟩ := vrel_open h
  obtain ⟨a', cap', o', capo', rfl, _, _, hr', hg'⟩ := vrel_open h'
  have ht : x.1.length ≤ 1048576 ∧ tot x.2.2 ≤ 1048576 := by rw [← szG_tot]; unfold szV at hx; omega
  have ht' : y.1.length ≤ 1048576 ∧ tot y.2.2 ≤ 1048576 := by rw [← szG_tot]; unfold szV at hy; omega
  have B2 := hid (((Below.refl w.heap.size w).alloc (Nat.le_refl _) (.cells #[.slice a x.1.length cap, .int .i64 x.2.1, .slice o x.2.2.length capo] 32)).alloc (by simp) (.cells #[.slice a' y.1.length cap', .int .i64 y.2.1, .slice o' y.2.2.length capo'] 32))
  have P0 := hid ((hasl_new w [.slice a x.1.length cap, .int .i64 x.2.1, .slice o x.2.2.length capo] 32).alloc (.cells #[.slice a' y.1.length cap', .int .i64 y.2.1, .slice o' y.2.2.length capo'] 32))
  have P1 := hid (hasl_new (w.alloc (.cells #[.slice a x.1.length cap, .int .i64 x.2.1, .slice o x.2.2.length capo] 32)) [.slice a' y.1.length cap', .int .i64 y.2.1, .slice o' y.2.2.length capo'] 32)
  simp only [World.size_alloc] at P1
  have E1 := hid (lib_equal a a' x.1.length y.1.length cap cap' hi hi' x.1 y.1 _ rfl rfl ht.1 ht'.1 ((rd_of hr).below (B2.out.mono hh)) ((rd_of hr').below (B2.out.mono hh')) (by simp; omega) (by simp; omega))
  have G1 := hid (grd_of hg)
  have G2 := hid (grd_of hg')
  obtain ⟨c, hcc⟩ : ∃ c, decide (x.1 = y.1) = c := ⟨_, rfl⟩
  rw [hcc] at E1
  have hev := hid (show eqV x y = (c && eqR x.2.1 y.2.1 x.2.2 y.2.2) by unfold eqV; rw [hcc])
  clear h h' hr hr' hg hg' hcc
  go_enter Try.func9, Try.ntmps9
  go_wp2_with fail
  refine E1.out.mono ?_
  rintro e w1 ⟨rfl, hb⟩
  have hs1 := hb.size
  simp only [World.size_alloc] at hs1
  have HB := hid (B2.out.trans (hb.mono (by simp; omega)))
  cases c with
  | false =>
    clear hb
    go_wp2
    go_ret
    exact ⟨by rw [hev.out]; rfl, HB.out⟩
  | true =>
    obtain ⟨p0, p1, p2, _, _, _, _⟩ := HasL.three (P0.out.below hb)
    obtain ⟨q0, q1, q2, _, _, _, _⟩ := HasL.three (P1.out.below hb)
    clear hb P0 P1
    have E2 := hid (impl_eqr x.2.1 y.2.1 o o' x.2.2.length y.2.2.length capo capo' hi hi' x.2.2 y.2.2 w1 rfl rfl (len_le ht.2) (len_le ht'.2) (each_le ht.2) (each_le ht'.2) (G1.out.below (HB.out.mono hh)) (G2.out.below (HB.out.mono hh')) (by omega) (by omega))
    obtain ⟨d, hdd⟩ : ∃ d, eqR x.2.1 y.2.1 x.2.2 y.2.2 = d := ⟨_, rfl⟩
    rw [hdd] at E2 hev
    clear hdd
    go_wp2_with fail
    refine E2.out.mono ?_
    rintro e w2 ⟨rfl, hb⟩
    have HC := hid (HB.out.trans (hb.mono (by omega)))
    clear hb
    go_wp2
    go_ret
    exact ⟨by rw [hev.out]; rfl, HC.out⟩

theorem spec_eqv (cs ds : List Value) (x y : VrelD) (lo hi lo' hi' : Nat) (w : World) (hx : szV x ≤ 1048576) (hy : szV y ≤ 1048576) (h : rVrel w lo hi cs x) (h' : rVrel w lo' hi' ds y) (hh : hi ≤ w.heap.size) (hh' : hi' ≤ w.heap.size) :
    Calls Try.prog 7 #[.agg cs.toArray, .agg ds.toArray] w fun e w' => e = .returned (.bool (eqV x y)) ∧ Below w.heap.size w w' := by
  obtain ⟨a, cap, o, capo, rfl, _, _, hr, hg⟩ := vrel_open h
  obtain ⟨a', cap', o', capo', rfl, _, _, hr', hg'⟩ := vrel_open h'
  have ht : x.1.length ≤ 1048576 ∧ tot x.2.2 ≤ 1048576 := by rw [← szG_tot]; unfold szV at hx; omega
  have ht' : y.1.length ≤ 1048576 ∧ tot y.2.2 ≤ 1048576 := by rw [← szG_tot]; unfold szV at hy; omega
  have B2 := hid (((Below.refl w.heap.size w).alloc (Nat.le_refl _) (.cells #[.slice a x.1.length cap, .int .i64 x.2.1, .slice o x.2.2.length capo] 32)).alloc (by simp) (.cells #[.slice a' y.1.length cap', .int .i64 y.2.1, .slice o' y.2.2.length capo'] 32))
  have P0 := hid ((hasl_new w [.slice a x.1.length cap, .int .i64 x.2.1, .slice o x.2.2.length capo] 32).alloc (.cells #[.slice a' y.1.length cap', .int .i64 y.2.1, .slice o' y.2.2.length capo'] 32))
  have P1 := hid (hasl_new (w.alloc (.cells #[.slice a x.1.length cap, .int .i64 x.2.1, .slice o x.2.2.length capo] 32)) [.slice a' y.1.length cap', .int .i64 y.2.1, .slice o' y.2.2.length capo'] 32)
  simp only [World.size_alloc] at P1
  have E1 := hid (spec_cmp a a' cap cap' hi hi' x.1 y.1 _ ht.1 ht'.1 ((rd_of hr).below (B2.out.mono hh)) ((rd_of hr').below (B2.out.mono hh')) (by simp; omega) (by simp; omega))
  have G1 := hid (grd_of hg)
  have G2 := hid (grd_of hg')
  obtain ⟨z, hz⟩ : ∃ z, cmpL x.1 y.1 = z := ⟨_, rfl⟩
  rw [hz] at E1
  obtain ⟨c, hcc⟩ : ∃ c, (z == 0) = c := ⟨_, rfl⟩
  have hev := hid (show eqV x y = (c && eqR x.2.1 y.2.1 x.2.2 y.2.2) by
    unfold eqV
    congr 1
    rw [← hcc, ← hz]
    by_cases e : x.1 = y.1
    · rw [e, cmpL_self]; simp
    · have : cmpL x.1 y.1 ≠ 0 := fun h0 => e (cmpL_zero h0)
      simp [e, this])
  clear h h' hr hr' hg hg' hz
  go_enter Try.func7, Try.ntmps7
  go_wp2_with fail
  refine E1.out.mono ?_
  rintro e w1 ⟨rfl, hb⟩
  have hs1 := hb.size
  simp only [World.size_alloc] at hs1
  have HB := hid (B2.out.trans (hb.mono (by simp; omega)))
  cases c with
  | false =>
    clear hb
    go_wp2
    go_ret
    exact ⟨by rw [hev.out]; rfl, HB.out⟩
  | true =>
    obtain ⟨p0, p1, p2, _, _, _, _⟩ := HasL.three (P0.out.below hb)
    obtain ⟨q0, q1, q2, _, _, _, _⟩ := HasL.three (P1.out.below hb)
    clear hb P0 P1
    have E2 := hid (spec_eqr x.2.1 y.2.1 o o' x.2.2.length y.2.2.length capo capo' hi hi' x.2.2 y.2.2 w1 rfl rfl (len_le ht.2) (len_le ht'.2) (each_le ht.2) (each_le ht'.2) (G1.out.below (HB.out.mono hh)) (G2.out.below (HB.out.mono hh')) (by omega) (by omega))
    obtain ⟨d, hdd⟩ : ∃ d, eqR x.2.1 y.2.1 x.2.2 y.2.2 = d := ⟨_, rfl⟩
    rw [hdd] at E2 hev
    clear hdd
    go_wp2_with fail
    refine E2.out.mono ?_
    rintro e w2 ⟨rfl, hb⟩
    have HC := hid (HB.out.trans (hb.mono (by omega)))
    clear hb
    go_wp2
    go_ret
    exact ⟨by rw [hev.out]; rfl, HC.out⟩
end Go.Proofs.Ytffhfnkcbgbliaa.VrlEq
