/- The atoms with a variable, by their indices; the weights at given places (the program's functions). -/
import Derived.Test.YthghggnlfnbbgabDoorCovP
import Derived.Test.YthghggnlfnbbgabDoorVarIn
import Derived.Test.YthghggnlfnbbgabDoorRatRow
import Derived.Test.YthghggnlfnbbgabDoorIntLaw
namespace Go.Proofs.YthghggnlfnbbgabDoor.Awv
open Go.RowKit
open Go.Proofs.YthghggnlfnbbgabDoor.Num Go.Proofs.YthghggnlfnbbgabDoor.IntRow Go.Proofs.YthghggnlfnbbgabDoor.IntLaw Go.Proofs.YthghggnlfnbbgabDoor.Rdr Go.Proofs.YthghggnlfnbbgabDoor.Dat Go.Proofs.YthghggnlfnbbgabDoor.HasL Go.Proofs.YthghggnlfnbbgabDoor.VarIn Go.Proofs.YthghggnlfnbbgabDoor.Rats Go.Proofs.YthghggnlfnbbgabDoor.CovP
set_option linter.unusedVariables false

theorem own_nil (w : World) (base : Nat) (e : TypeId) : Own w base e (.slice none 0 0) [] := World.ownsRow_nil w base e 1
set_option maxRecDepth 100000 in
/-- valuesAt on rationals: a slice of the call's own. -/
theorem impl_vals (a b : Option Addr) (cap capb : Nat) (xs : List RatD) (cs : List Int) (lo hi B : Nat) (w : World) (hn : xs.length ≤ 1048576) (hm : cs.length ≤ 1048576) (hc0 : ∀ k (h : k < cs.length), ∃ j : Nat, j < xs.length ∧ cs[k] = (j : Int)) (h : Els 2 rRat w lo hi a xs) (h' : Rd w B b cs) (hh : hi ≤ w.heap.size) (hB : B ≤ w.heap.size) :
    Calls Tryd.prog 25 #[.slice a xs.length cap, .slice b cs.length capb] w fun e w' => e = .returned (.slice (some ⟨w.heap.size, 0, none⟩) cs.length cs.length) ∧ Els 2 rRat w' w.heap.size (w.heap.size + 1) (some ⟨w.heap.size, 0, none⟩) (vals xs cs) ∧ Below w.heap.size w w' ∧ w.heap.size < w'.heap.size := by
  obtain ⟨i0, hi0, hz0, hz1, hz2⟩ := info_parts infoRat
  have hmk := make_k (P := Tryd.prog) w 34 47 i0 _ 2 16 Tryd.underlying34 hi0 hz0 hz1 hz2 (by omega) cs.length hm
  have hat0 := hid (own_k w 47 (Value.cells (.agg #[.int .i64 0, .int .i64 0])) 2 cs.length hm)
  have HC := hid hc0
  have HX := hid h
  have HY := hid h'
  have hvl := vals_len xs cs
  clear hc0 h h'
  go_enter Tryd.func25, Tryd.ntmps25
  go_wp2
  go_loopw [6, 7, 13] (fun _ _ i wr => ∃ (j : Nat) (ds : List Value), j ≤ cs.length ∧ i = .int .i64 j ∧ Hid (wr.ownsRow w.heap.size 47 2 (.slice (some ⟨w.heap.size, 0, none⟩) cs.length cs.length) cs.length ds) ∧ Hid (Fil 2 rRat wr (w.heap.size + 1) (w.heap.size + 1) ds (vals xs cs) j) ∧ Hid (Below w.heap.size w wr) ∧ w.heap.size < wr.heap.size) (fun _ _ i _ => cs.length - (intOf i).toNat)
  case atStart => exact ⟨0, _, Nat.zero_le _, rfl, hat0, hid Fil.zero, hid ((Below.refl _ _).alloc (Nat.le_refl _) _), by simp⟩
  case round =>
    obtain ⟨j, ds, hj, rfl, hown, hfil, hb, hsz⟩ := hrel
    clear hmk
    by_cases hlt : j < cs.length
    · obtain ⟨i, hi1, hci⟩ := HC.out j hlt
      obtain ⟨bc, offc, rfl, _, hc1⟩ := (HY.out.below (hb.out.mono hB)) (by omega)
      have g1 := hc1 j hlt
      rw [hci] at g1
      obtain ⟨b, off, rfl, _, hbB, c0, c1⟩ := rats_at (HX.out.grow good_rat hb.out hh) i hi1
      have hbd := hid (rats_bd HX.out i hi1)
      have hva := vals_at xs cs j i hlt hi1 hci (by omega)
      have hlt' : (j : Int) < (cs.length : Int) := by omega
      have h0' : (0 : Int) ≤ (j : Int) := by omega
      have hlt2 : (i : Int) < (xs.length : Int) := by omega
      have h02 : (0 : Int) ≤ (i : Int) := by omega
      obtain ⟨u0, e0⟩ := ownk_cell hown.out j 0 hlt (by omega)
      rw [Nat.add_zero] at e0
      obtain ⟨u1, e1⟩ := ownk_cell hown.out j 1 hlt (by omega)
      have f0 := World.ownsRow.frozenAt hown.out (j * 2)
      have f1 := World.ownsRow.frozenAt hown.out (j * 2 + 1)
      have O2 := (World.ownsRow.stored hown.out (j * 2) (.int .i64 xs[i].1)).1
      have O3 := (World.ownsRow.stored O2 (j * 2 + 1) (.int .i64 xs[i].2)).1
      have HO := hid O3
      have HS := hid (show Sm (w.heap.size + 1) (w.heap.size + 1) wr ((wr.setCell ⟨w.heap.size, j * 2, none⟩ (.int .i64 xs[i].1)).setCell ⟨w.heap.size, j * 2 + 1, none⟩ (.int .i64 xs[i].2)) from fun b h1 h2 => by omega)
      have HF2 := hid ((hfil.out.keep good_rat HS.out (Nat.le_refl _)).step (ds := [.int .i64 xs[i].1, .int .i64 xs[i].2]) (by omega) rfl (by rw [hown.out.1, hvl]) (by rw [hva]; exact rat_mk hbd.out.1 hbd.out.2))
      have HB := hid ((hb.out.setCell (p := ⟨w.heap.size, j * 2, none⟩) (Nat.le_refl _) (.int .i64 xs[i].1)).setCell (p := ⟨w.heap.size, j * 2 + 1, none⟩) (Nat.le_refl _) (.int .i64 xs[i].2))
      have hwl : w.heap.size < ((wr.setCell ⟨w.heap.size, j * 2, none⟩ (.int .i64 xs[i].1)).setCell ⟨w.heap.size, j * 2 + 1, none⟩ (.int .i64 xs[i].2)).heap.size := by (try simp); omega
      clear O2 O3 HS hbd hfil hown hb hc1 hva hci
      go_wp2
      go_roundw
      case rel => exact ⟨j + 1, _, by omega, by go_num, HO, HF2, HB, hwl⟩
      case measure => simp [intOf]; omega
    · have e : j = (vals xs cs).length := by omega
      have hk' : ¬ (j : Int) < (cs.length : Int) := by omega
      have HE := hid (Fil.done good_rat (e ▸ hfil.out) hown.out hvl.symm (show w.heap.size ≤ w.heap.size + 1 by omega) (Nat.le_refl _) (Nat.le_refl _) (Nat.lt_succ_self _))
      clear hfil hown e
      go_wp2
      go_ret
      exact ⟨rfl, HE.out, hb.out, hsz⟩
end Go.Proofs.YthghggnlfnbbgabDoor.Awv
