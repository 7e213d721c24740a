/- The laws' own helpers on relations, over readers. -/
import Derived.Test.YtffhfnkcbgbliaaDoorToF
import Derived.Test.YtffhfnkcbgbliaaDoorRelLaw
import Derived.Test.YtffhfnkcbgbliaaDoorTableLaw
namespace Go.Proofs.YtffhfnkcbgbliaaDoor.RelR
open Go.RowKit
open Go.Proofs.YtffhfnkcbgbliaaDoor.Num Go.Proofs.YtffhfnkcbgbliaaDoor.IntRow Go.Proofs.YtffhfnkcbgbliaaDoor.IntLaw Go.Proofs.YtffhfnkcbgbliaaDoor.Grid Go.Proofs.YtffhfnkcbgbliaaDoor.GridMore Go.Proofs.YtffhfnkcbgbliaaDoor.GridLaw Go.Proofs.YtffhfnkcbgbliaaDoor.GridLaw2 Go.Proofs.YtffhfnkcbgbliaaDoor.RelLaw Go.Proofs.YtffhfnkcbgbliaaDoor.Rdr Go.Proofs.YtffhfnkcbgbliaaDoor.Dat Go.Proofs.YtffhfnkcbgbliaaDoor.HasL Go.Proofs.YtffhfnkcbgbliaaDoor.TableLaw Go.Proofs.YtffhfnkcbgbliaaDoor.Thaw Go.Proofs.YtffhfnkcbgbliaaDoor.ToF
set_option linter.unusedVariables false

def szR (x : RelD) : Nat := szG x.2
theorem szR_tot (x : RelD) : szR x = tot x.2 := szG_tot x.2
theorem sz_relR (cs : List Value) (x : RelD) (lo hi : Nat) (k r : Int) (w : World) (h0 : 0 ≤ k) (hk : k ≤ 1048576) (h : rRel w lo hi cs x) (hh : hi ≤ w.heap.size)
    (hr : RowKit.Hid ((k < (szR x : Nat) ∧ r = -1) ∨ ((szR x : Nat) ≤ k ∧ r = k - (szR x : Nat)))) :
    Calls Tryd.prog 11 #[.agg cs.toArray, .int .i64 k] w fun e w' => e = .returned (.int .i64 r) ∧ Below w.heap.size w w' := by
  obtain ⟨a, cap, rfl, hl, hels⟩ := rel_open h
  exact sz_rel x.1 a cap hi x.2 k r w h0 hk hl (len_of hels) (grd_of hels) hh (hid (by rw [← szR_tot]; exact hr.out))
theorem to_relRF (cs : List Value) (x : RelD) (lo hi : Nat) (w : World) (hs : szR x ≤ 1048576) (h : rRel w lo hi cs x) (hh : hi ≤ w.heap.size) :
    Calls Tryd.prog 13 #[.agg cs.toArray] w fun e w' => ∃ ds : List Value, e = .returned (.agg ds.toArray) ∧ rRel w' w.heap.size w'.heap.size ds x ∧ BF w.heap.size w w' := by
  obtain ⟨a, cap, rfl, hl, hels⟩ := rel_open h
  refine (to_relF x.1 a cap hi x.2 w (by rw [← szR_tot]; exact hs) (grd_of hels) hh).mono ?_
  rintro e w' ⟨vs, g, rfl, hg, hown, hb⟩
  exact ⟨[.int .i64 x.1, .slice (some ⟨g, 0, none⟩) x.2.length x.2.length], rfl, rel_mk hl ((of_gown (len_of hels) hown (Nat.le_refl _)).up (good_sl good_int) hg (Nat.le_refl _)), hb⟩
theorem to_relR (cs : List Value) (x : RelD) (lo hi : Nat) (w : World) (hs : szR x ≤ 1048576) (h : rRel w lo hi cs x) (hh : hi ≤ w.heap.size) :
    Calls Tryd.prog 13 #[.agg cs.toArray] w fun e w' => ∃ ds : List Value, e = .returned (.agg ds.toArray) ∧ rRel w' w.heap.size w'.heap.size ds x ∧ Below w.heap.size w w' :=
  (to_relRF cs x lo hi w hs h hh).mono fun _ _ ⟨ds, he, hr, hb⟩ => ⟨ds, he, hr, hb.toBelow⟩
theorem eq_relR (cs ds : List Value) (x : RelD) (lo hi lo' hi' : Nat) (w : World) (hs : szR x ≤ 1048576) (h : rRel w lo hi cs x) (h' : rRel w lo' hi' ds x) (hh : hi ≤ w.heap.size) (hh' : hi' ≤ w.heap.size) :
    Calls Tryd.prog 15 #[.agg cs.toArray, .agg ds.toArray] w fun e w' => e = .returned (.bool true) ∧ Below w.heap.size w w' := by
  obtain ⟨a, cap, rfl, _, hels⟩ := rel_open h
  obtain ⟨a', cap', rfl, _, hels'⟩ := rel_open h'
  exact eq_rel x.1 a a' cap cap' x.2 hi hi' w (by rw [← szR_tot]; exact hs) (grd_of hels) (grd_of hels') hh hh'
end Go.Proofs.YtffhfnkcbgbliaaDoor.RelR
