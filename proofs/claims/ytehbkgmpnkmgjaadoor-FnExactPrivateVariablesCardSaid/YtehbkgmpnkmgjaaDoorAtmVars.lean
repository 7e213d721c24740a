/- The variables of an atom, ascending: the model's function and the program's. -/
import Derived.Test.YtehbkgmpnkmgjaaDoorVarIn
import Derived.Test.YtehbkgmpnkmgjaaDoorIntLaw
import Derived.Test.YtehbkgmpnkmgjaaDoorHasL
import Derived.Test.YtehbkgmpnkmgjaaDoorKeep
namespace Go.Proofs.YtehbkgmpnkmgjaaDoor.AtmVars
open Go.RowKit
open Go.Proofs.YtehbkgmpnkmgjaaDoor.Num Go.Proofs.YtehbkgmpnkmgjaaDoor.IntRow Go.Proofs.YtehbkgmpnkmgjaaDoor.IntLaw Go.Proofs.YtehbkgmpnkmgjaaDoor.Rdr Go.Proofs.YtehbkgmpnkmgjaaDoor.Dat Go.Proofs.YtehbkgmpnkmgjaaDoor.HasL Go.Proofs.YtehbkgmpnkmgjaaDoor.VarIn
set_option linter.unusedVariables false

/-- The variables below m that occur. -/
def avs (xs : List Int) : Nat → List Int
  | 0 => []
  | m + 1 => if (m : Int) ∈ xs then avs xs m ++ [(m : Int)] else avs xs m
theorem avs_yes {xs : List Int} {m : Nat} (h : decide ((m : Int) ∈ xs) = true) : avs xs (m + 1) = avs xs m ++ [(m : Int)] := by rw [avs, if_pos (by simpa using h)]
theorem avs_no {xs : List Int} {m : Nat} (h : decide ((m : Int) ∈ xs) = false) : avs xs (m + 1) = avs xs m := by rw [avs, if_neg (by simpa using h)]
theorem avs_len (xs : List Int) (m : Nat) : (avs xs m).length ≤ m := by
  induction m with
  | zero => exact Nat.le_refl _
  | succ m ih =>
    rw [avs]
    by_cases h : (m : Int) ∈ xs
    · rw [if_pos h]; simp; exact ih
    · rw [if_neg h]; omega
theorem own_lit (w : World) (base : Nat) (e : TypeId) (hb : base ≤ w.heap.size) : Own (w.alloc (.cells #[] e)) base e (.slice (some ⟨w.heap.size, 0, none⟩) 0 0) [] :=
  World.ownsRow_made w #[] 0 hb (by decide) (by decide)
def Vrs (xs : List Int) (w : World) (e : Ending) (w' : World) : Prop := ∃ a cap, e = .returned (.slice a (avs xs 5).length cap) ∧ Own w' w.heap.size 3 (.slice a (avs xs 5).length cap) (avs xs 5) ∧ Below w.heap.size w w'

theorem spec_avars (cs : List Value) (x : AtomD) (lo hi : Nat) (w : World) (hs : x.2.length ≤ 1048576) (h : rAtom w lo hi cs x) (hh : hi ≤ w.heap.size) :
    Calls Tryd.prog 31 #[.agg cs.toArray] w (Vrs x.2 w) := by
  obtain ⟨i0, hi0, hz0, hz1, hz2⟩ := info_parts IntLaw.info
  obtain ⟨a, cap, hcs, hz3, hz4, hr⟩ := atom_open h
  subst hcs
  have K0 := hid (hasl_new w [.string x.1, .slice a x.2.length cap] 46)
  have B1 := hid ((Below.refl w.heap.size w).alloc (Nat.le_refl _) (.cells #[.string x.1, .slice a x.2.length cap] 46))
  have C := hid (fun W (k : Int) (hW : Below w.heap.size w W) => spec_has _ x k lo hi W hs (good_atom.keep h (sm_below hW hh)) (Nat.le_trans hh hW.size))
  clear h hr
  go_enter Tryd.func31, Tryd.ntmps31
  go_wp2
  go_loopw [3, 4] (fun v i wr => ∃ k : Nat, k ≤ 5 ∧ i = .int .i64 k ∧ Own wr (w.heap.size + 1) 3 v (avs x.2 k) ∧ Hid (HasL wr w.heap.size [.string x.1, .slice a x.2.length cap]) ∧ Below w.heap.size w wr ∧ w.heap.size + 1 ≤ wr.heap.size) (fun _ i _ => 5 - (intOf i).toNat)
  case atStart => exact ⟨0, by omega, rfl, by simpa [avs] using own_lit (w.alloc (.cells #[.string x.1, .slice a x.2.length cap] 46)) (w.heap.size + 1) 3 (by simp), hid (K0.out.alloc _), B1.out.alloc B1.out.size _, by simp⟩
  case round =>
    obtain ⟨k, hk, rfl, hown, hbox, hb, hsz⟩ := hrel
    by_cases hlt : k < 5
    · have hlt' : (k : Int) < 5 := by omega
      obtain ⟨p0, p1, p2, p3, p4⟩ := hbox.out.two
      go_wp2_with fail
      refine (C.out _ k hb).mono ?_
      rintro e w1 ⟨rfl, hb1⟩
      have HB := hb.trans (hb1.mono hb.size)
      have KB := hid (hbox.out.below hb1)
      have HO := hown.below' hb1
      have hsz1 : w.heap.size + 1 ≤ w1.heap.size := Nat.le_trans hsz hb1.size
      have hln := avs_len x.2 k
      clear p0 p1 p2 p3 p4 hbox hb hown hb1 hsz
      cases hin : decide ((k : Int) ∈ x.2) with
      | true =>
        have E := hid (avs_yes hin)
        clear hin
        go_wp2_with (at_builtin; refine append_int rfl _ _ 23 rfl (w.heap.size + 1) 3 i0 Tryd.underlying23 hi0 hz0 hz1 hz2 w1 w1 _ (avs x.2 k) (k : Int) HO (by rfl) (Below.refl _ _) hsz1 _ rfl (by rfl) (by omega) ?_)
        intro v1 w2 hown1 hbel1 hsz2 hgr
        have HB2 := HB.trans (hbel1.mono (by omega))
        have KB2 := hid (KB.out.under hbel1 (by omega))
        rw [← E.out] at hown1
        clear HB KB HO hsz1 hbel1 hgr
        go_wp2
        go_roundw
        case rel => exact ⟨k + 1, by omega, by go_num, hown1, KB2, HB2, hsz2⟩
        case measure => simp [intOf]; omega
      | false =>
        have E := hid (avs_no hin)
        clear hin
        rw [← E.out] at HO
        go_wp2
        go_roundw
        case rel => exact ⟨k + 1, by omega, by go_num, HO, KB, HB, hsz1⟩
        case measure => simp [intOf]; omega
    · have hlt' : ¬ (k : Int) < 5 := by omega
      have e : k = 5 := by omega
      subst e
      obtain ⟨av, capv, rfl, _, _, _⟩ := hown.form
      have HO := hid (hown.mono (show w.heap.size ≤ w.heap.size + 1 by omega))
      clear hown hbox
      go_wp2
      go_ret
      exact ⟨av, capv, rfl, HO.out, hb⟩

end Go.Proofs.YtehbkgmpnkmgjaaDoor.AtmVars
