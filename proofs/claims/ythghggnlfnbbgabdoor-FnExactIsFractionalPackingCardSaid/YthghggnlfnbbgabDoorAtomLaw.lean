/- Contracts of the laws' own helpers on an atom. -/
import Derived.Test.YthghggnlfnbbgabDoorRows
import Derived.Test.YthghggnlfnbbgabDoorGridLaw
import Derived.Test.YthghggnlfnbbgabDoorHasL
import Derived.Test.YthghggnlfnbbgabDoorDat
namespace Go.Proofs.YthghggnlfnbbgabDoor.AtomLaw
open Go.RowKit
open Go.Proofs.YthghggnlfnbbgabDoor.Num Go.Proofs.YthghggnlfnbbgabDoor.IntRow Go.Proofs.YthghggnlfnbbgabDoor.IntLaw Go.Proofs.YthghggnlfnbbgabDoor.GridLaw Go.Proofs.YthghggnlfnbbgabDoor.Rdr Go.Proofs.YthghggnlfnbbgabDoor.Dat Go.Proofs.YthghggnlfnbbgabDoor.HasL Go.Proofs.YthghggnlfnbbgabDoor.Keep Go.Proofs.YthghggnlfnbbgabDoor.Kept
set_option linter.unusedVariables false

theorem sz_atom (cs : List Value) (x : AtomD) (lo hi : Nat) (k r : Int) (w : World) (h0 : 0 ≤ k) (hk : k ≤ 1048576) (h : rAtom w lo hi cs x)
    (hr : RowKit.Hid ((k < (szA x : Nat) ∧ r = -1) ∨ ((szA x : Nat) ≤ k ∧ r = k - (szA x : Nat)))) :
    Calls Tryd.prog 32 #[.agg cs.toArray, .int .i64 k] w fun e w' => e = .returned (.int .i64 r) ∧ Below w.heap.size w w' := by
  obtain ⟨a, cap, rfl, hs, hl, _⟩ := atom_open h
  have he : szA x = x.1.size + x.2.length := rfl
  have hrr := hr.out
  rw [he] at hrr
  have B1 := hid ((Below.refl w.heap.size w).alloc (Nat.le_refl _) (.cells #[.string x.1, .slice a x.2.length cap] 63))
  clear h hr he
  by_cases h1 : k < (x.1.size : Int)
  · have t1 : k - (x.1.size : Int) < 0 := by omega
    obtain rfl : r = -1 := by omega
    clear hrr
    go_enter Tryd.func32, Tryd.ntmps32
    go_wp2
    go_ret
    exact ⟨rfl, B1.out⟩
  · have t1 : ¬ (k - (x.1.size : Int) < 0) := by omega
    by_cases h2 : k - (x.1.size : Int) < (x.2.length : Int)
    · obtain rfl : r = -1 := by omega
      have S := hid (fun W => sz_int a x.2.length cap (k - (x.1.size : Int)) (-1) W (by omega) (by omega) (by omega) (.inl ⟨h2, rfl⟩))
      clear hrr h2
      go_enter Tryd.func32, Tryd.ntmps32
      go_wp2_with fail
      refine (S.out _).mono ?_
      rintro e w' ⟨rfl, rfl⟩
      go_wp2
      go_ret
      exact ⟨rfl, B1.out⟩
    · have hre : r = k - (x.1.size : Int) - (x.2.length : Int) := by omega
      subst hre
      have S := hid (fun W => sz_int a x.2.length cap (k - (x.1.size : Int)) (k - (x.1.size : Int) - (x.2.length : Int)) W (by omega) (by omega) (by omega) (.inr ⟨by omega, rfl⟩))
      have t2 : ¬ (k - (x.1.size : Int) - (x.2.length : Int) < 0) := by omega
      clear hrr h2
      go_enter Tryd.func32, Tryd.ntmps32
      go_wp2_with fail
      refine (S.out _).mono ?_
      rintro e w' ⟨rfl, rfl⟩
      go_wp2
      go_ret
      exact ⟨rfl, B1.out⟩

theorem to_atom (cs : List Value) (x : AtomD) (lo hi : Nat) (w : World) (hs : szA x ≤ 1048576) (h : rAtom w lo hi cs x) (hh : hi ≤ w.heap.size) :
    Calls Tryd.prog 38 #[.agg cs.toArray] w fun e w' => ∃ ds : List Value, e = .returned (.agg ds.toArray) ∧ rAtom w' w.heap.size w'.heap.size ds x ∧ Below w.heap.size w w' := by
  obtain ⟨a, cap, rfl, hz1, hz2, hr⟩ := atom_open h
  have hrd := rd_of hr
  have hn : x.2.length ≤ 1048576 := by unfold szA at hs; omega
  have K1 := hid ((hasl_new (w.alloc (.cells #[.string x.1, .slice a x.2.length cap] 63)) [.string ⟨#[]⟩, .slice none 0 0] 45).alloc (.cells #[.string x.1, .slice none 0 0] 45))
  have K2 := hid (hasl_new ((w.alloc (.cells #[.string x.1, .slice a x.2.length cap] 63)).alloc (.cells #[.string ⟨#[]⟩, .slice none 0 0] 45)) [.string x.1, .slice none 0 0] 45)
  have B3 := hid ((((Below.refl w.heap.size w).alloc (Nat.le_refl _) (.cells #[.string x.1, .slice a x.2.length cap] 63)).alloc (by simp) (.cells #[.string ⟨#[]⟩, .slice none 0 0] 45)).alloc (by simp; omega) (.cells #[.string x.1, .slice none 0 0] 45))
  have T := hid (to_ints a cap hi x.2 _ hn (hrd.below (B3.out.mono hh)) (by simp; omega))
  simp only [World.size_alloc] at K1 K2
  clear h hr hrd
  go_enter Tryd.func38, Tryd.ntmps38
  go_wp2_with fail
  refine T.out.mono ?_
  rintro e w1 ⟨rfl, hat, hb⟩
  have hs1 := hb.size
  simp only [World.size_alloc] at hs1 hat hb ⊢
  have P1 := K1.out.below (hb.mono (by first | exact Nat.le_refl _ | simp))
  have P2 := K2.out.below (hb.mono (by first | exact Nat.le_refl _ | simp))
  have HA := hid hat
  have HB := hid (B3.out.trans (hb.mono (by omega)))
  have HR := hid (((P1.far (c := w.heap.size + 1 + 1) (o := 1) (by omega) (.slice (some ⟨w.heap.size + 1 + 1 + 1, 0, none⟩) x.2.length x.2.length)).put 0 (.string x.1)).put 1 (.slice (some ⟨w.heap.size + 1 + 1 + 1, 0, none⟩) x.2.length x.2.length))
  obtain ⟨p0, p1, p2, p3, p4⟩ := P1.two
  obtain ⟨q0, q1, q2, q3, q4⟩ := P2.two
  obtain ⟨r0, r1, _, _, _⟩ := HasL.two HR.out
  clear hat hb P1 P2 K1 K2 T
  go_wp2
  refine bodyPost_ret (v := .agg #[.string x.1, .slice (some ⟨w.heap.size + 1 + 1 + 1, 0, none⟩) x.2.length x.2.length]) (by simp [results, Tryd.results38, go_sem, r0, r1]) rfl ⟨[.string x.1, .slice (some ⟨w.heap.size + 1 + 1 + 1, 0, none⟩) x.2.length x.2.length], rfl, ?_, ?_⟩
  · have hl := HA.out.lt
    exact atom_mk hz1 hz2 (((((of_at (lo := w.heap.size + 1 + 1 + 1) (hi := w.heap.size + 1 + 1 + 1 + 1) HA.out (Nat.le_refl _) (by omega)).keep good_int (sm_set _ (.inl (by omega)))).keep good_int (sm_set _ (.inl (by omega)))).keep good_int (sm_set _ (.inl (by omega)))).up good_int (by omega) (by simp; omega))
  · exact ((HB.out.setCell (by simp; omega) _).setCell (by simp) _).setCell (by simp) _

theorem eq_atom (cs ds : List Value) (x : AtomD) (lo hi lo' hi' : Nat) (w : World) (hs : szA x ≤ 1048576) (h : rAtom w lo hi cs x) (h' : rAtom w lo' hi' ds x) (hh : hi ≤ w.heap.size) (hh' : hi' ≤ w.heap.size) :
    Calls Tryd.prog 48 #[.agg cs.toArray, .agg ds.toArray] w fun e w' => e = .returned (.bool true) ∧ Below w.heap.size w w' := by
  obtain ⟨a, cap, rfl, hz1, hz2, hr⟩ := atom_open h
  obtain ⟨a', cap', rfl, _, _, hr'⟩ := atom_open h'
  have hn : x.2.length ≤ 1048576 := by unfold szA at hs; omega
  have hB1 := hid (((Below.refl w.heap.size w).alloc (Nat.le_refl _) (.cells #[.string x.1, .slice a x.2.length cap] 45)).alloc (by simp) (.cells #[.string x.1, .slice a' x.2.length cap'] 45))
  have E := hid (eq_ints a a' cap cap' x.2 hi hi' _ hn ((rd_of hr).below (hB1.out.mono hh)) ((rd_of hr').below (hB1.out.mono hh')) (by simp; omega) (by simp; omega))
  clear h h' hr hr'
  go_enter Tryd.func48, Tryd.ntmps48
  go_wp2_with fail
  refine E.out.mono ?_
  rintro e w' ⟨rfl, hb⟩
  have HB := hid (hB1.out.trans (hb.mono (by simp; omega)))
  clear hb
  go_wp2
  go_ret
  exact ⟨rfl, HB.out⟩
end Go.Proofs.YthghggnlfnbbgabDoor.AtomLaw
