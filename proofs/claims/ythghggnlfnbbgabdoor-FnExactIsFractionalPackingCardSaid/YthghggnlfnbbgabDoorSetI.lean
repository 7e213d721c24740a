/- Sets of variables in the program (the bits of a uint): math/bits.TrailingZeros at such sets, list, variableSetOf, intersects. -/
import Derived.Test.YthghggnlfnbbgabDoorSetV
import Derived.Test.YthghggnlfnbbgabDoorVarIn
import Derived.Test.YthghggnlfnbbgabDoorIntLaw
import Derived.Test.YthghggnlfnbbgabDoorVarName
import Derived.Shelf.Spec.TrailingZeros
namespace Go.Proofs.YthghggnlfnbbgabDoor.SetI
open Go.RowKit
open Go.Proofs.YthghggnlfnbbgabDoor.Num Go.Proofs.YthghggnlfnbbgabDoor.IntRow Go.Proofs.YthghggnlfnbbgabDoor.IntLaw Go.Proofs.YthghggnlfnbbgabDoor.Rdr Go.Proofs.YthghggnlfnbbgabDoor.Dat Go.Proofs.YthghggnlfnbbgabDoor.HasL Go.Proofs.YthghggnlfnbbgabDoor.VarName Go.Proofs.YthghggnlfnbbgabDoor.VarIn Go.Proofs.YthghggnlfnbbgabDoor.SetV
set_option linter.unusedVariables false

/-- The table of math/bits as its text lays it. -/
def Tab (w : World) : Prop := ∀ j, j < 64 → w.cell? ⟨1, j, none⟩ = some (.int .u8 ((Lib.deBruijn64tab.getD j 0 : Nat) : Int))
theorem Tab.lt {w : World} (h : Tab w) : 1 < w.heap.size := lt_cell (h 0 (by decide))
theorem Tab.below {w w' : World} (h : Tab w) (hb : Below w.heap.size w w') : Tab w' := fun j hj =>
  (hb.cell (p := ⟨1, j, none⟩) h.lt).trans (h j hj)

set_option maxHeartbeats 1000000 in
theorem tz64_core (x k idx : Nat) (w : World) (hx0 : ((x : Int) == 0) = false)
    (key : IntKind.u64.wrap (bits BinOp.and IntKind.u64 (x : Int) (IntKind.u64.wrap (-(x : Int))) * 285870213051353865) / 288230376151711744 = (idx : Int))
    (hi : idx < 64) (hk : k < 64) (hcell : w.cell? ⟨1, idx, none⟩ = some (.int .u8 k)) :
    Calls Tryd.prog 68 #[.int .u64 x] w fun e w' => e = .returned (.int .i64 k) ∧ w' = w := by
  go_enter Tryd.func68, Tryd.ntmps68
  go_wp2_with (simp only [key])
  go_ret
  exact ⟨rfl, rfl⟩
theorem tz (x : Nat) (hx : x < 18446744073709551616) (hx0 : x ≠ 0) (w : World) (hT : Tab w) :
    Calls Tryd.prog 60 #[.int .u64 x] w fun e w' => e = .returned (.int .i64 (Lib.ctz 64 x)) ∧ w' = w := by
  obtain ⟨hlow, hk⟩ := Lib.lowest_bit 64 x hx0 hx
  obtain ⟨hi, htab⟩ := Lib.deBruijn64_at _ hk
  have hcell := hT _ hi
  rw [htab] at hcell
  have C := hid (tz64_core x _ _ w (by simp; omega) (tz64_key x _ hx hx0 hlow) hi hk hcell)
  clear hlow hk hi htab hcell
  go_enter Tryd.func60, Tryd.ntmps60
  go_wp2_with fail
  with_reducible refine C.out.mono ?_
  rintro e w' ⟨rfl, rfl⟩
  go_wp2
  go_ret
  exact ⟨rfl, rfl⟩

def Lst (m : Nat) (w : World) (e : Ending) (w' : World) : Prop := ∃ a cap, e = .returned (.slice a (lst m).length cap) ∧ Own w' w.heap.size 3 (.slice a (lst m).length cap) (lst m) ∧ Below w.heap.size w w'
set_option maxRecDepth 100000 in
theorem impl_list (m : Nat) (w : World) (hm : m < 32) (hT : Tab w) :
    Calls Tryd.prog 45 #[.int .u64 m] w (Lst m w) := by
  obtain ⟨i0, hi0, hz0, hz1, hz2⟩ := info_parts IntLaw.info
  have HT := hid hT
  clear hT
  go_enter Tryd.func45, Tryd.ntmps45
  go_wp2
  go_loopw [3, 4] (fun v i wr => ∃ (ys : List Int) (r : Nat), i = .int .u64 r ∧ r < 32 ∧ Hid (ys ++ lst r = lst m) ∧ Own wr w.heap.size 3 v ys ∧ Below w.heap.size w wr) (fun _ i _ => (intOf i).toNat)
  case atStart => exact ⟨[], m, rfl, hm, hid rfl, Own.nil _ _ _, Below.refl _ _⟩
  case round =>
    obtain ⟨ys, r, rfl, hr, hl, hown, hb⟩ := hrel
    by_cases h0 : r = 0
    · subst h0
      have HL := hid (show ys = lst m by have := hl.out; rw [lst_zero, List.append_nil] at this; exact this)
      obtain ⟨av, capv, rfl, _, _, _⟩ := hown.form
      have HO := hid (show Own wr w.heap.size 3 (.slice av (lst m).length capv) (lst m) by have := HL.out; subst this; exact hown)
      have HE := hid (show ys.length = (lst m).length by rw [HL.out])
      clear hown hl HL
      go_wp2
      go_ret
      exact ⟨av, capv, by rw [← HE.out]; rfl, HO.out, hb⟩
    · have t0 : ((r : Int) != 0) = true := by simp; omega
      obtain ⟨hs, hc5, hlt⟩ := lst_step hr h0
      have hln : ys.length ≤ 5 := by have := congrArg List.length hl.out; have := lst_len m; simp at *; omega
      obtain ⟨r1, hr1⟩ : ∃ z, r - 1 = z := ⟨_, rfl⟩
      obtain ⟨p, hp⟩ : ∃ z, r &&& r1 = z := ⟨_, rfl⟩
      obtain ⟨c, hcc⟩ : ∃ z, Lib.ctz 64 r = z := ⟨_, rfl⟩
      have e1 : IntKind.u64.wrap ((r : Int) - 1) = (r1 : Int) := by rw [← hr1]; exact u_pred hr h0
      have e2 : bits .and .u64 (r : Int) (r1 : Int) = (p : Int) := by rw [← hp]; exact u_and hr (by omega)
      have HP := hid (show p < r by rw [← hp, ← hr1]; exact hlt)
      have HL2 := hid (show (ys ++ [(c : Int)]) ++ lst p = lst m by rw [← hl.out, hs, hr1, hp, hcc]; simp)
      have C := hid (tz r (by omega) h0 wr (HT.out.below hb))
      rw [hcc] at C
      have hc5' : c < 5 := by omega
      clear hs hc5 hlt hr1 hp hcc hl h0
      go_wp2_with fail
      with_reducible refine C.out.mono ?_
      rintro e w1 ⟨rfl, rfl⟩
      have hsz := hb.size
      go_wp2_with (at_builtin; refine append_int rfl _ _ 23 rfl w.heap.size 3 i0 Tryd.underlying23 hi0 hz0 hz1 hz2 w1 w1 _ ys (c : Int) hown (by rfl) (Below.refl _ _) hsz _ rfl (by rfl) (by omega) ?_)
      intro v1 w2 hown1 hbel1 hsz2 hgr
      have HB2 := hb.trans hbel1
      clear hbel1 hgr hown hb
      go_wp2
      go_roundw
      case rel => exact ⟨ys ++ [(c : Int)], p, rfl, by have := HP.out; omega, HL2, hown1, HB2⟩
      case measure => have := HP.out; simp [intOf]; omega

theorem impl_single (k : Nat) (w : World) (h : k < 5) :
    Calls Tryd.prog 59 #[.int .i64 (k : Int)] w fun e w' => e = .returned (.int .u64 ((2 ^ k : Nat) : Int)) ∧ w = w' := by
  rcases (by omega : k = 0 ∨ k = 1 ∨ k = 2 ∨ k = 3 ∨ k = 4) with rfl | rfl | rfl | rfl | rfl <;>
  · go_enter Tryd.func59, Tryd.ntmps59
    go_wp2
    go_ret
    exact ⟨rfl, rfl⟩

/-- Which numbers occur in xs. -/
def mem (xs : List Int) (v : Nat) : Bool := decide ((v : Int) ∈ xs)
theorem mem_yes {xs : List Int} {k z m : Nat} (h : k < xs.length) (e : xs[k] = (z : Int)) (hz : z < 5) (hm : Is m (mem (xs.take k))) : Is (m ||| 2 ^ z) (mem (xs.take (k + 1))) := by
  refine is_congr (is_or hm (is_one hz)) (fun v hv => ?_)
  unfold mem
  rw [List.take_succ_eq_append_getElem h, e]
  by_cases h1 : (v : Int) ∈ xs.take k
  · simp [h1]
  · by_cases h2 : z = v
    · simp [h1, h2]
    · have : ¬ (v : Int) = (z : Int) := by omega
      simp [h1, h2, this]
theorem mem_no {xs : List Int} {k m : Nat} (h : k < xs.length) (e : isv xs[k] 5 = false) (hm : Is m (mem (xs.take k))) : Is m (mem (xs.take (k + 1))) := by
  refine is_congr hm (fun v hv => ?_)
  unfold mem
  rw [List.take_succ_eq_append_getElem h]
  have : ¬ (v : Int) = xs[k] := by
    intro h1
    rw [← h1] at e
    rw [isv_yes (by omega) (by omega)] at e
    cases e
  exact decide_eq_decide.2 (by rw [List.mem_append, List.mem_singleton]; exact (or_iff_left this).symm)

set_option maxRecDepth 100000 in
theorem impl_of (a : Option Addr) (cap B : Nat) (xs : List Int) (w : World) (hn : xs.length ≤ 1048576) (h : Rd w B a xs) :
    Calls Tryd.prog 44 #[.slice a xs.length cap] w fun e w' => ∃ m : Nat, e = .returned (.int .u64 m) ∧ Is m (mem xs) ∧ w = w' := by
  have HR := hid h
  clear h
  go_enter Tryd.func44, Tryd.ntmps44
  go_wp2
  go_loop [3, 5, 8] (fun s _ i => ∃ k m : Nat, k ≤ xs.length ∧ i = .int .i64 k ∧ s = .int .u64 m ∧ m < 32 ∧ Hid (Is m (mem (xs.take k)))) (fun _ _ i => xs.length - (intOf i).toNat)
  case atStart => exact ⟨0, 0, Nat.zero_le _, rfl, rfl, by decide, hid (is_congr is_zero (fun v _ => by simp [mem]))⟩
  case round =>
    obtain ⟨k, m, hk, rfl, rfl, hm, his⟩ := hrel
    by_cases hlt : k < xs.length
    · have hlt' : (k : Int) < (xs.length : Int) := by omega
      have h0' : (0 : Int) ≤ (k : Int) := by omega
      obtain ⟨b, off, rfl, hbB, hc⟩ := HR.out (by omega)
      have g := hc k hlt
      clear hc
      cases hv : isv xs[k] 5 with
      | false =>
        have HI := hid (mem_no hlt hv his.out)
        have C := hid (isv_any xs[k] 5 w)
        rw [hv] at C
        clear hv his
        go_wp2_with fail
        with_reducible refine C.out.mono ?_
        rintro e w1 ⟨rfl, rfl⟩
        go_wp2
        go_round
        case rel => exact ⟨k + 1, m, by omega, by go_num, rfl, hm, HI⟩
        case measure => simp [intOf]; omega
      | true =>
        have hv2 := isv_iff.1 hv
        obtain ⟨z, hz⟩ : ∃ z : Nat, xs[k] = (z : Int) := ⟨xs[k].toNat, by omega⟩
        have hz5 : z < 5 := by omega
        obtain ⟨q, hq⟩ : ∃ u, 2 ^ z = u := ⟨_, rfl⟩
        have HI := hid (mem_yes hlt hz hz5 his.out)
        have hq5 : q < 32 := by rw [← hq]; exact (is_one hz5).1
        obtain ⟨p, hp⟩ : ∃ u, m ||| q = u := ⟨_, rfl⟩
        have e2 : bits .or .u64 (m : Int) (q : Int) = (p : Int) := by rw [← hp]; exact u_or hm hq5
        rw [hq, hp] at HI
        have C := hid (isv_any xs[k] 5 w)
        rw [hv] at C
        have D := hid (impl_single z w hz5)
        rw [hq] at D
        rw [hz] at C g
        clear hv hv2 hq hp his hz
        go_wp2_with fail
        with_reducible refine C.out.mono ?_
        rintro e w1 ⟨rfl, rfl⟩
        go_wp2_with fail
        with_reducible refine D.out.mono ?_
        rintro e w2 ⟨rfl, rfl⟩
        go_wp2
        go_round
        case rel => exact ⟨k + 1, p, by omega, by go_num, rfl, HI.out.1, HI⟩
        case measure => simp [intOf]; omega
    · have e : k = xs.length := by omega
      subst e
      have HI := hid (show Is m (mem xs) by have := his.out; rw [List.take_length] at this; exact this)
      clear his
      go_wp2
      go_ret
      exact ⟨m, rfl, HI.out, rfl⟩
end Go.Proofs.YthghggnlfnbbgabDoor.SetI
