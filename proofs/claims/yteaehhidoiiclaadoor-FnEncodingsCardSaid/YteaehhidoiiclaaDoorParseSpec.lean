/- The model of ParseInt (spec.ParseInt): what it answers at every string, in plain words. -/
import Derived.Test.YteaehhidoiiclaaDoorParse
import Derived.WalkKit
import Derived.ProofKit
import Derived.OpenShut
namespace Go.Proofs.YteaehhidoiiclaaDoor.ParseSpec
open Go.ChangeShapes Go.WideShapes Go.ChangeAt Go.RowKit
open Go.Proofs.YteaehhidoiiclaaDoor.Num Go.Proofs.YteaehhidoiiclaaDoor.Row Go.Proofs.YteaehhidoiiclaaDoor.Parse
set_option linter.unusedVariables false

theorem hcase (s : ByteArray) : s.size = 0 ∨ (∃ h : 0 < s.size, (((s[0].toNat : Nat) : Int) == 45) = true) ∨ (∃ h : 0 < s.size, (((s[0].toNat : Nat) : Int) == 45) = false) := by
  by_cases h : 0 < s.size
  · cases hb : (((s[0].toNat : Nat) : Int) == 45)
    · exact Or.inr (Or.inr ⟨h, hb⟩)
    · exact Or.inr (Or.inl ⟨h, hb⟩)
  · exact Or.inl (by omega)

set_option maxHeartbeats 1600000 in
set_option maxRecDepth 100000 in
theorem spec_any (s : ByteArray) (w : World) (hs : s.size ≤ 1048576) :
    Calls Tryd.prog 19 #[.string s] w fun e w' => e = parseEnd (sres s) ∧ Below w.heap.size w w' := by
  go_enter Tryd.func19, Tryd.ntmps19
  go_wp2
  go_loop [4, 5, 6] (fun x k i => ∃ j : Nat, j ≤ 11 ∧ j ≤ s.size ∧ i = .int .i64 j ∧ x = .int .i64 (rdx s j : Nat) ∧ k = .int .i64 (rdk s j : Nat)) (fun _ _ i => 12 - (intOf i).toNat)
  case atStart => exact ⟨0, Nat.zero_le _, Nat.zero_le _, rfl, by rw [(rd_zero s).1]; rfl, by rw [(rd_zero s).2]; rfl⟩
  case round =>
    obtain ⟨j, hj, hjs, rfl, rfl, rfl⟩ := hrel
    have hb := rd_bound s j hj
    obtain ⟨hb1, hb2⟩ := hb
    by_cases hlt : j < s.size ∧ j < 11
    · obtain ⟨hl1, hl2⟩ := hlt
      go_wp2
      · have h1 : 48 ≤ ((s[j].toNat : Nat) : Int) := by assumption
        have h2 : ((s[j].toNat : Nat) : Int) ≤ 57 := by assumption
        have hd := rd_digit s j hl1 h1 h2
        go_round
        case rel => exact ⟨j + 1, by omega, by omega, by go_num, by rw [hd.1], by rw [hd.2]⟩
        case measure => simp [intOf]; omega
      · have h2 : 57 < ((s[j].toNat : Nat) : Int) := by assumption
        have hd := hid (rd_other s j hl1 (Or.inr h2))
        go_round
        case rel => exact ⟨j + 1, by omega, by omega, by go_num, by rw [hd.out.1], by rw [hd.out.2]⟩
        case measure => simp [intOf]; omega
      · have h2 : ¬ 48 ≤ ((s[j].toNat : Nat) : Int) := by assumption
        have hd := hid (rd_other s j hl1 (Or.inl (by omega)))
        go_round
        case rel => exact ⟨j + 1, by omega, by omega, by go_num, by rw [hd.out.1], by rw [hd.out.2]⟩
        case measure => simp [intOf]; omega
    · have hend := hid (rd_end s j hj (by omega))
      have hge : ¬ j < s.size ∨ (j < s.size ∧ ¬ j < 11) := by omega
      clear hlt
      generalize rdx s j = x at hend hb1 ⊢
      generalize rdk s j = k at hend hb2 ⊢
      rcases hge with hge | ⟨hge, hge2⟩
      · rcases (hcase s : s.size = 0 ∨ (∃ h : 0 < s.size, (((s[0].toNat : Nat) : Int) == 45) = true) ∨ (∃ h : 0 < s.size, (((s[0].toNat : Nat) : Int) == 45) = false)) with hz | ⟨h0, hc⟩ | ⟨h0, hc⟩
        · have hR := hid (show Rd s x k (x : Int) from ⟨hend.out, sign_none s x (by omega)⟩)
          rcases (by omega : 9 < k ∨ (k ≤ 9 ∧ 10 < s.size) ∨ (k ≤ 9 ∧ s.size ≤ 10)) with hk | ⟨hk, hq⟩ | ⟨hk, hq⟩
          · go_wp2
            go_ret2
            exact ⟨by rw [hR.out.many (by omega)]; rfl, Below.refl _ _⟩
          · omega
          · by_cases he : Lib.itoa (x : Int) = s.data.toList
            · have hsr := hid (hR.out.yes hk hq he)
              have hb := str_true he
              clear he
              go_wp2_with (go_at_call 18; refine (Format.spec_any _ _ (by omega) (by omega)).mono ?_; rintro e w1 ⟨rfl, hb1⟩)
              go_ret2
              exact ⟨by rw [hsr.out]; rfl, hb1⟩
            · have hsr := hid (hR.out.other he)
              have hb := str_false he
              clear he
              go_wp2_with (go_at_call 18; refine (Format.spec_any _ _ (by omega) (by omega)).mono ?_; rintro e w1 ⟨rfl, hb1⟩)
              go_ret2
              exact ⟨by rw [hsr.out]; rfl, hb1⟩
        · have hR := hid (show Rd s x k (-(x : Int)) from ⟨hend.out, sign_minus s x h0 hc⟩)
          rcases (by omega : 9 < k ∨ (k ≤ 9 ∧ 10 < s.size) ∨ (k ≤ 9 ∧ s.size ≤ 10)) with hk | ⟨hk, hq⟩ | ⟨hk, hq⟩
          · go_wp2
            go_ret2
            exact ⟨by rw [hR.out.many (by omega)]; rfl, Below.refl _ _⟩
          · go_wp2
            go_ret2
            exact ⟨by rw [hR.out.many (by omega)]; rfl, Below.refl _ _⟩
          · by_cases he : Lib.itoa (-(x : Int)) = s.data.toList
            · have hsr := hid (hR.out.yes hk hq he)
              have hb := str_true he
              clear he
              go_wp2_with (go_at_call 18; refine (Format.spec_any _ _ (by omega) (by omega)).mono ?_; rintro e w1 ⟨rfl, hb1⟩)
              go_ret2
              exact ⟨by rw [hsr.out]; rfl, hb1⟩
            · have hsr := hid (hR.out.other he)
              have hb := str_false he
              clear he
              go_wp2_with (go_at_call 18; refine (Format.spec_any _ _ (by omega) (by omega)).mono ?_; rintro e w1 ⟨rfl, hb1⟩)
              go_ret2
              exact ⟨by rw [hsr.out]; rfl, hb1⟩
        · have hR := hid (show Rd s x k (x : Int) from ⟨hend.out, sign_plus s x h0 hc⟩)
          rcases (by omega : 9 < k ∨ (k ≤ 9 ∧ 10 < s.size) ∨ (k ≤ 9 ∧ s.size ≤ 10)) with hk | ⟨hk, hq⟩ | ⟨hk, hq⟩
          · go_wp2
            go_ret2
            exact ⟨by rw [hR.out.many (by omega)]; rfl, Below.refl _ _⟩
          · go_wp2
            go_ret2
            exact ⟨by rw [hR.out.many (by omega)]; rfl, Below.refl _ _⟩
          · by_cases he : Lib.itoa (x : Int) = s.data.toList
            · have hsr := hid (hR.out.yes hk hq he)
              have hb := str_true he
              clear he
              go_wp2_with (go_at_call 18; refine (Format.spec_any _ _ (by omega) (by omega)).mono ?_; rintro e w1 ⟨rfl, hb1⟩)
              go_ret2
              exact ⟨by rw [hsr.out]; rfl, hb1⟩
            · have hsr := hid (hR.out.other he)
              have hb := str_false he
              clear he
              go_wp2_with (go_at_call 18; refine (Format.spec_any _ _ (by omega) (by omega)).mono ?_; rintro e w1 ⟨rfl, hb1⟩)
              go_ret2
              exact ⟨by rw [hsr.out]; rfl, hb1⟩
      · have h0 : 0 < s.size := by omega
        rcases (hcase s : s.size = 0 ∨ (∃ h : 0 < s.size, (((s[0].toNat : Nat) : Int) == 45) = true) ∨ (∃ h : 0 < s.size, (((s[0].toNat : Nat) : Int) == 45) = false)) with hz | ⟨_, hc⟩ | ⟨_, hc⟩
        · omega
        · have hR := hid (show Rd s x k (-(x : Int)) from ⟨hend.out, sign_minus s x h0 hc⟩)
          rcases (by omega : 9 < k ∨ (k ≤ 9 ∧ 10 < s.size)) with hk | ⟨hk, hq⟩
          · go_wp2
            go_ret2
            exact ⟨by rw [hR.out.many (by omega)]; rfl, Below.refl _ _⟩
          · go_wp2
            go_ret2
            exact ⟨by rw [hR.out.many (by omega)]; rfl, Below.refl _ _⟩
        · have hR := hid (show Rd s x k (x : Int) from ⟨hend.out, sign_plus s x h0 hc⟩)
          rcases (by omega : 9 < k ∨ (k ≤ 9 ∧ 10 < s.size)) with hk | ⟨hk, hq⟩
          · go_wp2
            go_ret2
            exact ⟨by rw [hR.out.many (by omega)]; rfl, Below.refl _ _⟩
          · go_wp2
            go_ret2
            exact ⟨by rw [hR.out.many (by omega)]; rfl, Below.refl _ _⟩

end Go.Proofs.YteaehhidoiiclaaDoor.ParseSpec
