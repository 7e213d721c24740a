/- The program clears one column of a matrix. -/
import Derived.Test.YtjnphlgmmjdeiaaSolX
import Derived.StillTailTactics
namespace Go.Proofs.Ytjnphlgmmjdeiaa.SolC
open Go.RowKit
open Go.Proofs.Ytjnphlgmmjdeiaa.Num Go.Proofs.Ytjnphlgmmjdeiaa.IntRow Go.Proofs.Ytjnphlgmmjdeiaa.GridMore Go.Proofs.Ytjnphlgmmjdeiaa.Rdr Go.Proofs.Ytjnphlgmmjdeiaa.HasL Go.Proofs.Ytjnphlgmmjdeiaa.Rats Go.Proofs.Ytjnphlgmmjdeiaa.RatRow Go.Proofs.Ytjnphlgmmjdeiaa.RatOwn Go.Proofs.Ytjnphlgmmjdeiaa.GridQ Go.Proofs.Ytjnphlgmmjdeiaa.GridQ2 Go.Proofs.Ytjnphlgmmjdeiaa.RatsSS Go.Proofs.Ytjnphlgmmjdeiaa.Smq Go.Proofs.Ytjnphlgmmjdeiaa.Qops Go.Proofs.Ytjnphlgmmjdeiaa.LinP Go.Proofs.Ytjnphlgmmjdeiaa.SolP Go.Proofs.Ytjnphlgmmjdeiaa.SolI Go.Proofs.Ytjnphlgmmjdeiaa.Keep Go.Proofs.Ytjnphlgmmjdeiaa.Kept Go.Proofs.Ytjnphlgmmjdeiaa.Cells
set_option linter.unusedVariables false

theorem clr_none {m : MatD} {p n k c : Nat} (h : clr m p n k = none) (hk : k ≤ c) : clr m p n c = none := by
  induction c with
  | zero => have e : k = 0 := by omega
            subst e; exact h
  | succ c ih =>
    by_cases e : k = c + 1
    · subst e; exact h
    · rw [clr, ih (by omega)]; rfl
theorem getD_at {m : MatD} {i : Nat} (hi : i < m.length) : m.getD i [] = m[i] := by rw [List.getD_eq_getElem?_getD, List.getElem?_eq_getElem hi]; rfl
theorem getR_at {r : List RatD} {i : Nat} (hi : i < r.length) : r.getD i (0, 0) = r[i] := by rw [List.getD_eq_getElem?_getD, List.getElem?_eq_getElem hi]; rfl
theorem clr_skip {m m' : MatD} {p n k : Nat} (h : clr m p n k = some m') (hz : k = p ∨ ((m'.getD k []).getD p (0, 0)).1 = 0) : clr m p n (k + 1) = some m' := by rw [clr, h, Option.bind_some, if_pos hz]
theorem clr_go {m m' : MatD} {p n k : Nat} (h : clr m p n k = some m') (hz : ¬ (k = p ∨ ((m'.getD k []).getD p (0, 0)).1 = 0)) : clr m p n (k + 1) = (rowOp (m'.getD k []) (m'.getD p []) p n).map fun r => m'.set k r := by rw [clr, h, Option.bind_some, if_neg hz]

/-- A write into a block of the call's own changes nothing below. -/
theorem below_row {lo b : Nat} {w w' : World} (h : w.grownBy w' (some b)) (hlo : lo ≤ w.heap.size) (hb : lo ≤ b) : Below lo w w' := ⟨h.os, h.tape, h.output, h.size, fun k hk => h.block k (by omega) (fun e => by have := Option.some.inj e; omega)⟩
set_option maxRecDepth 100000 in
set_option maxHeartbeats 2000000 in
theorem impl_clr (g cap p N : Nat) (vs : List Value) (m : MatD) (w : World) (lo : Nat) (hN : N ≤ 90) (hp : p < N) (hl : m.length = N) (hrow : Hid (∀ j (hj : j < m.length), m[j].length = N + 1)) (ho : GOwnQ w lo tQ tR (.slice (some ⟨g, 0, none⟩) N cap) vs m) (hlo : lo ≤ w.heap.size) :
    Calls Try.prog 61 #[.slice (some ⟨g, 0, none⟩) N cap, .int .i64 p] w fun e w' => e = .returned (.bool (clr m p (N + 1 - p) N).isSome) ∧ (∀ m', clr m p (N + 1 - p) N = some m' → m'.length = N ∧ (∀ j (hj : j < m'.length), m'[j].length = N + 1) ∧ GOwnQ w' lo tQ tR (.slice (some ⟨g, 0, none⟩) N cap) vs m') ∧ Below lo w w' := by
  have HO := hid ho
  have HL := hid hl
  clear ho hl
  go_enter Try.func61, Try.ntmps61
  go_wp2_with fail
  go_loopw [5, 6, 9] (fun _ _ i wr => ∃ (k : Nat) (m' : MatD), k ≤ N ∧ i = .int .i64 k ∧ Hid (clr m p (N + 1 - p) k = some m') ∧ Hid (m'.length = N) ∧ Hid (∀ j (hj : j < m'.length), m'[j].length = N + 1) ∧ Hid (GOwnQ wr lo tQ tR (.slice (some ⟨g, 0, none⟩) N cap) vs m') ∧ Hid (Below lo w wr)) (fun _ _ i _ => N - (intOf i).toNat)
  case atStart => exact ⟨0, m, Nat.zero_le _, rfl, hid rfl, HL, hrow, HO, hid (Below.refl _ _)⟩
  case round =>
    obtain ⟨k, m', hk, rfl, hc, hml, hmr, hg, hb⟩ := hrel
    clear HO
    have hbs := hb.out.size
    by_cases hlt : k < N
    · have hkl : k < m'.length := by have := hml.out; omega
      have hpl : p < m'.length := by have := hml.out; omega
      have hkp : p < m'[k].length := by rw [hmr.out k hkl]; omega
      obtain ⟨bk, capk, hvk, hlb, hlc⟩ := row_block hg.out k hkl (by omega)
      have hck := (hg.out.cellAt k hkl).trans hvk
      rw [Nat.zero_add, hmr.out k hkl] at hck
      rw [hmr.out k hkl] at hvk hlc
      have OK := hid (row_own hg.out k hkl hvk)
      obtain ⟨c0, c1, f0, f1⟩ := row_cells OK.out p hkp
      have hlt' : (k : Int) < (N : Int) := by omega
      have h0' : (0 : Int) ≤ (k : Int) := by omega
      have hp0 : (0 : Int) ≤ (p : Int) := by omega
      have hpN : (p : Int) < (N : Int) := by omega
      have hpN1 : (p : Int) < (N : Int) + 1 := by omega
      have hget : ((m'.getD k []).getD p (0, 0)) = m'[k][p] := by rw [getD_at hkl, getR_at hkp]
      by_cases hkpe : k = p
      · have hq : ((k : Int) != (p : Int)) = false := by simp [hkpe]
        have HN := hid (clr_skip hc.out (.inl hkpe))
        clear hget f0 f1 c1 hkpe
        have hk0 := kp_refl wr
        go_upto_region 4 with fail
        go_cut [37] (fun s wx => s = .bool false ∧ Kp wr 0 wx)
        case first =>
          refine wp_region_held_drew (S := (fun w' => Kp wr 0 w')) (by kernel_rfl) hk0.drew (fun hHeld => ?_)
          refine wpAnyH_take (i := 0) (oi := { dst := some 14, op := .move (.tmp 5), type := _, pos := _, after := _, guard := none }) (v := ?_) rfl (by kernel_rfl) (by kernel_rfl) (by kernel_rfl) (fun _ _ _ h => h) ?_ hHeld ?_
          rotate_left
          · (refine Or.inl ⟨by rfl, fun w hSw => ?_⟩; (try dsimp only at hSw); go_simp; (try with_reducible rfl))
          (try simp only [Act.put, List.setIfInBounds_toArray, List.set_cons_zero, List.set_cons_succ])
          refine wpAnyH_take (i := 1) (oi := { dst := some 15, op := .move (.tmp 1), type := _, pos := _, after := _, guard := none }) (v := ?_) rfl (by kernel_rfl) (by kernel_rfl) (by kernel_rfl) (fun _ _ _ h => h) ?_ hHeld ?_
          rotate_left
          · (refine Or.inl ⟨by rfl, fun w hSw => ?_⟩; (try dsimp only at hSw); go_simp; (try with_reducible rfl))
          (try simp only [Act.put, List.setIfInBounds_toArray, List.set_cons_zero, List.set_cons_succ])
          refine wpAnyH_take (i := 2) (oi := { dst := some 16, op := .binOp .neq 3 (.tmp 14) (.tmp 15) 3, type := _, pos := _, after := _, guard := none }) (v := .bool false) rfl (by kernel_rfl) (by kernel_rfl) (by kernel_rfl) (fun _ _ _ h => h) ?_ hHeld ?_
          · (refine Or.inl ⟨by rfl, fun w hSw => ?_⟩; (try dsimp only at hSw); go_simp; (try rfl))
          (try simp only [Act.put, List.setIfInBounds_toArray, List.set_cons_zero, List.set_cons_succ])
          refine wpAnyH_take (i := 3) (oi := { dst := some 17, op := .move (.tmp 16), type := _, pos := _, after := _, guard := none }) (v := ?_) rfl (by kernel_rfl) (by kernel_rfl) (by kernel_rfl) (fun _ _ _ h => h) ?_ hHeld ?_
          rotate_left
          · (refine Or.inl ⟨by rfl, fun w hSw => ?_⟩; (try dsimp only at hSw); go_simp; (try with_reducible rfl))
          (try simp only [Act.put, List.setIfInBounds_toArray, List.set_cons_zero, List.set_cons_succ])
          refine wpAnyH_take (i := 4) (oi := { dst := some 18, op := .move (.tmp 6), type := _, pos := _, after := _, guard := some (3, true) }) (v := undef) rfl (by kernel_rfl) (by kernel_rfl) (by kernel_rfl) (fun _ _ _ h => h) (Or.inr ?_) hHeld ?_
          · exact ⟨by rfl, rfl⟩
          (try simp only [Act.put, List.setIfInBounds_toArray, List.set_cons_zero, List.set_cons_succ])
          refine wpAnyH_take (i := 5) (oi := { dst := some 19, op := .move (.tmp 1), type := _, pos := _, after := _, guard := some (3, true) }) (v := undef) rfl (by kernel_rfl) (by kernel_rfl) (by kernel_rfl) (fun _ _ _ h => h) (Or.inr ?_) hHeld ?_
          · exact ⟨by rfl, rfl⟩
          (try simp only [Act.put, List.setIfInBounds_toArray, List.set_cons_zero, List.set_cons_succ])
          refine wpAnyH_take (i := 6) (oi := { dst := some 20, op := .indexAddr 25 (.tmp 18) (.tmp 19), type := _, pos := _, after := _, guard := some (3, true) }) (v := undef) rfl (by kernel_rfl) (by kernel_rfl) (by kernel_rfl) (fun _ _ _ h => h) (Or.inr ?_) hHeld ?_
          · exact ⟨by rfl, rfl⟩
          (try simp only [Act.put, List.setIfInBounds_toArray, List.set_cons_zero, List.set_cons_succ])
          refine wpAnyH_take (i := 7) (oi := { dst := some 21, op := .fieldAddr 35 (.tmp 20) 0, type := _, pos := _, after := _, guard := some (3, true) }) (v := undef) rfl (by kernel_rfl) (by kernel_rfl) (by kernel_rfl) (fun _ _ _ h => h) (Or.inr ?_) hHeld ?_
          · exact ⟨by rfl, rfl⟩
          (try simp only [Act.put, List.setIfInBounds_toArray, List.set_cons_zero, List.set_cons_succ])
          refine wpAnyH_take (i := 8) (oi := { dst := some 22, op := .load 3 (.tmp 21), type := _, pos := _, after := _, guard := some (3, true) }) (v := undef) rfl (by kernel_rfl) (by kernel_rfl) (by kernel_rfl) (fun _ _ _ h => h) (Or.inr ?_) hHeld ?_
          · exact ⟨by rfl, rfl⟩
          (try simp only [Act.put, List.setIfInBounds_toArray, List.set_cons_zero, List.set_cons_succ])
          refine wpAnyH_take (i := 9) (oi := { dst := some 23, op := .binOp .neq 3 (.tmp 22) (.const (.int .i64 0)) 3, type := _, pos := _, after := _, guard := some (3, true) }) (v := undef) rfl (by kernel_rfl) (by kernel_rfl) (by kernel_rfl) (fun _ _ _ h => h) (Or.inr ?_) hHeld ?_
          · exact ⟨by rfl, rfl⟩
          (try simp only [Act.put, List.setIfInBounds_toArray, List.set_cons_zero, List.set_cons_succ])
          refine wpAnyH_take (i := 10) (oi := { dst := some 24, op := .pick (.tmp 17) (.tmp 23) (.const (.bool false)), type := _, pos := _, after := _, guard := none }) (v := ?_) rfl (by kernel_rfl) (by kernel_rfl) (by kernel_rfl) (fun _ _ _ h => h) ?_ hHeld ?_
          rotate_left
          · (refine Or.inl ⟨by rfl, fun w hSw => ?_⟩; (try dsimp only at hSw); go_simp; (try with_reducible rfl))
          (try simp only [Act.put, List.setIfInBounds_toArray, List.set_cons_zero, List.set_cons_succ])
          refine wpAnyH_take (i := 11) (oi := { dst := some 25, op := .move (.tmp 24), type := _, pos := _, after := _, guard := none }) (v := ?_) rfl (by kernel_rfl) (by kernel_rfl) (by kernel_rfl) (fun _ _ _ h => h) ?_ hHeld ?_
          rotate_left
          · (refine Or.inl ⟨by rfl, fun w hSw => ?_⟩; (try dsimp only at hSw); go_simp; (try with_reducible rfl))
          (try simp only [Act.put, List.setIfInBounds_toArray, List.set_cons_zero, List.set_cons_succ])
          refine wpAnyH_take (i := 12) (oi := { dst := some 26, op := .move (.tmp 6), type := _, pos := _, after := _, guard := some (11, true) }) (v := undef) rfl (by kernel_rfl) (by kernel_rfl) (by kernel_rfl) (fun _ _ _ h => h) (Or.inr ?_) hHeld ?_
          · exact ⟨by rfl, rfl⟩
          (try simp only [Act.put, List.setIfInBounds_toArray, List.set_cons_zero, List.set_cons_succ])
          refine wpAnyH_take (i := 13) (oi := { dst := some 27, op := .move (.tmp 1), type := _, pos := _, after := _, guard := some (11, true) }) (v := undef) rfl (by kernel_rfl) (by kernel_rfl) (by kernel_rfl) (fun _ _ _ h => h) (Or.inr ?_) hHeld ?_
          · exact ⟨by rfl, rfl⟩
          (try simp only [Act.put, List.setIfInBounds_toArray, List.set_cons_zero, List.set_cons_succ])
          refine wpAnyH_take (i := 14) (oi := { dst := some 28, op := .slice 25 (.tmp 26) (some (.tmp 27)) none none, type := _, pos := _, after := _, guard := some (11, true) }) (v := undef) rfl (by kernel_rfl) (by kernel_rfl) (by kernel_rfl) (fun _ _ _ h => h) (Or.inr ?_) hHeld ?_
          · exact ⟨by rfl, rfl⟩
          (try simp only [Act.put, List.setIfInBounds_toArray, List.set_cons_zero, List.set_cons_succ])
          refine wpAnyH_take (i := 15) (oi := { dst := some 29, op := .move (.tmp 0), type := _, pos := _, after := _, guard := some (11, true) }) (v := undef) rfl (by kernel_rfl) (by kernel_rfl) (by kernel_rfl) (fun _ _ _ h => h) (Or.inr ?_) hHeld ?_
          · exact ⟨by rfl, rfl⟩
          (try simp only [Act.put, List.setIfInBounds_toArray, List.set_cons_zero, List.set_cons_succ])
          refine wpAnyH_take (i := 16) (oi := { dst := some 30, op := .move (.tmp 1), type := _, pos := _, after := _, guard := some (11, true) }) (v := undef) rfl (by kernel_rfl) (by kernel_rfl) (by kernel_rfl) (fun _ _ _ h => h) (Or.inr ?_) hHeld ?_
          · exact ⟨by rfl, rfl⟩
          (try simp only [Act.put, List.setIfInBounds_toArray, List.set_cons_zero, List.set_cons_succ])
          refine wpAnyH_take (i := 17) (oi := { dst := some 31, op := .indexAddr 24 (.tmp 29) (.tmp 30), type := _, pos := _, after := _, guard := some (11, true) }) (v := undef) rfl (by kernel_rfl) (by kernel_rfl) (by kernel_rfl) (fun _ _ _ h => h) (Or.inr ?_) hHeld ?_
          · exact ⟨by rfl, rfl⟩
          (try simp only [Act.put, List.setIfInBounds_toArray, List.set_cons_zero, List.set_cons_succ])
          refine wpAnyH_take (i := 18) (oi := { dst := some 32, op := .load 25 (.tmp 31), type := _, pos := _, after := _, guard := some (11, true) }) (v := undef) rfl (by kernel_rfl) (by kernel_rfl) (by kernel_rfl) (fun _ _ _ h => h) (Or.inr ?_) hHeld ?_
          · exact ⟨by rfl, rfl⟩
          (try simp only [Act.put, List.setIfInBounds_toArray, List.set_cons_zero, List.set_cons_succ])
          refine wpAnyH_take (i := 19) (oi := { dst := some 33, op := .move (.tmp 1), type := _, pos := _, after := _, guard := some (11, true) }) (v := undef) rfl (by kernel_rfl) (by kernel_rfl) (by kernel_rfl) (fun _ _ _ h => h) (Or.inr ?_) hHeld ?_
          · exact ⟨by rfl, rfl⟩
          (try simp only [Act.put, List.setIfInBounds_toArray, List.set_cons_zero, List.set_cons_succ])
          refine wpAnyH_take (i := 20) (oi := { dst := some 34, op := .slice 25 (.tmp 32) (some (.tmp 33)) none none, type := _, pos := _, after := _, guard := some (11, true) }) (v := undef) rfl (by kernel_rfl) (by kernel_rfl) (by kernel_rfl) (fun _ _ _ h => h) (Or.inr ?_) hHeld ?_
          · exact ⟨by rfl, rfl⟩
          (try simp only [Act.put, List.setIfInBounds_toArray, List.set_cons_zero, List.set_cons_succ])
          refine wpAnyH_take (i := 21) (oi := { dst := some 35, op := .call { callee := .value (.func 94), args := #[(.tmp 28), (.tmp 34)], argTypes := #[25, 25] }, type := _, pos := _, after := _, guard := some (11, true) }) (v := undef) rfl (by kernel_rfl) (by kernel_rfl) (by kernel_rfl) (fun _ _ _ h => h) (Or.inr ?_) hHeld ?_
          · exact ⟨by rfl, rfl⟩
          (try simp only [Act.put, List.setIfInBounds_toArray, List.set_cons_zero, List.set_cons_succ])
          refine wpAnyH_take (i := 22) (oi := { dst := some 36, op := .unOp .not 4 (.tmp 35), type := _, pos := _, after := _, guard := some (11, true) }) (v := undef) rfl (by kernel_rfl) (by kernel_rfl) (by kernel_rfl) (fun _ _ _ h => h) (Or.inr ?_) hHeld ?_
          · exact ⟨by rfl, rfl⟩
          (try simp only [Act.put, List.setIfInBounds_toArray, List.set_cons_zero, List.set_cons_succ])
          refine wpAnyH_take (i := 23) (oi := { dst := some 37, op := .pick (.tmp 25) (.tmp 36) (.const (.bool false)), type := _, pos := _, after := _, guard := none }) (v := ?_) rfl (by kernel_rfl) (by kernel_rfl) (by kernel_rfl) (fun _ _ _ h => h) ?_ hHeld ?_
          rotate_left
          · (refine Or.inl ⟨by rfl, fun w hSw => ?_⟩; (try dsimp only at hSw); go_simp; (try with_reducible rfl))
          (try simp only [Act.put, List.setIfInBounds_toArray, List.set_cons_zero, List.set_cons_succ])
          refine wpAnyH_done (by kernel_rfl) ?_ _
          go_wp2_with fail
          go_meet
          exact ⟨by first | rfl | trivial, hHeld⟩
        case rest =>
          obtain ⟨rfl, hkp⟩ := hcut
          obtain ⟨w9, rfl⟩ : ∃ wo : World, wo = wc := ⟨_, rfl⟩
          have G9 := hid (hg.out.below' hkp.bel)
          have B9 := hid (hb.out.trans (hkp.bel.mono (Nat.le_trans hlo hbs)))
          clear hkp hk0
          go_wp2_with fail
          go_roundw
          case rel => exact ⟨k + 1, m', by omega, by go_num, HN, hml, hmr, G9, B9⟩
          case measure => simp [intOf]; omega
      · have hq : ((k : Int) != (p : Int)) = true := by simp; omega
        by_cases hz : m'[k][p].1 = 0
        · have hq2 : (m'[k][p].1 != 0) = false := by simp [hz]
          have HN := hid (clr_skip hc.out (.inr (by rw [hget]; exact hz)))
          clear hget f0 f1 c1 hz
          have hk0 := kp_refl wr
          go_upto_region 4 with fail
          go_cut [37] (fun s wx => s = .bool false ∧ Kp wr 0 wx)
          case first =>
            refine wp_region_held_drew (S := (fun w' => w'.cell? ⟨bk, p * 2, none⟩ = some (.int .i64 m'[k][p].1) ∧ Kp wr 0 w')) (by kernel_rfl) ⟨c0, hk0.drew⟩ (fun hHeld => ?_)
            refine wpAnyH_take (i := 0) (oi := { dst := some 14, op := .move (.tmp 5), type := _, pos := _, after := _, guard := none }) (v := ?_) rfl (by kernel_rfl) (by kernel_rfl) (by kernel_rfl) (fun _ _ _ h => h) ?_ hHeld ?_
            rotate_left
            · (refine Or.inl ⟨by rfl, fun w hSw => ?_⟩; (try dsimp only at hSw); go_simp; (try with_reducible rfl))
            (try simp only [Act.put, List.setIfInBounds_toArray, List.set_cons_zero, List.set_cons_succ])
            refine wpAnyH_take (i := 1) (oi := { dst := some 15, op := .move (.tmp 1), type := _, pos := _, after := _, guard := none }) (v := ?_) rfl (by kernel_rfl) (by kernel_rfl) (by kernel_rfl) (fun _ _ _ h => h) ?_ hHeld ?_
            rotate_left
            · (refine Or.inl ⟨by rfl, fun w hSw => ?_⟩; (try dsimp only at hSw); go_simp; (try with_reducible rfl))
            (try simp only [Act.put, List.setIfInBounds_toArray, List.set_cons_zero, List.set_cons_succ])
            refine wpAnyH_take (i := 2) (oi := { dst := some 16, op := .binOp .neq 3 (.tmp 14) (.tmp 15) 3, type := _, pos := _, after := _, guard := none }) (v := .bool true) rfl (by kernel_rfl) (by kernel_rfl) (by kernel_rfl) (fun _ _ _ h => h) ?_ hHeld ?_
            · (refine Or.inl ⟨by rfl, fun w hSw => ?_⟩; (try dsimp only at hSw); go_simp; (try rfl))
            (try simp only [Act.put, List.setIfInBounds_toArray, List.set_cons_zero, List.set_cons_succ])
            refine wpAnyH_take (i := 3) (oi := { dst := some 17, op := .move (.tmp 16), type := _, pos := _, after := _, guard := none }) (v := ?_) rfl (by kernel_rfl) (by kernel_rfl) (by kernel_rfl) (fun _ _ _ h => h) ?_ hHeld ?_
            rotate_left
            · (refine Or.inl ⟨by rfl, fun w hSw => ?_⟩; (try dsimp only at hSw); go_simp; (try with_reducible rfl))
            (try simp only [Act.put, List.setIfInBounds_toArray, List.set_cons_zero, List.set_cons_succ])
            refine wpAnyH_take (i := 4) (oi := { dst := some 18, op := .move (.tmp 6), type := _, pos := _, after := _, guard := some (3, true) }) (v := ?_) rfl (by kernel_rfl) (by kernel_rfl) (by kernel_rfl) (fun _ _ _ h => h) ?_ hHeld ?_
            rotate_left
            · (refine Or.inl ⟨by rfl, fun w hSw => ?_⟩; (try dsimp only at hSw); go_simp; (try with_reducible rfl))
            (try simp only [Act.put, List.setIfInBounds_toArray, List.set_cons_zero, List.set_cons_succ])
            refine wpAnyH_take (i := 5) (oi := { dst := some 19, op := .move (.tmp 1), type := _, pos := _, after := _, guard := some (3, true) }) (v := ?_) rfl (by kernel_rfl) (by kernel_rfl) (by kernel_rfl) (fun _ _ _ h => h) ?_ hHeld ?_
            rotate_left
            · (refine Or.inl ⟨by rfl, fun w hSw => ?_⟩; (try dsimp only at hSw); go_simp; (try with_reducible rfl))
            (try simp only [Act.put, List.setIfInBounds_toArray, List.set_cons_zero, List.set_cons_succ])
            refine wpAnyH_take (i := 6) (oi := { dst := some 20, op := .indexAddr 25 (.tmp 18) (.tmp 19), type := _, pos := _, after := _, guard := some (3, true) }) (v := ?_) rfl (by kernel_rfl) (by kernel_rfl) (by kernel_rfl) (fun _ _ _ h => h) ?_ hHeld ?_
            rotate_left
            · (refine Or.inl ⟨by rfl, fun w hSw => ?_⟩; (try dsimp only at hSw); go_simp; (try with_reducible rfl))
            (try simp only [Act.put, List.setIfInBounds_toArray, List.set_cons_zero, List.set_cons_succ])
            refine wpAnyH_take (i := 7) (oi := { dst := some 21, op := .fieldAddr 35 (.tmp 20) 0, type := _, pos := _, after := _, guard := some (3, true) }) (v := ?_) rfl (by kernel_rfl) (by kernel_rfl) (by kernel_rfl) (fun _ _ _ h => h) ?_ hHeld ?_
            rotate_left
            · (refine Or.inl ⟨by rfl, fun w hSw => ?_⟩; (try dsimp only at hSw); go_simp; (try with_reducible rfl))
            (try simp only [Act.put, List.setIfInBounds_toArray, List.set_cons_zero, List.set_cons_succ])
            refine wpAnyH_take (i := 8) (oi := { dst := some 22, op := .load 3 (.tmp 21), type := _, pos := _, after := _, guard := some (3, true) }) (v := ?_) rfl (by kernel_rfl) (by kernel_rfl) (by kernel_rfl) (fun _ _ _ h => h) ?_ hHeld ?_
            rotate_left
            · (refine Or.inl ⟨by rfl, fun w hSw => ?_⟩; (try dsimp only at hSw); go_simp; (try with_reducible rfl))
            (try simp only [Act.put, List.setIfInBounds_toArray, List.set_cons_zero, List.set_cons_succ])
            refine wpAnyH_take (i := 9) (oi := { dst := some 23, op := .binOp .neq 3 (.tmp 22) (.const (.int .i64 0)) 3, type := _, pos := _, after := _, guard := some (3, true) }) (v := .bool false) rfl (by kernel_rfl) (by kernel_rfl) (by kernel_rfl) (fun _ _ _ h => h) ?_ hHeld ?_
            · (refine Or.inl ⟨by rfl, fun w hSw => ?_⟩; (try dsimp only at hSw); go_simp; (try rfl))
            (try simp only [Act.put, List.setIfInBounds_toArray, List.set_cons_zero, List.set_cons_succ])
            refine wpAnyH_take (i := 10) (oi := { dst := some 24, op := .pick (.tmp 17) (.tmp 23) (.const (.bool false)), type := _, pos := _, after := _, guard := none }) (v := ?_) rfl (by kernel_rfl) (by kernel_rfl) (by kernel_rfl) (fun _ _ _ h => h) ?_ hHeld ?_
            rotate_left
            · (refine Or.inl ⟨by rfl, fun w hSw => ?_⟩; (try dsimp only at hSw); go_simp; (try with_reducible rfl))
            (try simp only [Act.put, List.setIfInBounds_toArray, List.set_cons_zero, List.set_cons_succ])
            refine wpAnyH_take (i := 11) (oi := { dst := some 25, op := .move (.tmp 24), type := _, pos := _, after := _, guard := none }) (v := ?_) rfl (by kernel_rfl) (by kernel_rfl) (by kernel_rfl) (fun _ _ _ h => h) ?_ hHeld ?_
            rotate_left
            · (refine Or.inl ⟨by rfl, fun w hSw => ?_⟩; (try dsimp only at hSw); go_simp; (try with_reducible rfl))
            (try simp only [Act.put, List.setIfInBounds_toArray, List.set_cons_zero, List.set_cons_succ])
            refine wpAnyH_take (i := 12) (oi := { dst := some 26, op := .move (.tmp 6), type := _, pos := _, after := _, guard := some (11, true) }) (v := undef) rfl (by kernel_rfl) (by kernel_rfl) (by kernel_rfl) (fun _ _ _ h => h) (Or.inr ?_) hHeld ?_
            · exact ⟨by rfl, rfl⟩
            (try simp only [Act.put, List.setIfInBounds_toArray, List.set_cons_zero, List.set_cons_succ])
            refine wpAnyH_take (i := 13) (oi := { dst := some 27, op := .move (.tmp 1), type := _, pos := _, after := _, guard := some (11, true) }) (v := undef) rfl (by kernel_rfl) (by kernel_rfl) (by kernel_rfl) (fun _ _ _ h => h) (Or.inr ?_) hHeld ?_
            · exact ⟨by rfl, rfl⟩
            (try simp only [Act.put, List.setIfInBounds_toArray, List.set_cons_zero, List.set_cons_succ])
            refine wpAnyH_take (i := 14) (oi := { dst := some 28, op := .slice 25 (.tmp 26) (some (.tmp 27)) none none, type := _, pos := _, after := _, guard := some (11, true) }) (v := undef) rfl (by kernel_rfl) (by kernel_rfl) (by kernel_rfl) (fun _ _ _ h => h) (Or.inr ?_) hHeld ?_
            · exact ⟨by rfl, rfl⟩
            (try simp only [Act.put, List.setIfInBounds_toArray, List.set_cons_zero, List.set_cons_succ])
            refine wpAnyH_take (i := 15) (oi := { dst := some 29, op := .move (.tmp 0), type := _, pos := _, after := _, guard := some (11, true) }) (v := undef) rfl (by kernel_rfl) (by kernel_rfl) (by kernel_rfl) (fun _ _ _ h => h) (Or.inr ?_) hHeld ?_
            · exact ⟨by rfl, rfl⟩
            (try simp only [Act.put, List.setIfInBounds_toArray, List.set_cons_zero, List.set_cons_succ])
            refine wpAnyH_take (i := 16) (oi := { dst := some 30, op := .move (.tmp 1), type := _, pos := _, after := _, guard := some (11, true) }) (v := undef) rfl (by kernel_rfl) (by kernel_rfl) (by kernel_rfl) (fun _ _ _ h => h) (Or.inr ?_) hHeld ?_
            · exact ⟨by rfl, rfl⟩
            (try simp only [Act.put, List.setIfInBounds_toArray, List.set_cons_zero, List.set_cons_succ])
            refine wpAnyH_take (i := 17) (oi := { dst := some 31, op := .indexAddr 24 (.tmp 29) (.tmp 30), type := _, pos := _, after := _, guard := some (11, true) }) (v := undef) rfl (by kernel_rfl) (by kernel_rfl) (by kernel_rfl) (fun _ _ _ h => h) (Or.inr ?_) hHeld ?_
            · exact ⟨by rfl, rfl⟩
            (try simp only [Act.put, List.setIfInBounds_toArray, List.set_cons_zero, List.set_cons_succ])
            refine wpAnyH_take (i := 18) (oi := { dst := some 32, op := .load 25 (.tmp 31), type := _, pos := _, after := _, guard := some (11, true) }) (v := undef) rfl (by kernel_rfl) (by kernel_rfl) (by kernel_rfl) (fun _ _ _ h => h) (Or.inr ?_) hHeld ?_
            · exact ⟨by rfl, rfl⟩
            (try simp only [Act.put, List.setIfInBounds_toArray, List.set_cons_zero, List.set_cons_succ])
            refine wpAnyH_take (i := 19) (oi := { dst := some 33, op := .move (.tmp 1), type := _, pos := _, after := _, guard := some (11, true) }) (v := undef) rfl (by kernel_rfl) (by kernel_rfl) (by kernel_rfl) (fun _ _ _ h => h) (Or.inr ?_) hHeld ?_
            · exact ⟨by rfl, rfl⟩
            (try simp only [Act.put, List.setIfInBounds_toArray, List.set_cons_zero, List.set_cons_succ])
            refine wpAnyH_take (i := 20) (oi := { dst := some 34, op := .slice 25 (.tmp 32) (some (.tmp 33)) none none, type := _, pos := _, after := _, guard := some (11, true) }) (v := undef) rfl (by kernel_rfl) (by kernel_rfl) (by kernel_rfl) (fun _ _ _ h => h) (Or.inr ?_) hHeld ?_
            · exact ⟨by rfl, rfl⟩
            (try simp only [Act.put, List.setIfInBounds_toArray, List.set_cons_zero, List.set_cons_succ])
            refine wpAnyH_take (i := 21) (oi := { dst := some 35, op := .call { callee := .value (.func 94), args := #[(.tmp 28), (.tmp 34)], argTypes := #[25, 25] }, type := _, pos := _, after := _, guard := some (11, true) }) (v := undef) rfl (by kernel_rfl) (by kernel_rfl) (by kernel_rfl) (fun _ _ _ h => h) (Or.inr ?_) hHeld ?_
            · exact ⟨by rfl, rfl⟩
            (try simp only [Act.put, List.setIfInBounds_toArray, List.set_cons_zero, List.set_cons_succ])
            refine wpAnyH_take (i := 22) (oi := { dst := some 36, op := .unOp .not 4 (.tmp 35), type := _, pos := _, after := _, guard := some (11, true) }) (v := undef) rfl (by kernel_rfl) (by kernel_rfl) (by kernel_rfl) (fun _ _ _ h => h) (Or.inr ?_) hHeld ?_
            · exact ⟨by rfl, rfl⟩
            (try simp only [Act.put, List.setIfInBounds_toArray, List.set_cons_zero, List.set_cons_succ])
            refine wpAnyH_take (i := 23) (oi := { dst := some 37, op := .pick (.tmp 25) (.tmp 36) (.const (.bool false)), type := _, pos := _, after := _, guard := none }) (v := ?_) rfl (by kernel_rfl) (by kernel_rfl) (by kernel_rfl) (fun _ _ _ h => h) ?_ hHeld ?_
            rotate_left
            · (refine Or.inl ⟨by rfl, fun w hSw => ?_⟩; (try dsimp only at hSw); go_simp; (try with_reducible rfl))
            (try simp only [Act.put, List.setIfInBounds_toArray, List.set_cons_zero, List.set_cons_succ])
            refine wpAnyH_done (by kernel_rfl) ?_ _
            go_wp2_with fail
            go_meet
            exact ⟨by first | rfl | trivial, hHeld.2⟩
          case rest =>
            obtain ⟨rfl, hkp⟩ := hcut
            obtain ⟨w9, rfl⟩ : ∃ wo : World, wo = wc := ⟨_, rfl⟩
            have G9 := hid (hg.out.below' hkp.bel)
            have B9 := hid (hb.out.trans (hkp.bel.mono (Nat.le_trans hlo hbs)))
            clear hkp hk0
            go_wp2_with fail
            go_roundw
            case rel => exact ⟨k + 1, m', by omega, by go_num, HN, hml, hmr, G9, B9⟩
            case measure => simp [intOf]; omega
        · have hq2 : (m'[k][p].1 != 0) = true := by simp [hz]
          have hpk : p < m'[p].length := by rw [hmr.out p hpl]; omega
          obtain ⟨bp, capp, hvp, hlbp, hlcp⟩ := row_block hg.out p hpl (by omega)
          have hcp := (hg.out.cellAt p hpl).trans hvp
          rw [Nat.zero_add, hmr.out p hpl] at hcp
          have hvp0 := hvp
          rw [hmr.out p hpl] at hvp hlcp
          have OP := hid (row_own hg.out p hpl hvp)
          have hbp : bk ≠ bp := fun e => hg.out.apart k p _ _ bk hkpe hvk hvp rfl (by rw [e]; rfl)
          have hl1 := hid (show m'[k].length = p + (N + 1 - p) by rw [hmr.out k hkl]; omega)
          have hl2 := hid (show m'[p].length = p + (N + 1 - p) by rw [hmr.out p hpl]; omega)
          have OK2 := hid (show OwnQ wr lo tR (.slice (some ⟨bk, 0, none⟩) m'[k].length capk) m'[k] by rw [hmr.out k hkl]; exact OK.out)
          have OP2 := hid (show OwnQ wr lo tR (.slice (some ⟨bp, 0, none⟩) m'[p].length capp) m'[p] by rw [hmr.out p hpl]; exact OP.out)
          have CF := hid (fun (W : World) (c1 c2 : Nat) (hW : W = wr ∨ W = wr.drew) => show Calls Try.prog 94 #[.slice (some ⟨bk, p * 2, none⟩) (N + 1 - p) c1, .slice (some ⟨bp, p * 2, none⟩) (N + 1 - p) c2] W fun e w' => e = .returned (.bool (okO (rowOp m'[k] m'[p] p (N + 1 - p)))) ∧ (∀ l, rowOp m'[k] m'[p] p (N + 1 - p) = some l → OwnQ w' lo tR (.slice (some ⟨bk, 0, none⟩) m'[k].length capk) l) ∧ W.grownBy w' (some bk) from
            impl_cfe bk bp c1 c2 capp capk m'[k] m'[p] p (N + 1 - p) W lo lo (by omega) (by omega) hl1.out hl2.out hbp (by rcases hW with e | e <;> (rw [e]; exact OK2.out)) (by rcases hW with e | e <;> (rw [e]; exact OP2.out)))
          have HGO := hid (clr_go hc.out (fun h => by rcases h with h | h; exact hkpe h; rw [hget] at h; exact hz h))
          have hN1p : (p : Int) ≤ (N : Int) + 1 := by omega
          have hcapk : (p : Int) ≤ (capk : Int) := by omega
          have hcapp : (p : Int) ≤ (capp : Int) := by omega
          have hcapk1 : ¬ capk = p := by omega
          have hcapp1 : ¬ capp = p := by omega
          clear hget f0 f1 c1 hz hvp0
          go_upto_region 4 with fail
          have CF1 := hid (fun c1 c2 => CF.out wr.drew c1 c2 (.inr rfl))
          have HROW := hid (show ∀ l, rowOp m'[k] m'[p] p (N + 1 - p) = some l → l.length = N + 1 from fun l hl => by
            unfold rowOp at hl
            cases hd : divQ (m'[k].getD p (0, 0)) (m'[p].getD p (0, 0)) with
            | none => rw [hd] at hl; cases hl
            | some f => rw [hd] at hl; exact (ro_len hl).trans (hmr.out k hkl))
          have HGD := hid (show rowOp (m'.getD k []) (m'.getD p []) p (N + 1 - p) = rowOp m'[k] m'[p] p (N + 1 - p) by rw [getD_at hkl, getD_at hpl])
          have GD := hid hg.out.drew
          have BD := hid hb.out.drew
          clear CF
          go_still_tail 21, (by kernel_rfl)
          change wpList _ _ _ _ _ wr.drew
          generalize wr.drew = w8 at CF1 GD BD
          cases hr : rowOp m'[k] m'[p] p (N + 1 - p) with
          | none =>
            rw [hr] at CF1
            have HN := hid (show clr m p (N + 1 - p) N = none from clr_none (HGO.out.trans (by rw [HGD.out, hr]; rfl)) (show k + 1 ≤ N by omega))
            go_wp2_with fail
            with_reducible refine (CF1.out _ _).mono ?_
            rintro e w2 ⟨rfl, _, hgr⟩
            have B2 := hid (BD.out.trans (below_row hgr (Nat.le_trans hlo BD.out.size) (OK.out.lt bk rfl).1))
            clear hgr
            go_wp2_with fail
            go_ret
            exact ⟨by rw [HN.out]; rfl, fun m2 h2 => (by rw [HN.out] at h2; cases h2), B2.out⟩
          | some r =>
            rw [hr] at CF1
            have HN := hid (show clr m p (N + 1 - p) (k + 1) = some (m'.set k r) from HGO.out.trans (by rw [HGD.out, hr]; rfl))
            have hrl := hid (HROW.out r hr)
            go_wp2_with fail
            with_reducible refine (CF1.out _ _).mono ?_
            rintro e w2 ⟨rfl, hown, hgr⟩
            have O2 := hown r rfl
            rw [hmr.out k hkl] at O2
            have G2 := hid (GD.out.rewrite tQR hkl hvk r (by exact O2) hgr)
            have B2 := hid (BD.out.trans (below_row hgr (Nat.le_trans hlo BD.out.size) (OK.out.lt bk rfl).1))
            have HM2 := hid (show (m'.set k r).length = N by rw [List.length_set]; exact hml.out)
            have HR2 := hid (show ∀ j (hj : j < (m'.set k r).length), (m'.set k r)[j].length = N + 1 from fun j hj => by
              rw [List.getElem_set]
              split
              · exact hrl.out
              · exact hmr.out j (by rw [List.length_set] at hj; exact hj))
            clear hgr hown O2
            go_wp2_with fail
            go_roundw
            case rel => exact ⟨k + 1, _, by omega, by go_num, HN, HM2, HR2, G2, B2⟩
            case measure => simp [intOf]; omega
    · have hlt' : ¬ (k : Int) < (N : Int) := by omega
      have e : k = N := by omega
      subst e
      have HM := hid hc.out
      clear hc
      go_wp2_with fail
      go_ret
      exact ⟨by rw [HM.out]; rfl, fun m2 h2 => (by rw [HM.out] at h2; injection h2 with h2; subst h2; exact ⟨hml.out, hmr.out, hg.out⟩), hb.out⟩
end Go.Proofs.Ytjnphlgmmjdeiaa.SolC
