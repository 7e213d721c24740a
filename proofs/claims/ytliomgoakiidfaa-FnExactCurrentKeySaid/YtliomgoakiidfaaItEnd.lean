/- The end and the current key of an iterator, both sides. -/
import Derived.Test.YtliomgoakiidfaaItPth
import Derived.BigQuiet
import Derived.Deep.DrawnRows
namespace Go.Proofs.Ytliomgoakiidfaa.ItEnd
open Go.RowKit Go.Sort
open Go.Proofs.Ytliomgoakiidfaa.Num Go.Proofs.Ytliomgoakiidfaa.IntRow Go.Proofs.Ytliomgoakiidfaa.Vals Go.Proofs.Ytliomgoakiidfaa.Grid Go.Proofs.Ytliomgoakiidfaa.Asc Go.Proofs.Ytliomgoakiidfaa.IntLaw Go.Proofs.Ytliomgoakiidfaa.GridMore Go.Proofs.Ytliomgoakiidfaa.GridLaw Go.Proofs.Ytliomgoakiidfaa.GridLaw2 Go.Proofs.Ytliomgoakiidfaa.Keep Go.Proofs.Ytliomgoakiidfaa.Kept Go.Proofs.Ytliomgoakiidfaa.Cells Go.Proofs.Ytliomgoakiidfaa.RelKit Go.Proofs.Ytliomgoakiidfaa.HasL Go.Proofs.Ytliomgoakiidfaa.ItLaw Go.Proofs.Ytliomgoakiidfaa.ItP Go.Proofs.Ytliomgoakiidfaa.TriV Go.Proofs.Ytliomgoakiidfaa.ItI Go.Proofs.Ytliomgoakiidfaa.ItV Go.Proofs.Ytliomgoakiidfaa.ItS Go.Proofs.Ytliomgoakiidfaa.ItT Go.Proofs.Ytliomgoakiidfaa.ItQ Go.Proofs.Ytliomgoakiidfaa.ItPth
set_option linter.unusedVariables false
set_option linter.unusedSimpArgs false

set_option maxRecDepth 100000 in
set_option maxHeartbeats 4000000 in
theorem impl_end (n : Int) (a l h p : Option Addr) (cap capl caph capp : Nat) (xss : List (List Int)) (L H P : List Int) (B : Nat) (w : World) (hs : szI xss L H P ≤ 1048576) (r : ItRd w B a l h p cap capl caph capp xss L H P) (hB : B ≤ w.heap.size) :
    Calls Try.prog 25 #[.agg #[.int .i64 n, .slice a xss.length cap, .slice l L.length capl, .slice h H.length caph, .slice p P.length capp]] w fun e w' => e = .returned (.bool (aend n xss L H P)) ∧ Below w.heap.size w w' := by
  obtain ⟨n1, nl, nx, n3, n4, n5, _, _⟩ := szI_parts hs
  have B1 := hid ((Below.refl w.heap.size w).alloc (Nat.le_refl _) (.cells #[.int .i64 n, .slice a xss.length cap, .slice l L.length capl, .slice h H.length caph, .slice p P.length capp] 29))
  have K0 := hid (hasl_new w [.int .i64 n, .slice a xss.length cap, .slice l L.length capl, .slice h H.length caph, .slice p P.length capp] 29)
  have R := hid r
  have HS := hid hs
  have NX := hid nx
  have CV := hid (fun W (hW : Below w.heap.size w W) => impl_vit n a l h p cap capl caph capp xss L H P B W HS.out (R.out.below (hW.mono hB)) (Nat.le_trans hB hW.size))
  obtain ⟨v, hv⟩ : ∃ v, vit n xss L H P = v := ⟨_, rfl⟩
  rw [hv] at CV
  have HV := hid hv
  have CP := hid (fun W (hW : Below w.heap.size w W) => impl_path n a l h p cap capl caph capp xss L H P B W HS.out (R.out.below (hW.mono hB)) (Nat.le_trans hB hW.size))
  obtain ⟨c0, c1, c2, c3, c4, _, _, _, _, _, z0⟩ := five K0.out
  obtain ⟨w0, hw0⟩ : ∃ wo : World, wo = w.alloc (.cells #[.int .i64 n, .slice a xss.length cap, .slice l L.length capl, .slice h H.length caph, .slice p P.length capp] 29) := ⟨_, rfl⟩
  have hz0 : w.heap.size ≤ w0.heap.size := by rw [hw0]; simp
  rw [← hw0] at B1 c0 c1 c2 c3 c4 z0
  have HW0 := hid hw0
  clear hw0 K0
  clear r hs nx hv
  obtain ⟨en, hen⟩ : ∃ z, aend n xss L H P = z := ⟨_, rfl⟩
  rw [hen]
  cases v with
  | false =>
    obtain rfl : false = en := (aend_no HV.out).symm.trans hen
    clear hen
    go_enter Try.func25, Try.ntmps25
    go_upto_region 1 with fail
    rw [← HW0.out]
    go_cut [2] (fun s wx => s = .bool false ∧ Kp w0 0 wx)
    case first =>
      refine wp_region_held_drew (S := (fun w' => w'.cell? ⟨w.heap.size, 0, none⟩ = some (.int .i64 n) ∧ w'.cell? ⟨w.heap.size, 1, none⟩ = some (.slice a xss.length cap) ∧ w'.cell? ⟨w.heap.size, 2, none⟩ = some (.slice l L.length capl) ∧ w'.cell? ⟨w.heap.size, 3, none⟩ = some (.slice h H.length caph) ∧ w'.cell? ⟨w.heap.size, 4, none⟩ = some (.slice p P.length capp) ∧ Kp w0 0 w')) (by kernel_rfl) ⟨c0, c1, c2, c3, c4, (kp_refl w0).drew⟩ (fun hHeld => ?_)
      refine wpAnyH_take (i := 0) (oi := { dst := some 3, op := .load 29 (.tmp 1), type := _, pos := _, after := _, guard := none }) (v := ?_) rfl (by kernel_rfl) (by kernel_rfl) (by kernel_rfl) (fun _ _ _ h => h) ?_ hHeld ?_
      rotate_left
      · (refine Or.inl ⟨by rfl, fun w hSw => ?_⟩; (try dsimp only at hSw); go_simp; (try with_reducible rfl))
      (try simp only [Act.put, List.setIfInBounds_toArray, List.set_cons_zero, List.set_cons_succ])
      refine wpAnyH_ready (rs := [1]) (by kernel_rfl) (by simp) ?_
      refine AllReadyH.cons (o := { dst := some 4, op := .call { callee := .value (.func 19), args := #[(.tmp 3)], argTypes := #[29] }, type := _, pos := _, after := _, guard := none }) rfl (fun K hK => ?_) AllReadyH.nil
      go_simp
      (with_reducible refine (CV.out _ (B1.out.trans (hHeld.2.2.2.2.2.bel.mono hz0))).mono ?_); rintro e wU ⟨rfl, hbU⟩
      (try go_wp2_with fail)
      refine hK.out _ _ ?_ (fun hH2 => ?_)
      · exact ⟨hHeld.2.2.2.2.2.cell hbU (by omega) hHeld.1, hHeld.2.2.2.2.2.cell hbU (by omega) hHeld.2.1, hHeld.2.2.2.2.2.cell hbU (by omega) hHeld.2.2.1, hHeld.2.2.2.2.2.cell hbU (by omega) hHeld.2.2.2.1, hHeld.2.2.2.2.2.cell hbU (by omega) hHeld.2.2.2.2.1, hHeld.2.2.2.2.2.call hbU⟩
      clear hK K hHeld
      have hHeld := hH2
      clear hH2
      (try simp only [Act.put, List.setIfInBounds_toArray, List.set_cons_zero, List.set_cons_succ])
      refine wpAnyH_take (i := 2) (oi := { dst := some 5, op := .move (.tmp 4), type := _, pos := _, after := _, guard := none }) (v := ?_) rfl (by kernel_rfl) (by kernel_rfl) (by kernel_rfl) (fun _ _ _ h => h) ?_ hHeld ?_
      rotate_left
      · (refine Or.inl ⟨by rfl, fun w hSw => ?_⟩; (try dsimp only at hSw); go_simp; (try with_reducible rfl))
      (try simp only [Act.put, List.setIfInBounds_toArray, List.set_cons_zero, List.set_cons_succ])
      refine wpAnyH_take (i := 3) (oi := { dst := some 6, op := .load 29 (.tmp 1), type := _, pos := _, after := _, guard := some (2, true) }) (v := undef) rfl (by kernel_rfl) (by kernel_rfl) (by kernel_rfl) (fun _ _ _ h => h) (Or.inr ?_) hHeld ?_
      · exact ⟨by rfl, rfl⟩
      (try simp only [Act.put, List.setIfInBounds_toArray, List.set_cons_zero, List.set_cons_succ])
      refine wpAnyH_take (i := 4) (oi := { dst := some 7, op := .call { callee := .value (.func 30), args := #[(.tmp 6)], argTypes := #[29] }, type := _, pos := _, after := _, guard := some (2, true) }) (v := undef) rfl (by kernel_rfl) (by kernel_rfl) (by kernel_rfl) (fun _ _ _ h => h) (Or.inr ?_) hHeld ?_
      · exact ⟨by rfl, rfl⟩
      (try simp only [Act.put, List.setIfInBounds_toArray, List.set_cons_zero, List.set_cons_succ])
      refine wpAnyH_take (i := 5) (oi := { dst := some 8, op := .call { callee := .builtin .len, args := #[(.tmp 7)], argTypes := #[27] }, type := _, pos := _, after := _, guard := some (2, true) }) (v := undef) rfl (by kernel_rfl) (by kernel_rfl) (by kernel_rfl) (fun _ _ _ h => h) (Or.inr ?_) hHeld ?_
      · exact ⟨by rfl, rfl⟩
      (try simp only [Act.put, List.setIfInBounds_toArray, List.set_cons_zero, List.set_cons_succ])
      refine wpAnyH_take (i := 6) (oi := { dst := some 9, op := .fieldAddr 29 (.tmp 1) 3, type := _, pos := _, after := _, guard := some (2, true) }) (v := undef) rfl (by kernel_rfl) (by kernel_rfl) (by kernel_rfl) (fun _ _ _ h => h) (Or.inr ?_) hHeld ?_
      · exact ⟨by rfl, rfl⟩
      (try simp only [Act.put, List.setIfInBounds_toArray, List.set_cons_zero, List.set_cons_succ])
      refine wpAnyH_take (i := 7) (oi := { dst := some 10, op := .load 27 (.tmp 9), type := _, pos := _, after := _, guard := some (2, true) }) (v := undef) rfl (by kernel_rfl) (by kernel_rfl) (by kernel_rfl) (fun _ _ _ h => h) (Or.inr ?_) hHeld ?_
      · exact ⟨by rfl, rfl⟩
      (try simp only [Act.put, List.setIfInBounds_toArray, List.set_cons_zero, List.set_cons_succ])
      refine wpAnyH_take (i := 8) (oi := { dst := some 11, op := .call { callee := .builtin .len, args := #[(.tmp 10)], argTypes := #[27] }, type := _, pos := _, after := _, guard := some (2, true) }) (v := undef) rfl (by kernel_rfl) (by kernel_rfl) (by kernel_rfl) (fun _ _ _ h => h) (Or.inr ?_) hHeld ?_
      · exact ⟨by rfl, rfl⟩
      (try simp only [Act.put, List.setIfInBounds_toArray, List.set_cons_zero, List.set_cons_succ])
      refine wpAnyH_take (i := 9) (oi := { dst := some 12, op := .binOp .lss 3 (.tmp 8) (.tmp 11) 3, type := _, pos := _, after := _, guard := some (2, true) }) (v := undef) rfl (by kernel_rfl) (by kernel_rfl) (by kernel_rfl) (fun _ _ _ h => h) (Or.inr ?_) hHeld ?_
      · exact ⟨by rfl, rfl⟩
      (try simp only [Act.put, List.setIfInBounds_toArray, List.set_cons_zero, List.set_cons_succ])
      refine wpAnyH_take (i := 10) (oi := { dst := some 13, op := .pick (.tmp 5) (.tmp 12) (.const (.bool false)), type := _, pos := _, after := _, guard := none }) (v := ?_) rfl (by kernel_rfl) (by kernel_rfl) (by kernel_rfl) (fun _ _ _ h => h) ?_ hHeld ?_
      rotate_left
      · (refine Or.inl ⟨by rfl, fun w hSw => ?_⟩; (try dsimp only at hSw); go_simp; (try with_reducible rfl))
      (try simp only [Act.put, List.setIfInBounds_toArray, List.set_cons_zero, List.set_cons_succ])
      refine wpAnyH_take (i := 11) (oi := { dst := some 2, op := .assign (.tmp 13), type := _, pos := _, after := _, guard := none }) (v := ?_) rfl (by kernel_rfl) (by kernel_rfl) (by kernel_rfl) (fun _ _ _ h => h) ?_ hHeld ?_
      rotate_left
      · (refine Or.inl ⟨by rfl, fun w hSw => ?_⟩; (try dsimp only at hSw); go_simp; (try with_reducible rfl))
      (try simp only [Act.put, List.setIfInBounds_toArray, List.set_cons_zero, List.set_cons_succ])
      refine wpAnyH_done (by kernel_rfl) ?_ _
      go_wp2_with fail
      go_meet
      exact ⟨by first | rfl | trivial | (rw [← HEN.out]; simp) | (simp [← HEN.out]), hHeld.2.2.2.2.2⟩
    case rest =>
    obtain ⟨rfl, hkp⟩ := hcut
    have HB5 := hid (B1.out.trans (hkp.bel.mono hz0))
    clear hkp
    go_wp2
    go_ret
    exact ⟨rfl, HB5.out⟩
  | true =>
    have HEN := (path_end HV.out).trans hen
    have hpl := path_len n xss L H P
    clear hen
    obtain ⟨zs, hzs⟩ : ∃ z, pathN n xss L H P = z := ⟨_, rfl⟩
    rw [hzs] at CP HEN hpl
    clear hzs
    obtain ⟨m, hm⟩ : ∃ m, zs.length = m := ⟨_, rfl⟩
    rw [hm] at CP HEN hpl
    replace HEN := hid HEN
    have hml : m ≤ 1048576 := by omega
    clear hm
    go_enter Try.func25, Try.ntmps25
    go_upto_region 1 with fail
    rw [← HW0.out]
    go_cut [2] (fun s wx => s = .bool en ∧ Kp w0 0 wx)
    case first =>
      refine wp_region_held_drew (S := (fun w' => w'.cell? ⟨w.heap.size, 0, none⟩ = some (.int .i64 n) ∧ w'.cell? ⟨w.heap.size, 1, none⟩ = some (.slice a xss.length cap) ∧ w'.cell? ⟨w.heap.size, 2, none⟩ = some (.slice l L.length capl) ∧ w'.cell? ⟨w.heap.size, 3, none⟩ = some (.slice h H.length caph) ∧ w'.cell? ⟨w.heap.size, 4, none⟩ = some (.slice p P.length capp) ∧ Kp w0 0 w')) (by kernel_rfl) ⟨c0, c1, c2, c3, c4, (kp_refl w0).drew⟩ (fun hHeld => ?_)
      refine wpAnyH_take (i := 0) (oi := { dst := some 3, op := .load 29 (.tmp 1), type := _, pos := _, after := _, guard := none }) (v := ?_) rfl (by kernel_rfl) (by kernel_rfl) (by kernel_rfl) (fun _ _ _ h => h) ?_ hHeld ?_
      rotate_left
      · (refine Or.inl ⟨by rfl, fun w hSw => ?_⟩; (try dsimp only at hSw); go_simp; (try with_reducible rfl))
      (try simp only [Act.put, List.setIfInBounds_toArray, List.set_cons_zero, List.set_cons_succ])
      refine wpAnyH_ready (rs := [1]) (by kernel_rfl) (by simp) ?_
      refine AllReadyH.cons (o := { dst := some 4, op := .call { callee := .value (.func 19), args := #[(.tmp 3)], argTypes := #[29] }, type := _, pos := _, after := _, guard := none }) rfl (fun K hK => ?_) AllReadyH.nil
      go_simp
      (with_reducible refine (CV.out _ (B1.out.trans (hHeld.2.2.2.2.2.bel.mono hz0))).mono ?_); rintro e wU ⟨rfl, hbU⟩
      (try go_wp2_with fail)
      refine hK.out _ _ ?_ (fun hH2 => ?_)
      · exact ⟨hHeld.2.2.2.2.2.cell hbU (by omega) hHeld.1, hHeld.2.2.2.2.2.cell hbU (by omega) hHeld.2.1, hHeld.2.2.2.2.2.cell hbU (by omega) hHeld.2.2.1, hHeld.2.2.2.2.2.cell hbU (by omega) hHeld.2.2.2.1, hHeld.2.2.2.2.2.cell hbU (by omega) hHeld.2.2.2.2.1, hHeld.2.2.2.2.2.call hbU⟩
      clear hK K hHeld
      have hHeld := hH2
      clear hH2
      (try simp only [Act.put, List.setIfInBounds_toArray, List.set_cons_zero, List.set_cons_succ])
      refine wpAnyH_take (i := 2) (oi := { dst := some 5, op := .move (.tmp 4), type := _, pos := _, after := _, guard := none }) (v := ?_) rfl (by kernel_rfl) (by kernel_rfl) (by kernel_rfl) (fun _ _ _ h => h) ?_ hHeld ?_
      rotate_left
      · (refine Or.inl ⟨by rfl, fun w hSw => ?_⟩; (try dsimp only at hSw); go_simp; (try with_reducible rfl))
      (try simp only [Act.put, List.setIfInBounds_toArray, List.set_cons_zero, List.set_cons_succ])
      refine wpAnyH_take (i := 3) (oi := { dst := some 6, op := .load 29 (.tmp 1), type := _, pos := _, after := _, guard := some (2, true) }) (v := ?_) rfl (by kernel_rfl) (by kernel_rfl) (by kernel_rfl) (fun _ _ _ h => h) ?_ hHeld ?_
      rotate_left
      · (refine Or.inl ⟨by rfl, fun w hSw => ?_⟩; (try dsimp only at hSw); go_simp; (try with_reducible rfl))
      (try simp only [Act.put, List.setIfInBounds_toArray, List.set_cons_zero, List.set_cons_succ])
      refine wpAnyH_take (i := 6) (oi := { dst := some 9, op := .fieldAddr 29 (.tmp 1) 3, type := _, pos := _, after := _, guard := some (2, true) }) (v := ?_) rfl (by kernel_rfl) (by kernel_rfl) (by kernel_rfl) (fun _ _ _ h => h) ?_ hHeld ?_
      rotate_left
      · (refine Or.inl ⟨by rfl, fun w hSw => ?_⟩; (try dsimp only at hSw); go_simp; (try with_reducible rfl))
      (try simp only [Act.put, List.setIfInBounds_toArray, List.set_cons_zero, List.set_cons_succ])
      refine wpAnyH_take (i := 7) (oi := { dst := some 10, op := .load 27 (.tmp 9), type := _, pos := _, after := _, guard := some (2, true) }) (v := ?_) rfl (by kernel_rfl) (by kernel_rfl) (by kernel_rfl) (fun _ _ _ h => h) ?_ hHeld ?_
      rotate_left
      · (refine Or.inl ⟨by rfl, fun w hSw => ?_⟩; (try dsimp only at hSw); go_simp; (try with_reducible rfl))
      (try simp only [Act.put, List.setIfInBounds_toArray, List.set_cons_zero, List.set_cons_succ])
      refine wpAnyH_take (i := 8) (oi := { dst := some 11, op := .call { callee := .builtin .len, args := #[(.tmp 10)], argTypes := #[27] }, type := _, pos := _, after := _, guard := some (2, true) }) (v := ?_) rfl (by kernel_rfl) (by kernel_rfl) (by kernel_rfl) (fun _ _ _ h => h) ?_ hHeld ?_
      rotate_left
      · (refine Or.inl ⟨by rfl, fun w hSw => ?_⟩; (try dsimp only at hSw); go_simp; (try with_reducible rfl))
      (try simp only [Act.put, List.setIfInBounds_toArray, List.set_cons_zero, List.set_cons_succ])
      refine wpAnyH_ready (rs := [4]) (by kernel_rfl) (by simp) ?_
      refine AllReadyH.cons (o := { dst := some 7, op := .call { callee := .value (.func 30), args := #[(.tmp 6)], argTypes := #[29] }, type := _, pos := _, after := _, guard := some (2, true) }) rfl (fun K hK => ?_) AllReadyH.nil
      go_simp
      (with_reducible refine (CP.out _ (B1.out.trans (hHeld.2.2.2.2.2.bel.mono hz0))).mono ?_); rintro e wV ⟨a5, c5, rfl, hown5, hbV⟩
      (try go_wp2_with fail)
      refine hK.out _ _ ?_ (fun hH2 => ?_)
      · exact ⟨hHeld.2.2.2.2.2.cell hbV (by omega) hHeld.1, hHeld.2.2.2.2.2.cell hbV (by omega) hHeld.2.1, hHeld.2.2.2.2.2.cell hbV (by omega) hHeld.2.2.1, hHeld.2.2.2.2.2.cell hbV (by omega) hHeld.2.2.2.1, hHeld.2.2.2.2.2.cell hbV (by omega) hHeld.2.2.2.2.1, hHeld.2.2.2.2.2.call hbV⟩
      clear hK K hHeld
      have hHeld := hH2
      clear hH2
      (try simp only [Act.put, List.setIfInBounds_toArray, List.set_cons_zero, List.set_cons_succ])
      refine wpAnyH_take (i := 5) (oi := { dst := some 8, op := .call { callee := .builtin .len, args := #[(.tmp 7)], argTypes := #[27] }, type := _, pos := _, after := _, guard := some (2, true) }) (v := ?_) rfl (by kernel_rfl) (by kernel_rfl) (by kernel_rfl) (fun _ _ _ h => h) ?_ hHeld ?_
      rotate_left
      · (refine Or.inl ⟨by rfl, fun w hSw => ?_⟩; (try dsimp only at hSw); go_simp; (try with_reducible rfl))
      (try simp only [Act.put, List.setIfInBounds_toArray, List.set_cons_zero, List.set_cons_succ])
      refine wpAnyH_take (i := 9) (oi := { dst := some 12, op := .binOp .lss 3 (.tmp 8) (.tmp 11) 3, type := _, pos := _, after := _, guard := some (2, true) }) (v := ?_) rfl (by kernel_rfl) (by kernel_rfl) (by kernel_rfl) (fun _ _ _ h => h) ?_ hHeld ?_
      rotate_left
      · (refine Or.inl ⟨by rfl, fun w hSw => ?_⟩; (try dsimp only at hSw); go_simp; (try with_reducible rfl))
      (try simp only [Act.put, List.setIfInBounds_toArray, List.set_cons_zero, List.set_cons_succ])
      refine wpAnyH_take (i := 10) (oi := { dst := some 13, op := .pick (.tmp 5) (.tmp 12) (.const (.bool false)), type := _, pos := _, after := _, guard := none }) (v := ?_) rfl (by kernel_rfl) (by kernel_rfl) (by kernel_rfl) (fun _ _ _ h => h) ?_ hHeld ?_
      rotate_left
      · (refine Or.inl ⟨by rfl, fun w hSw => ?_⟩; (try dsimp only at hSw); go_simp; (try with_reducible rfl))
      (try simp only [Act.put, List.setIfInBounds_toArray, List.set_cons_zero, List.set_cons_succ])
      refine wpAnyH_take (i := 11) (oi := { dst := some 2, op := .assign (.tmp 13), type := _, pos := _, after := _, guard := none }) (v := ?_) rfl (by kernel_rfl) (by kernel_rfl) (by kernel_rfl) (fun _ _ _ h => h) ?_ hHeld ?_
      rotate_left
      · (refine Or.inl ⟨by rfl, fun w hSw => ?_⟩; (try dsimp only at hSw); go_simp; (try with_reducible rfl))
      (try simp only [Act.put, List.setIfInBounds_toArray, List.set_cons_zero, List.set_cons_succ])
      refine wpAnyH_done (by kernel_rfl) ?_ _
      go_wp2_with fail
      go_meet
      exact ⟨by first | rfl | trivial | (rw [← HEN.out]; simp) | (simp [← HEN.out]), hHeld.2.2.2.2.2⟩
    case rest =>
    obtain ⟨rfl, hkp⟩ := hcut
    have HB5 := hid (B1.out.trans (hkp.bel.mono hz0))
    clear hkp
    go_wp2
    go_ret
    exact ⟨rfl, HB5.out⟩

set_option maxRecDepth 100000 in
set_option maxHeartbeats 4000000 in
theorem spec_end (n : Int) (a l h p : Option Addr) (cap capl caph capp : Nat) (xss : List (List Int)) (L H P : List Int) (B : Nat) (w : World) (hs : szI xss L H P ≤ 1048576) (r : ItRd w B a l h p cap capl caph capp xss L H P) (hB : B ≤ w.heap.size) :
    Calls Try.prog 46 #[.agg #[.int .i64 n, .slice a xss.length cap, .slice l L.length capl, .slice h H.length caph, .slice p P.length capp]] w fun e w' => e = .returned (.bool (aend n xss L H P)) ∧ Below w.heap.size w w' := by
  obtain ⟨n1, nl, nx, n3, n4, n5, _, _⟩ := szI_parts hs
  have B1 := hid ((Below.refl w.heap.size w).alloc (Nat.le_refl _) (.cells #[.int .i64 n, .slice a xss.length cap, .slice l L.length capl, .slice h H.length caph, .slice p P.length capp] 29))
  have K0 := hid (hasl_new w [.int .i64 n, .slice a xss.length cap, .slice l L.length capl, .slice h H.length caph, .slice p P.length capp] 29)
  have R := hid r
  have HS := hid hs
  have NX := hid nx
  have CV := hid (fun W (hW : Below w.heap.size w W) => spec_vit n a l h p cap capl caph capp xss L H P B W HS.out (R.out.below (hW.mono hB)) (Nat.le_trans hB hW.size))
  obtain ⟨v, hv⟩ : ∃ v, vit n xss L H P = v := ⟨_, rfl⟩
  rw [hv] at CV
  have HV := hid hv
  obtain ⟨c0, c1, c2, c3, c4, _, _, _, _, _, z0⟩ := five K0.out
  obtain ⟨w0, hw0⟩ : ∃ wo : World, wo = w.alloc (.cells #[.int .i64 n, .slice a xss.length cap, .slice l L.length capl, .slice h H.length caph, .slice p P.length capp] 29) := ⟨_, rfl⟩
  have hz0 : w.heap.size ≤ w0.heap.size := by rw [hw0]; simp
  rw [← hw0] at B1 c0 c1 c2 c3 c4 z0
  have HW0 := hid hw0
  clear hw0 K0
  clear r hs nx hv
  obtain ⟨en, hen⟩ : ∃ z, aend n xss L H P = z := ⟨_, rfl⟩
  rw [hen]
  cases v with
  | false =>
    obtain rfl : false = en := (aend_no HV.out).symm.trans hen
    clear hen
    go_enter Try.func46, Try.ntmps46
    go_upto_region 2 with fail
    rw [← HW0.out]
    go_cut [2] (fun s wx => s = .bool false ∧ Kp w0 0 wx)
    case first =>
      refine wp_region_held_drew (S := (fun w' => w'.cell? ⟨w.heap.size, 0, none⟩ = some (.int .i64 n) ∧ w'.cell? ⟨w.heap.size, 1, none⟩ = some (.slice a xss.length cap) ∧ w'.cell? ⟨w.heap.size, 2, none⟩ = some (.slice l L.length capl) ∧ w'.cell? ⟨w.heap.size, 3, none⟩ = some (.slice h H.length caph) ∧ w'.cell? ⟨w.heap.size, 4, none⟩ = some (.slice p P.length capp) ∧ Kp w0 0 w')) (by kernel_rfl) ⟨c0, c1, c2, c3, c4, (kp_refl w0).drew⟩ (fun hHeld => ?_)
      refine wpAnyH_take (i := 0) (oi := { dst := some 7, op := .load 29 (.tmp 1), type := _, pos := _, after := _, guard := none }) (v := ?_) rfl (by kernel_rfl) (by kernel_rfl) (by kernel_rfl) (fun _ _ _ h => h) ?_ hHeld ?_
      rotate_left
      · (refine Or.inl ⟨by rfl, fun w hSw => ?_⟩; (try dsimp only at hSw); go_simp; (try with_reducible rfl))
      (try simp only [Act.put, List.setIfInBounds_toArray, List.set_cons_zero, List.set_cons_succ])
      refine wpAnyH_ready (rs := [1]) (by kernel_rfl) (by simp) ?_
      refine AllReadyH.cons (o := { dst := some 8, op := .call { callee := .value (.func 20), args := #[(.tmp 7)], argTypes := #[29] }, type := _, pos := _, after := _, guard := none }) rfl (fun K hK => ?_) AllReadyH.nil
      go_simp
      (with_reducible refine (CV.out _ (B1.out.trans (hHeld.2.2.2.2.2.bel.mono hz0))).mono ?_); rintro e wU ⟨rfl, hbU⟩
      (try go_wp2_with fail)
      refine hK.out _ _ ?_ (fun hH2 => ?_)
      · exact ⟨hHeld.2.2.2.2.2.cell hbU (by omega) hHeld.1, hHeld.2.2.2.2.2.cell hbU (by omega) hHeld.2.1, hHeld.2.2.2.2.2.cell hbU (by omega) hHeld.2.2.1, hHeld.2.2.2.2.2.cell hbU (by omega) hHeld.2.2.2.1, hHeld.2.2.2.2.2.cell hbU (by omega) hHeld.2.2.2.2.1, hHeld.2.2.2.2.2.call hbU⟩
      clear hK K hHeld
      have hHeld := hH2
      clear hH2
      (try simp only [Act.put, List.setIfInBounds_toArray, List.set_cons_zero, List.set_cons_succ])
      refine wpAnyH_take (i := 2) (oi := { dst := some 9, op := .move (.tmp 8), type := _, pos := _, after := _, guard := none }) (v := ?_) rfl (by kernel_rfl) (by kernel_rfl) (by kernel_rfl) (fun _ _ _ h => h) ?_ hHeld ?_
      rotate_left
      · (refine Or.inl ⟨by rfl, fun w hSw => ?_⟩; (try dsimp only at hSw); go_simp; (try with_reducible rfl))
      (try simp only [Act.put, List.setIfInBounds_toArray, List.set_cons_zero, List.set_cons_succ])
      refine wpAnyH_take (i := 3) (oi := { dst := some 10, op := .move (.tmp 3), type := _, pos := _, after := _, guard := some (2, true) }) (v := undef) rfl (by kernel_rfl) (by kernel_rfl) (by kernel_rfl) (fun _ _ _ h => h) (Or.inr ?_) hHeld ?_
      · exact ⟨by rfl, rfl⟩
      (try simp only [Act.put, List.setIfInBounds_toArray, List.set_cons_zero, List.set_cons_succ])
      refine wpAnyH_take (i := 4) (oi := { dst := some 11, op := .binOp .gtr 3 (.tmp 10) (.const (.int .i64 0)) 3, type := _, pos := _, after := _, guard := some (2, true) }) (v := undef) rfl (by kernel_rfl) (by kernel_rfl) (by kernel_rfl) (fun _ _ _ h => h) (Or.inr ?_) hHeld ?_
      · exact ⟨by rfl, rfl⟩
      (try simp only [Act.put, List.setIfInBounds_toArray, List.set_cons_zero, List.set_cons_succ])
      refine wpAnyH_take (i := 5) (oi := { dst := some 12, op := .pick (.tmp 9) (.tmp 11) (.const (.bool false)), type := _, pos := _, after := _, guard := none }) (v := ?_) rfl (by kernel_rfl) (by kernel_rfl) (by kernel_rfl) (fun _ _ _ h => h) ?_ hHeld ?_
      rotate_left
      · (refine Or.inl ⟨by rfl, fun w hSw => ?_⟩; (try dsimp only at hSw); go_simp; (try with_reducible rfl))
      (try simp only [Act.put, List.setIfInBounds_toArray, List.set_cons_zero, List.set_cons_succ])
      refine wpAnyH_take (i := 6) (oi := { dst := some 13, op := .move (.tmp 12), type := _, pos := _, after := _, guard := none }) (v := ?_) rfl (by kernel_rfl) (by kernel_rfl) (by kernel_rfl) (fun _ _ _ h => h) ?_ hHeld ?_
      rotate_left
      · (refine Or.inl ⟨by rfl, fun w hSw => ?_⟩; (try dsimp only at hSw); go_simp; (try with_reducible rfl))
      (try simp only [Act.put, List.setIfInBounds_toArray, List.set_cons_zero, List.set_cons_succ])
      refine wpAnyH_take (i := 7) (oi := { dst := some 14, op := .fieldAddr 29 (.tmp 1) 3, type := _, pos := _, after := _, guard := some (6, true) }) (v := undef) rfl (by kernel_rfl) (by kernel_rfl) (by kernel_rfl) (fun _ _ _ h => h) (Or.inr ?_) hHeld ?_
      · exact ⟨by rfl, rfl⟩
      (try simp only [Act.put, List.setIfInBounds_toArray, List.set_cons_zero, List.set_cons_succ])
      refine wpAnyH_take (i := 8) (oi := { dst := some 15, op := .load 27 (.tmp 14), type := _, pos := _, after := _, guard := some (6, true) }) (v := undef) rfl (by kernel_rfl) (by kernel_rfl) (by kernel_rfl) (fun _ _ _ h => h) (Or.inr ?_) hHeld ?_
      · exact ⟨by rfl, rfl⟩
      (try simp only [Act.put, List.setIfInBounds_toArray, List.set_cons_zero, List.set_cons_succ])
      refine wpAnyH_take (i := 9) (oi := { dst := some 16, op := .move (.tmp 3), type := _, pos := _, after := _, guard := some (6, true) }) (v := undef) rfl (by kernel_rfl) (by kernel_rfl) (by kernel_rfl) (fun _ _ _ h => h) (Or.inr ?_) hHeld ?_
      · exact ⟨by rfl, rfl⟩
      (try simp only [Act.put, List.setIfInBounds_toArray, List.set_cons_zero, List.set_cons_succ])
      refine wpAnyH_take (i := 10) (oi := { dst := some 17, op := .binOp .sub 3 (.tmp 16) (.const (.int .i64 1)) 3, type := _, pos := _, after := _, guard := some (6, true) }) (v := undef) rfl (by kernel_rfl) (by kernel_rfl) (by kernel_rfl) (fun _ _ _ h => h) (Or.inr ?_) hHeld ?_
      · exact ⟨by rfl, rfl⟩
      (try simp only [Act.put, List.setIfInBounds_toArray, List.set_cons_zero, List.set_cons_succ])
      refine wpAnyH_take (i := 11) (oi := { dst := some 18, op := .indexAddr 27 (.tmp 15) (.tmp 17), type := _, pos := _, after := _, guard := some (6, true) }) (v := undef) rfl (by kernel_rfl) (by kernel_rfl) (by kernel_rfl) (fun _ _ _ h => h) (Or.inr ?_) hHeld ?_
      · exact ⟨by rfl, rfl⟩
      (try simp only [Act.put, List.setIfInBounds_toArray, List.set_cons_zero, List.set_cons_succ])
      refine wpAnyH_take (i := 12) (oi := { dst := some 19, op := .load 3 (.tmp 18), type := _, pos := _, after := _, guard := some (6, true) }) (v := undef) rfl (by kernel_rfl) (by kernel_rfl) (by kernel_rfl) (fun _ _ _ h => h) (Or.inr ?_) hHeld ?_
      · exact ⟨by rfl, rfl⟩
      (try simp only [Act.put, List.setIfInBounds_toArray, List.set_cons_zero, List.set_cons_succ])
      refine wpAnyH_take (i := 13) (oi := { dst := some 20, op := .fieldAddr 29 (.tmp 1) 2, type := _, pos := _, after := _, guard := some (6, true) }) (v := undef) rfl (by kernel_rfl) (by kernel_rfl) (by kernel_rfl) (fun _ _ _ h => h) (Or.inr ?_) hHeld ?_
      · exact ⟨by rfl, rfl⟩
      (try simp only [Act.put, List.setIfInBounds_toArray, List.set_cons_zero, List.set_cons_succ])
      refine wpAnyH_take (i := 14) (oi := { dst := some 21, op := .load 27 (.tmp 20), type := _, pos := _, after := _, guard := some (6, true) }) (v := undef) rfl (by kernel_rfl) (by kernel_rfl) (by kernel_rfl) (fun _ _ _ h => h) (Or.inr ?_) hHeld ?_
      · exact ⟨by rfl, rfl⟩
      (try simp only [Act.put, List.setIfInBounds_toArray, List.set_cons_zero, List.set_cons_succ])
      refine wpAnyH_take (i := 15) (oi := { dst := some 22, op := .move (.tmp 3), type := _, pos := _, after := _, guard := some (6, true) }) (v := undef) rfl (by kernel_rfl) (by kernel_rfl) (by kernel_rfl) (fun _ _ _ h => h) (Or.inr ?_) hHeld ?_
      · exact ⟨by rfl, rfl⟩
      (try simp only [Act.put, List.setIfInBounds_toArray, List.set_cons_zero, List.set_cons_succ])
      refine wpAnyH_take (i := 16) (oi := { dst := some 23, op := .binOp .sub 3 (.tmp 22) (.const (.int .i64 1)) 3, type := _, pos := _, after := _, guard := some (6, true) }) (v := undef) rfl (by kernel_rfl) (by kernel_rfl) (by kernel_rfl) (fun _ _ _ h => h) (Or.inr ?_) hHeld ?_
      · exact ⟨by rfl, rfl⟩
      (try simp only [Act.put, List.setIfInBounds_toArray, List.set_cons_zero, List.set_cons_succ])
      refine wpAnyH_take (i := 17) (oi := { dst := some 24, op := .indexAddr 27 (.tmp 21) (.tmp 23), type := _, pos := _, after := _, guard := some (6, true) }) (v := undef) rfl (by kernel_rfl) (by kernel_rfl) (by kernel_rfl) (fun _ _ _ h => h) (Or.inr ?_) hHeld ?_
      · exact ⟨by rfl, rfl⟩
      (try simp only [Act.put, List.setIfInBounds_toArray, List.set_cons_zero, List.set_cons_succ])
      refine wpAnyH_take (i := 18) (oi := { dst := some 25, op := .load 3 (.tmp 24), type := _, pos := _, after := _, guard := some (6, true) }) (v := undef) rfl (by kernel_rfl) (by kernel_rfl) (by kernel_rfl) (fun _ _ _ h => h) (Or.inr ?_) hHeld ?_
      · exact ⟨by rfl, rfl⟩
      (try simp only [Act.put, List.setIfInBounds_toArray, List.set_cons_zero, List.set_cons_succ])
      refine wpAnyH_take (i := 19) (oi := { dst := some 26, op := .binOp .eql 3 (.tmp 19) (.tmp 25) 3, type := _, pos := _, after := _, guard := some (6, true) }) (v := undef) rfl (by kernel_rfl) (by kernel_rfl) (by kernel_rfl) (fun _ _ _ h => h) (Or.inr ?_) hHeld ?_
      · exact ⟨by rfl, rfl⟩
      (try simp only [Act.put, List.setIfInBounds_toArray, List.set_cons_zero, List.set_cons_succ])
      refine wpAnyH_take (i := 20) (oi := { dst := some 27, op := .pick (.tmp 13) (.tmp 26) (.const (.bool false)), type := _, pos := _, after := _, guard := none }) (v := ?_) rfl (by kernel_rfl) (by kernel_rfl) (by kernel_rfl) (fun _ _ _ h => h) ?_ hHeld ?_
      rotate_left
      · (refine Or.inl ⟨by rfl, fun w hSw => ?_⟩; (try dsimp only at hSw); go_simp; (try with_reducible rfl))
      (try simp only [Act.put, List.setIfInBounds_toArray, List.set_cons_zero, List.set_cons_succ])
      refine wpAnyH_take (i := 21) (oi := { dst := some 2, op := .assign (.tmp 27), type := _, pos := _, after := _, guard := none }) (v := ?_) rfl (by kernel_rfl) (by kernel_rfl) (by kernel_rfl) (fun _ _ _ h => h) ?_ hHeld ?_
      rotate_left
      · (refine Or.inl ⟨by rfl, fun w hSw => ?_⟩; (try dsimp only at hSw); go_simp; (try with_reducible rfl))
      (try simp only [Act.put, List.setIfInBounds_toArray, List.set_cons_zero, List.set_cons_succ])
      refine wpAnyH_done (by kernel_rfl) ?_ _
      go_wp2_with fail
      go_meet
      exact ⟨by first | rfl | trivial | (rw [← HEN.out]; simp) | (simp [← HEN.out]), hHeld.2.2.2.2.2⟩
    case rest =>
    obtain ⟨rfl, hkp⟩ := hcut
    have HB5 := hid (B1.out.trans (hkp.bel.mono hz0))
    clear hkp
    go_wp2
    go_ret
    exact ⟨rfl, HB5.out⟩
  | true =>
    have VL := hid (vit_lv HV.out)
    by_cases h0 : 0 < P.length
    · have hz := (aend_yes HV.out h0).symm.trans hen
      have hkH : P.length - 1 < H.length := by have := VL.out.2.1; omega
      have HR := R.out.below (B1.out.mono hB)
      obtain ⟨bp, offp, rfl, hbp, hcp⟩ := HR.p (by omega)
      obtain ⟨bh, offh, rfl, hbh, hch⟩ := HR.h (by omega)
      have gp := hcp (P.length - 1) (by omega)
      have gh := hch (P.length - 1) hkH
      rw [← at0_get (by omega)] at gp
      rw [← at0_get hkH] at gh
      obtain ⟨pz, hpz⟩ : ∃ z, at0 P (P.length - 1) = z := ⟨_, rfl⟩
      obtain ⟨hz', hhz⟩ : ∃ z, at0 H (P.length - 1) = z := ⟨_, rfl⟩
      rw [hpz] at gp hz
      rw [hhz] at gh hz
      obtain ⟨q, hq⟩ : ∃ q, P.length - 1 = q := ⟨_, rfl⟩
      rw [hq] at gp gh hkH
      have hw : IntKind.i64.wrap ((P.length : Int) - 1) = (q : Int) := by rw [IntWalk.i64_in _ (by omega)]; omega
      have t0 : (0 : Int) < (P.length : Int) := by omega
      have t1 : decide ((0 : Int) < (P.length : Int)) = true := by simp; omega
      have t2 : (q : Int) < (P.length : Int) := by omega
      have t3 : (q : Int) < (H.length : Int) := by omega
      have t4 : (0 : Int) ≤ (q : Int) := by omega
      have hbp0 : bp < w0.heap.size := by omega
      have hbh0 : bh < w0.heap.size := by omega
      have HEN := hid (show (pz == hz') = en from by rw [← hz]; by_cases q8 : pz = hz' <;> simp [q8])
      clear HR hcp hch hpz hhz hq h0 VL hz hen
      go_enter Try.func46, Try.ntmps46
      go_upto_region 2 with fail
      rw [← HW0.out]
      go_cut [2] (fun s wx => s = .bool en ∧ Kp w0 0 wx)
      case first =>
        refine wp_region_held_drew (S := (fun w' => w'.cell? ⟨w.heap.size, 0, none⟩ = some (.int .i64 n) ∧ w'.cell? ⟨w.heap.size, 1, none⟩ = some (.slice a xss.length cap) ∧ w'.cell? ⟨w.heap.size, 2, none⟩ = some (.slice l L.length capl) ∧ w'.cell? ⟨w.heap.size, 3, none⟩ = some (.slice (some ⟨bh, offh, none⟩) H.length caph) ∧ w'.cell? ⟨w.heap.size, 4, none⟩ = some (.slice (some ⟨bp, offp, none⟩) P.length capp) ∧ w'.cell? ⟨bp, offp + q, none⟩ = some (.int .i64 pz) ∧ w'.cell? ⟨bh, offh + q, none⟩ = some (.int .i64 hz') ∧ Kp w0 0 w')) (by kernel_rfl) ⟨c0, c1, c2, c3, c4, gp, gh, (kp_refl w0).drew⟩ (fun hHeld => ?_)
        refine wpAnyH_take (i := 0) (oi := { dst := some 7, op := .load 29 (.tmp 1), type := _, pos := _, after := _, guard := none }) (v := ?_) rfl (by kernel_rfl) (by kernel_rfl) (by kernel_rfl) (fun _ _ _ h => h) ?_ hHeld ?_
        rotate_left
        · (refine Or.inl ⟨by rfl, fun w hSw => ?_⟩; (try dsimp only at hSw); go_simp; (try with_reducible rfl))
        (try simp only [Act.put, List.setIfInBounds_toArray, List.set_cons_zero, List.set_cons_succ])
        refine wpAnyH_ready (rs := [1]) (by kernel_rfl) (by simp) ?_
        refine AllReadyH.cons (o := { dst := some 8, op := .call { callee := .value (.func 20), args := #[(.tmp 7)], argTypes := #[29] }, type := _, pos := _, after := _, guard := none }) rfl (fun K hK => ?_) AllReadyH.nil
        go_simp
        (with_reducible refine (CV.out _ (B1.out.trans (hHeld.2.2.2.2.2.2.2.bel.mono hz0))).mono ?_); rintro e wU ⟨rfl, hbU⟩
        (try go_wp2_with fail)
        refine hK.out _ _ ?_ (fun hH2 => ?_)
        · exact ⟨hHeld.2.2.2.2.2.2.2.cell hbU (by omega) hHeld.1, hHeld.2.2.2.2.2.2.2.cell hbU (by omega) hHeld.2.1, hHeld.2.2.2.2.2.2.2.cell hbU (by omega) hHeld.2.2.1, hHeld.2.2.2.2.2.2.2.cell hbU (by omega) hHeld.2.2.2.1, hHeld.2.2.2.2.2.2.2.cell hbU (by omega) hHeld.2.2.2.2.1, hHeld.2.2.2.2.2.2.2.cell hbU (by omega) hHeld.2.2.2.2.2.1, hHeld.2.2.2.2.2.2.2.cell hbU (by omega) hHeld.2.2.2.2.2.2.1, hHeld.2.2.2.2.2.2.2.call hbU⟩
        clear hK K hHeld
        have hHeld := hH2
        clear hH2
        (try simp only [Act.put, List.setIfInBounds_toArray, List.set_cons_zero, List.set_cons_succ])
        refine wpAnyH_take (i := 2) (oi := { dst := some 9, op := .move (.tmp 8), type := _, pos := _, after := _, guard := none }) (v := ?_) rfl (by kernel_rfl) (by kernel_rfl) (by kernel_rfl) (fun _ _ _ h => h) ?_ hHeld ?_
        rotate_left
        · (refine Or.inl ⟨by rfl, fun w hSw => ?_⟩; (try dsimp only at hSw); go_simp; (try with_reducible rfl))
        (try simp only [Act.put, List.setIfInBounds_toArray, List.set_cons_zero, List.set_cons_succ])
        refine wpAnyH_take (i := 3) (oi := { dst := some 10, op := .move (.tmp 3), type := _, pos := _, after := _, guard := some (2, true) }) (v := ?_) rfl (by kernel_rfl) (by kernel_rfl) (by kernel_rfl) (fun _ _ _ h => h) ?_ hHeld ?_
        rotate_left
        · (refine Or.inl ⟨by rfl, fun w hSw => ?_⟩; (try dsimp only at hSw); go_simp; (try with_reducible rfl))
        (try simp only [Act.put, List.setIfInBounds_toArray, List.set_cons_zero, List.set_cons_succ])
        refine wpAnyH_take (i := 4) (oi := { dst := some 11, op := .binOp .gtr 3 (.tmp 10) (.const (.int .i64 0)) 3, type := _, pos := _, after := _, guard := some (2, true) }) (v := .bool true) rfl (by kernel_rfl) (by kernel_rfl) (by kernel_rfl) (fun _ _ _ h => h) ?_ hHeld ?_
        · (refine Or.inl ⟨by rfl, fun w hSw => ?_⟩; (try dsimp only at hSw); go_simp; (try omega))
        (try simp only [Act.put, List.setIfInBounds_toArray, List.set_cons_zero, List.set_cons_succ])
        refine wpAnyH_take (i := 5) (oi := { dst := some 12, op := .pick (.tmp 9) (.tmp 11) (.const (.bool false)), type := _, pos := _, after := _, guard := none }) (v := ?_) rfl (by kernel_rfl) (by kernel_rfl) (by kernel_rfl) (fun _ _ _ h => h) ?_ hHeld ?_
        rotate_left
        · (refine Or.inl ⟨by rfl, fun w hSw => ?_⟩; (try dsimp only at hSw); go_simp; (try with_reducible rfl))
        (try simp only [Act.put, List.setIfInBounds_toArray, List.set_cons_zero, List.set_cons_succ])
        refine wpAnyH_take (i := 6) (oi := { dst := some 13, op := .move (.tmp 12), type := _, pos := _, after := _, guard := none }) (v := ?_) rfl (by kernel_rfl) (by kernel_rfl) (by kernel_rfl) (fun _ _ _ h => h) ?_ hHeld ?_
        rotate_left
        · (refine Or.inl ⟨by rfl, fun w hSw => ?_⟩; (try dsimp only at hSw); go_simp; (try with_reducible rfl))
        (try simp only [Act.put, List.setIfInBounds_toArray, List.set_cons_zero, List.set_cons_succ])
        refine wpAnyH_take (i := 7) (oi := { dst := some 14, op := .fieldAddr 29 (.tmp 1) 3, type := _, pos := _, after := _, guard := some (6, true) }) (v := ?_) rfl (by kernel_rfl) (by kernel_rfl) (by kernel_rfl) (fun _ _ _ h => h) ?_ hHeld ?_
        rotate_left
        · (refine Or.inl ⟨by rfl, fun w hSw => ?_⟩; (try dsimp only at hSw); go_simp; (try with_reducible rfl))
        (try simp only [Act.put, List.setIfInBounds_toArray, List.set_cons_zero, List.set_cons_succ])
        refine wpAnyH_take (i := 8) (oi := { dst := some 15, op := .load 27 (.tmp 14), type := _, pos := _, after := _, guard := some (6, true) }) (v := ?_) rfl (by kernel_rfl) (by kernel_rfl) (by kernel_rfl) (fun _ _ _ h => h) ?_ hHeld ?_
        rotate_left
        · (refine Or.inl ⟨by rfl, fun w hSw => ?_⟩; (try dsimp only at hSw); go_simp; (try with_reducible rfl))
        (try simp only [Act.put, List.setIfInBounds_toArray, List.set_cons_zero, List.set_cons_succ])
        refine wpAnyH_take (i := 9) (oi := { dst := some 16, op := .move (.tmp 3), type := _, pos := _, after := _, guard := some (6, true) }) (v := ?_) rfl (by kernel_rfl) (by kernel_rfl) (by kernel_rfl) (fun _ _ _ h => h) ?_ hHeld ?_
        rotate_left
        · (refine Or.inl ⟨by rfl, fun w hSw => ?_⟩; (try dsimp only at hSw); go_simp; (try with_reducible rfl))
        (try simp only [Act.put, List.setIfInBounds_toArray, List.set_cons_zero, List.set_cons_succ])
        refine wpAnyH_take (i := 10) (oi := { dst := some 17, op := .binOp .sub 3 (.tmp 16) (.const (.int .i64 1)) 3, type := _, pos := _, after := _, guard := some (6, true) }) (v := ?_) rfl (by kernel_rfl) (by kernel_rfl) (by kernel_rfl) (fun _ _ _ h => h) ?_ hHeld ?_
        rotate_left
        · (refine Or.inl ⟨by rfl, fun w hSw => ?_⟩; (try dsimp only at hSw); go_simp; (try with_reducible rfl))
        (try simp only [Act.put, List.setIfInBounds_toArray, List.set_cons_zero, List.set_cons_succ])
        refine wpAnyH_take (i := 11) (oi := { dst := some 18, op := .indexAddr 27 (.tmp 15) (.tmp 17), type := _, pos := _, after := _, guard := some (6, true) }) (v := ?_) rfl (by kernel_rfl) (by kernel_rfl) (by kernel_rfl) (fun _ _ _ h => h) ?_ hHeld ?_
        rotate_left
        · (refine Or.inl ⟨by rfl, fun w hSw => ?_⟩; (try dsimp only at hSw); go_simp; (try with_reducible rfl))
        (try simp only [Act.put, List.setIfInBounds_toArray, List.set_cons_zero, List.set_cons_succ])
        refine wpAnyH_take (i := 12) (oi := { dst := some 19, op := .load 3 (.tmp 18), type := _, pos := _, after := _, guard := some (6, true) }) (v := ?_) rfl (by kernel_rfl) (by kernel_rfl) (by kernel_rfl) (fun _ _ _ h => h) ?_ hHeld ?_
        rotate_left
        · (refine Or.inl ⟨by rfl, fun w hSw => ?_⟩; (try dsimp only at hSw); go_simp; (try with_reducible rfl))
        (try simp only [Act.put, List.setIfInBounds_toArray, List.set_cons_zero, List.set_cons_succ])
        refine wpAnyH_take (i := 13) (oi := { dst := some 20, op := .fieldAddr 29 (.tmp 1) 2, type := _, pos := _, after := _, guard := some (6, true) }) (v := ?_) rfl (by kernel_rfl) (by kernel_rfl) (by kernel_rfl) (fun _ _ _ h => h) ?_ hHeld ?_
        rotate_left
        · (refine Or.inl ⟨by rfl, fun w hSw => ?_⟩; (try dsimp only at hSw); go_simp; (try with_reducible rfl))
        (try simp only [Act.put, List.setIfInBounds_toArray, List.set_cons_zero, List.set_cons_succ])
        refine wpAnyH_take (i := 14) (oi := { dst := some 21, op := .load 27 (.tmp 20), type := _, pos := _, after := _, guard := some (6, true) }) (v := ?_) rfl (by kernel_rfl) (by kernel_rfl) (by kernel_rfl) (fun _ _ _ h => h) ?_ hHeld ?_
        rotate_left
        · (refine Or.inl ⟨by rfl, fun w hSw => ?_⟩; (try dsimp only at hSw); go_simp; (try with_reducible rfl))
        (try simp only [Act.put, List.setIfInBounds_toArray, List.set_cons_zero, List.set_cons_succ])
        refine wpAnyH_take (i := 15) (oi := { dst := some 22, op := .move (.tmp 3), type := _, pos := _, after := _, guard := some (6, true) }) (v := ?_) rfl (by kernel_rfl) (by kernel_rfl) (by kernel_rfl) (fun _ _ _ h => h) ?_ hHeld ?_
        rotate_left
        · (refine Or.inl ⟨by rfl, fun w hSw => ?_⟩; (try dsimp only at hSw); go_simp; (try with_reducible rfl))
        (try simp only [Act.put, List.setIfInBounds_toArray, List.set_cons_zero, List.set_cons_succ])
        refine wpAnyH_take (i := 16) (oi := { dst := some 23, op := .binOp .sub 3 (.tmp 22) (.const (.int .i64 1)) 3, type := _, pos := _, after := _, guard := some (6, true) }) (v := ?_) rfl (by kernel_rfl) (by kernel_rfl) (by kernel_rfl) (fun _ _ _ h => h) ?_ hHeld ?_
        rotate_left
        · (refine Or.inl ⟨by rfl, fun w hSw => ?_⟩; (try dsimp only at hSw); go_simp; (try with_reducible rfl))
        (try simp only [Act.put, List.setIfInBounds_toArray, List.set_cons_zero, List.set_cons_succ])
        refine wpAnyH_take (i := 17) (oi := { dst := some 24, op := .indexAddr 27 (.tmp 21) (.tmp 23), type := _, pos := _, after := _, guard := some (6, true) }) (v := ?_) rfl (by kernel_rfl) (by kernel_rfl) (by kernel_rfl) (fun _ _ _ h => h) ?_ hHeld ?_
        rotate_left
        · (refine Or.inl ⟨by rfl, fun w hSw => ?_⟩; (try dsimp only at hSw); go_simp; (try with_reducible rfl))
        (try simp only [Act.put, List.setIfInBounds_toArray, List.set_cons_zero, List.set_cons_succ])
        refine wpAnyH_take (i := 18) (oi := { dst := some 25, op := .load 3 (.tmp 24), type := _, pos := _, after := _, guard := some (6, true) }) (v := ?_) rfl (by kernel_rfl) (by kernel_rfl) (by kernel_rfl) (fun _ _ _ h => h) ?_ hHeld ?_
        rotate_left
        · (refine Or.inl ⟨by rfl, fun w hSw => ?_⟩; (try dsimp only at hSw); go_simp; (try with_reducible rfl))
        (try simp only [Act.put, List.setIfInBounds_toArray, List.set_cons_zero, List.set_cons_succ])
        refine wpAnyH_take (i := 19) (oi := { dst := some 26, op := .binOp .eql 3 (.tmp 19) (.tmp 25) 3, type := _, pos := _, after := _, guard := some (6, true) }) (v := ?_) rfl (by kernel_rfl) (by kernel_rfl) (by kernel_rfl) (fun _ _ _ h => h) ?_ hHeld ?_
        rotate_left
        · (refine Or.inl ⟨by rfl, fun w hSw => ?_⟩; (try dsimp only at hSw); go_simp; (try with_reducible rfl))
        (try simp only [Act.put, List.setIfInBounds_toArray, List.set_cons_zero, List.set_cons_succ])
        refine wpAnyH_take (i := 20) (oi := { dst := some 27, op := .pick (.tmp 13) (.tmp 26) (.const (.bool false)), type := _, pos := _, after := _, guard := none }) (v := ?_) rfl (by kernel_rfl) (by kernel_rfl) (by kernel_rfl) (fun _ _ _ h => h) ?_ hHeld ?_
        rotate_left
        · (refine Or.inl ⟨by rfl, fun w hSw => ?_⟩; (try dsimp only at hSw); go_simp; (try with_reducible rfl))
        (try simp only [Act.put, List.setIfInBounds_toArray, List.set_cons_zero, List.set_cons_succ])
        refine wpAnyH_take (i := 21) (oi := { dst := some 2, op := .assign (.tmp 27), type := _, pos := _, after := _, guard := none }) (v := ?_) rfl (by kernel_rfl) (by kernel_rfl) (by kernel_rfl) (fun _ _ _ h => h) ?_ hHeld ?_
        rotate_left
        · (refine Or.inl ⟨by rfl, fun w hSw => ?_⟩; (try dsimp only at hSw); go_simp; (try with_reducible rfl))
        (try simp only [Act.put, List.setIfInBounds_toArray, List.set_cons_zero, List.set_cons_succ])
        refine wpAnyH_done (by kernel_rfl) ?_ _
        go_wp2_with fail
        go_meet
        exact ⟨by first | rfl | trivial | (rw [← HEN.out]; simp) | (simp [← HEN.out]), hHeld.2.2.2.2.2.2.2⟩
      case rest =>
      obtain ⟨rfl, hkp⟩ := hcut
      have HB5 := hid (B1.out.trans (hkp.bel.mono hz0))
      clear hkp
      go_wp2
      go_ret
      exact ⟨rfl, HB5.out⟩
    · obtain rfl : false = en := (aend_nil (n := n) (xss := xss) (L := L) (H := H) (P := P) (by omega)).symm.trans hen
      have t0 : ¬ (0 : Int) < (P.length : Int) := by omega
      have t1 : decide ((0 : Int) < (P.length : Int)) = false := decide_eq_false (by omega)
      have t2 : decide (0 < P.length) = false := decide_eq_false (by omega)
      clear VL hen
      go_enter Try.func46, Try.ntmps46
      go_upto_region 2 with fail
      rw [← HW0.out]
      go_cut [2] (fun s wx => s = .bool false ∧ Kp w0 0 wx)
      case first =>
        refine wp_region_held_drew (S := (fun w' => w'.cell? ⟨w.heap.size, 0, none⟩ = some (.int .i64 n) ∧ w'.cell? ⟨w.heap.size, 1, none⟩ = some (.slice a xss.length cap) ∧ w'.cell? ⟨w.heap.size, 2, none⟩ = some (.slice l L.length capl) ∧ w'.cell? ⟨w.heap.size, 3, none⟩ = some (.slice h H.length caph) ∧ w'.cell? ⟨w.heap.size, 4, none⟩ = some (.slice p P.length capp) ∧ Kp w0 0 w')) (by kernel_rfl) ⟨c0, c1, c2, c3, c4, (kp_refl w0).drew⟩ (fun hHeld => ?_)
        refine wpAnyH_take (i := 0) (oi := { dst := some 7, op := .load 29 (.tmp 1), type := _, pos := _, after := _, guard := none }) (v := ?_) rfl (by kernel_rfl) (by kernel_rfl) (by kernel_rfl) (fun _ _ _ h => h) ?_ hHeld ?_
        rotate_left
        · (refine Or.inl ⟨by rfl, fun w hSw => ?_⟩; (try dsimp only at hSw); go_simp; (try with_reducible rfl))
        (try simp only [Act.put, List.setIfInBounds_toArray, List.set_cons_zero, List.set_cons_succ])
        refine wpAnyH_ready (rs := [1]) (by kernel_rfl) (by simp) ?_
        refine AllReadyH.cons (o := { dst := some 8, op := .call { callee := .value (.func 20), args := #[(.tmp 7)], argTypes := #[29] }, type := _, pos := _, after := _, guard := none }) rfl (fun K hK => ?_) AllReadyH.nil
        go_simp
        (with_reducible refine (CV.out _ (B1.out.trans (hHeld.2.2.2.2.2.bel.mono hz0))).mono ?_); rintro e wU ⟨rfl, hbU⟩
        (try go_wp2_with fail)
        refine hK.out _ _ ?_ (fun hH2 => ?_)
        · exact ⟨hHeld.2.2.2.2.2.cell hbU (by omega) hHeld.1, hHeld.2.2.2.2.2.cell hbU (by omega) hHeld.2.1, hHeld.2.2.2.2.2.cell hbU (by omega) hHeld.2.2.1, hHeld.2.2.2.2.2.cell hbU (by omega) hHeld.2.2.2.1, hHeld.2.2.2.2.2.cell hbU (by omega) hHeld.2.2.2.2.1, hHeld.2.2.2.2.2.call hbU⟩
        clear hK K hHeld
        have hHeld := hH2
        clear hH2
        (try simp only [Act.put, List.setIfInBounds_toArray, List.set_cons_zero, List.set_cons_succ])
        refine wpAnyH_take (i := 2) (oi := { dst := some 9, op := .move (.tmp 8), type := _, pos := _, after := _, guard := none }) (v := ?_) rfl (by kernel_rfl) (by kernel_rfl) (by kernel_rfl) (fun _ _ _ h => h) ?_ hHeld ?_
        rotate_left
        · (refine Or.inl ⟨by rfl, fun w hSw => ?_⟩; (try dsimp only at hSw); go_simp; (try with_reducible rfl))
        (try simp only [Act.put, List.setIfInBounds_toArray, List.set_cons_zero, List.set_cons_succ])
        refine wpAnyH_take (i := 3) (oi := { dst := some 10, op := .move (.tmp 3), type := _, pos := _, after := _, guard := some (2, true) }) (v := ?_) rfl (by kernel_rfl) (by kernel_rfl) (by kernel_rfl) (fun _ _ _ h => h) ?_ hHeld ?_
        rotate_left
        · (refine Or.inl ⟨by rfl, fun w hSw => ?_⟩; (try dsimp only at hSw); go_simp; (try with_reducible rfl))
        (try simp only [Act.put, List.setIfInBounds_toArray, List.set_cons_zero, List.set_cons_succ])
        refine wpAnyH_take (i := 4) (oi := { dst := some 11, op := .binOp .gtr 3 (.tmp 10) (.const (.int .i64 0)) 3, type := _, pos := _, after := _, guard := some (2, true) }) (v := .bool false) rfl (by kernel_rfl) (by kernel_rfl) (by kernel_rfl) (fun _ _ _ h => h) ?_ hHeld ?_
        · (refine Or.inl ⟨by rfl, fun w hSw => ?_⟩; (try dsimp only at hSw); go_simp; (try omega))
        (try simp only [Act.put, List.setIfInBounds_toArray, List.set_cons_zero, List.set_cons_succ])
        refine wpAnyH_take (i := 5) (oi := { dst := some 12, op := .pick (.tmp 9) (.tmp 11) (.const (.bool false)), type := _, pos := _, after := _, guard := none }) (v := ?_) rfl (by kernel_rfl) (by kernel_rfl) (by kernel_rfl) (fun _ _ _ h => h) ?_ hHeld ?_
        rotate_left
        · (refine Or.inl ⟨by rfl, fun w hSw => ?_⟩; (try dsimp only at hSw); go_simp; (try with_reducible rfl))
        (try simp only [Act.put, List.setIfInBounds_toArray, List.set_cons_zero, List.set_cons_succ])
        refine wpAnyH_take (i := 6) (oi := { dst := some 13, op := .move (.tmp 12), type := _, pos := _, after := _, guard := none }) (v := ?_) rfl (by kernel_rfl) (by kernel_rfl) (by kernel_rfl) (fun _ _ _ h => h) ?_ hHeld ?_
        rotate_left
        · (refine Or.inl ⟨by rfl, fun w hSw => ?_⟩; (try dsimp only at hSw); go_simp; (try with_reducible rfl))
        (try simp only [Act.put, List.setIfInBounds_toArray, List.set_cons_zero, List.set_cons_succ])
        refine wpAnyH_take (i := 7) (oi := { dst := some 14, op := .fieldAddr 29 (.tmp 1) 3, type := _, pos := _, after := _, guard := some (6, true) }) (v := undef) rfl (by kernel_rfl) (by kernel_rfl) (by kernel_rfl) (fun _ _ _ h => h) (Or.inr ?_) hHeld ?_
        · exact ⟨by rfl, rfl⟩
        (try simp only [Act.put, List.setIfInBounds_toArray, List.set_cons_zero, List.set_cons_succ])
        refine wpAnyH_take (i := 8) (oi := { dst := some 15, op := .load 27 (.tmp 14), type := _, pos := _, after := _, guard := some (6, true) }) (v := undef) rfl (by kernel_rfl) (by kernel_rfl) (by kernel_rfl) (fun _ _ _ h => h) (Or.inr ?_) hHeld ?_
        · exact ⟨by rfl, rfl⟩
        (try simp only [Act.put, List.setIfInBounds_toArray, List.set_cons_zero, List.set_cons_succ])
        refine wpAnyH_take (i := 9) (oi := { dst := some 16, op := .move (.tmp 3), type := _, pos := _, after := _, guard := some (6, true) }) (v := undef) rfl (by kernel_rfl) (by kernel_rfl) (by kernel_rfl) (fun _ _ _ h => h) (Or.inr ?_) hHeld ?_
        · exact ⟨by rfl, rfl⟩
        (try simp only [Act.put, List.setIfInBounds_toArray, List.set_cons_zero, List.set_cons_succ])
        refine wpAnyH_take (i := 10) (oi := { dst := some 17, op := .binOp .sub 3 (.tmp 16) (.const (.int .i64 1)) 3, type := _, pos := _, after := _, guard := some (6, true) }) (v := undef) rfl (by kernel_rfl) (by kernel_rfl) (by kernel_rfl) (fun _ _ _ h => h) (Or.inr ?_) hHeld ?_
        · exact ⟨by rfl, rfl⟩
        (try simp only [Act.put, List.setIfInBounds_toArray, List.set_cons_zero, List.set_cons_succ])
        refine wpAnyH_take (i := 11) (oi := { dst := some 18, op := .indexAddr 27 (.tmp 15) (.tmp 17), type := _, pos := _, after := _, guard := some (6, true) }) (v := undef) rfl (by kernel_rfl) (by kernel_rfl) (by kernel_rfl) (fun _ _ _ h => h) (Or.inr ?_) hHeld ?_
        · exact ⟨by rfl, rfl⟩
        (try simp only [Act.put, List.setIfInBounds_toArray, List.set_cons_zero, List.set_cons_succ])
        refine wpAnyH_take (i := 12) (oi := { dst := some 19, op := .load 3 (.tmp 18), type := _, pos := _, after := _, guard := some (6, true) }) (v := undef) rfl (by kernel_rfl) (by kernel_rfl) (by kernel_rfl) (fun _ _ _ h => h) (Or.inr ?_) hHeld ?_
        · exact ⟨by rfl, rfl⟩
        (try simp only [Act.put, List.setIfInBounds_toArray, List.set_cons_zero, List.set_cons_succ])
        refine wpAnyH_take (i := 13) (oi := { dst := some 20, op := .fieldAddr 29 (.tmp 1) 2, type := _, pos := _, after := _, guard := some (6, true) }) (v := undef) rfl (by kernel_rfl) (by kernel_rfl) (by kernel_rfl) (fun _ _ _ h => h) (Or.inr ?_) hHeld ?_
        · exact ⟨by rfl, rfl⟩
        (try simp only [Act.put, List.setIfInBounds_toArray, List.set_cons_zero, List.set_cons_succ])
        refine wpAnyH_take (i := 14) (oi := { dst := some 21, op := .load 27 (.tmp 20), type := _, pos := _, after := _, guard := some (6, true) }) (v := undef) rfl (by kernel_rfl) (by kernel_rfl) (by kernel_rfl) (fun _ _ _ h => h) (Or.inr ?_) hHeld ?_
        · exact ⟨by rfl, rfl⟩
        (try simp only [Act.put, List.setIfInBounds_toArray, List.set_cons_zero, List.set_cons_succ])
        refine wpAnyH_take (i := 15) (oi := { dst := some 22, op := .move (.tmp 3), type := _, pos := _, after := _, guard := some (6, true) }) (v := undef) rfl (by kernel_rfl) (by kernel_rfl) (by kernel_rfl) (fun _ _ _ h => h) (Or.inr ?_) hHeld ?_
        · exact ⟨by rfl, rfl⟩
        (try simp only [Act.put, List.setIfInBounds_toArray, List.set_cons_zero, List.set_cons_succ])
        refine wpAnyH_take (i := 16) (oi := { dst := some 23, op := .binOp .sub 3 (.tmp 22) (.const (.int .i64 1)) 3, type := _, pos := _, after := _, guard := some (6, true) }) (v := undef) rfl (by kernel_rfl) (by kernel_rfl) (by kernel_rfl) (fun _ _ _ h => h) (Or.inr ?_) hHeld ?_
        · exact ⟨by rfl, rfl⟩
        (try simp only [Act.put, List.setIfInBounds_toArray, List.set_cons_zero, List.set_cons_succ])
        refine wpAnyH_take (i := 17) (oi := { dst := some 24, op := .indexAddr 27 (.tmp 21) (.tmp 23), type := _, pos := _, after := _, guard := some (6, true) }) (v := undef) rfl (by kernel_rfl) (by kernel_rfl) (by kernel_rfl) (fun _ _ _ h => h) (Or.inr ?_) hHeld ?_
        · exact ⟨by rfl, rfl⟩
        (try simp only [Act.put, List.setIfInBounds_toArray, List.set_cons_zero, List.set_cons_succ])
        refine wpAnyH_take (i := 18) (oi := { dst := some 25, op := .load 3 (.tmp 24), type := _, pos := _, after := _, guard := some (6, true) }) (v := undef) rfl (by kernel_rfl) (by kernel_rfl) (by kernel_rfl) (fun _ _ _ h => h) (Or.inr ?_) hHeld ?_
        · exact ⟨by rfl, rfl⟩
        (try simp only [Act.put, List.setIfInBounds_toArray, List.set_cons_zero, List.set_cons_succ])
        refine wpAnyH_take (i := 19) (oi := { dst := some 26, op := .binOp .eql 3 (.tmp 19) (.tmp 25) 3, type := _, pos := _, after := _, guard := some (6, true) }) (v := undef) rfl (by kernel_rfl) (by kernel_rfl) (by kernel_rfl) (fun _ _ _ h => h) (Or.inr ?_) hHeld ?_
        · exact ⟨by rfl, rfl⟩
        (try simp only [Act.put, List.setIfInBounds_toArray, List.set_cons_zero, List.set_cons_succ])
        refine wpAnyH_take (i := 20) (oi := { dst := some 27, op := .pick (.tmp 13) (.tmp 26) (.const (.bool false)), type := _, pos := _, after := _, guard := none }) (v := ?_) rfl (by kernel_rfl) (by kernel_rfl) (by kernel_rfl) (fun _ _ _ h => h) ?_ hHeld ?_
        rotate_left
        · (refine Or.inl ⟨by rfl, fun w hSw => ?_⟩; (try dsimp only at hSw); go_simp; (try with_reducible rfl))
        (try simp only [Act.put, List.setIfInBounds_toArray, List.set_cons_zero, List.set_cons_succ])
        refine wpAnyH_take (i := 21) (oi := { dst := some 2, op := .assign (.tmp 27), type := _, pos := _, after := _, guard := none }) (v := ?_) rfl (by kernel_rfl) (by kernel_rfl) (by kernel_rfl) (fun _ _ _ h => h) ?_ hHeld ?_
        rotate_left
        · (refine Or.inl ⟨by rfl, fun w hSw => ?_⟩; (try dsimp only at hSw); go_simp; (try with_reducible rfl))
        (try simp only [Act.put, List.setIfInBounds_toArray, List.set_cons_zero, List.set_cons_succ])
        refine wpAnyH_done (by kernel_rfl) ?_ _
        go_wp2_with fail
        go_meet
        exact ⟨by first | rfl | trivial | (rw [← HEN.out]; simp) | (simp [← HEN.out]), hHeld.2.2.2.2.2⟩
      case rest =>
      obtain ⟨rfl, hkp⟩ := hcut
      have HB5 := hid (B1.out.trans (hkp.bel.mono hz0))
      clear hkp
      go_wp2
      go_ret
      exact ⟨rfl, HB5.out⟩

theorem cur_no {n : Int} {xss : List (List Int)} {L H P : List Int} (h : curOk n xss L H P = false) : curV n xss L H P = 0 := if_neg (by simp [h])
theorem cur_yes {n : Int} {xss : List (List Int)} {L H P : List Int} (h : curOk n xss L H P = true) : curV n xss L H P = kAt xss P (P.length - 1) := if_pos h

set_option maxRecDepth 100000 in
set_option maxHeartbeats 4000000 in
theorem impl_cur (n : Int) (a l h p : Option Addr) (cap capl caph capp : Nat) (xss : List (List Int)) (L H P : List Int) (B : Nat) (w : World) (hs : szI xss L H P ≤ 1048576) (r : ItRd w B a l h p cap capl caph capp xss L H P) (hB : B ≤ w.heap.size) :
    Calls Try.prog 26 #[.agg #[.int .i64 n, .slice a xss.length cap, .slice l L.length capl, .slice h H.length caph, .slice p P.length capp]] w fun e w' => e = .returned (.tuple #[.int .i64 (curV n xss L H P), .bool (curOk n xss L H P)]) ∧ Below w.heap.size w w' := by
  obtain ⟨n1, nl, nx, n3, n4, n5, _, _⟩ := szI_parts hs
  have B1 := hid ((Below.refl w.heap.size w).alloc (Nat.le_refl _) (.cells #[.int .i64 n, .slice a xss.length cap, .slice l L.length capl, .slice h H.length caph, .slice p P.length capp] 29))
  have K0 := hid (hasl_new w [.int .i64 n, .slice a xss.length cap, .slice l L.length capl, .slice h H.length caph, .slice p P.length capp] 29)
  have R := hid r
  have HS := hid hs
  have NX := hid nx
  have CP := hid (impl_path n a l h p cap capl caph capp xss L H P B _ HS.out (R.out.below (B1.out.mono hB)) (Nat.le_trans hB B1.out.size))
  have hpl := path_len n xss L H P
  have hcp := cur_path (n := n) (xss := xss) (L := L) (H := H) (P := P)
  obtain ⟨ok, hok⟩ : ∃ z, curOk n xss L H P = z := ⟨_, rfl⟩
  obtain ⟨cv, hcv⟩ : ∃ z, curV n xss L H P = z := ⟨_, rfl⟩
  rw [hok] at hcp
  rw [hok, hcv]
  have HOK := hid hok
  have HCV := hid hcv
  obtain ⟨zs, hzs⟩ : ∃ z, pathN n xss L H P = z := ⟨_, rfl⟩
  rw [hzs] at CP hcp hpl
  have HZ := hid hzs
  have hml : zs.length ≤ 1048576 := by omega
  obtain ⟨c0, c1, c2, c3, c4, _, _, _, _, _, z0⟩ := five K0.out
  clear r hs nx hok hcv hzs
  have HCP := hid hcp
  clear hcp
  go_enter Try.func26, Try.ntmps26
  go_wp2_with fail
  with_reducible refine CP.out.mono ?_
  rintro e w1 ⟨a5, c5, rfl, hown, hb⟩
  have BB := hid (B1.out.trans (hb.mono B1.out.size))
  replace K0 := hid (K0.out.below hb)
  have HO := hid hown
  clear c0 c1 c2 c3 c4 z0 hb hown CP
  obtain ⟨c0, c1, c2, c3, c4, _, _, _, _, _, z0⟩ := five K0.out
  by_cases h0 : 0 < zs.length
  · have t0 : ((zs.length : Int) == 0) = false := by simp; intro e; simp [e] at h0
    by_cases h1 : zs.length < P.length
    · have t1 : (zs.length : Int) < (P.length : Int) := by omega
      have hf : false = ok := by rw [HCP.out]; simp; intro _; omega
      subst hf
      obtain rfl : 0 = cv := (cur_no HOK.out).symm.trans HCV.out
      go_wp2
      go_ret2
      exact ⟨rfl, BB.out⟩
    · have t1 : ¬ (zs.length : Int) < (P.length : Int) := by omega
      have hf : true = ok := by rw [HCP.out]; simp; omega
      subst hf
      obtain ⟨hl, hl2, hlast⟩ := cur_last HOK.out
      have hcv := (cur_yes HOK.out).symm.trans HCV.out
      have hrd := own_rd HO.out
      obtain ⟨b5, off5, rfl, _, hc5⟩ := hrd h0
      have hzl : zs.length = P.length := by rw [← HZ.out]; exact hl
      have g5 := hc5 (P.length - 1) (by omega)
      have hlast2 : zs[P.length - 1]'(by omega) = cv := by
        have h5 : zs[P.length - 1]'(by omega) = (pathN n xss L H P)[P.length - 1] := by congr 1; exact HZ.out.symm
        rw [h5, hlast, hcv]
      rw [hlast2] at g5
      obtain ⟨q, hq⟩ : ∃ q, P.length - 1 = q := ⟨_, rfl⟩
      rw [hq] at g5
      have hw : IntKind.i64.wrap ((zs.length : Int) - 1) = (q : Int) := by rw [IntWalk.i64_in _ (by omega)]; omega
      have t2 : (q : Int) < (zs.length : Int) := by omega
      have t4 : (0 : Int) ≤ (q : Int) := by omega
      clear hrd hc5 hl hl2 hlast hlast2 hcv hzl hq
      go_wp2
      go_ret2
      exact ⟨rfl, BB.out⟩
  · have hz : zs = [] := List.eq_nil_of_length_eq_zero (by omega)
    have hf : false = ok := by rw [HCP.out, hz]; simp
    subst hf
    subst hz
    obtain rfl : 0 = cv := (cur_no HOK.out).symm.trans HCV.out
    have t0 : ((([] : List Int).length : Int) == 0) = true := rfl
    go_wp2
    go_ret2
    exact ⟨rfl, BB.out⟩

set_option maxRecDepth 100000 in
set_option maxHeartbeats 4000000 in
theorem spec_cur (n : Int) (a l h p : Option Addr) (cap capl caph capp : Nat) (xss : List (List Int)) (L H P : List Int) (B : Nat) (w : World) (hs : szI xss L H P ≤ 1048576) (r : ItRd w B a l h p cap capl caph capp xss L H P) (hB : B ≤ w.heap.size) :
    Calls Try.prog 47 #[.agg #[.int .i64 n, .slice a xss.length cap, .slice l L.length capl, .slice h H.length caph, .slice p P.length capp]] w fun e w' => e = .returned (.tuple #[.int .i64 (curV n xss L H P), .bool (curOk n xss L H P)]) ∧ Below w.heap.size w w' := by
  obtain ⟨n1, nl, nx, n3, n4, n5, _, _⟩ := szI_parts hs
  have B1 := hid ((Below.refl w.heap.size w).alloc (Nat.le_refl _) (.cells #[.int .i64 n, .slice a xss.length cap, .slice l L.length capl, .slice h H.length caph, .slice p P.length capp] 29))
  have K0 := hid (hasl_new w [.int .i64 n, .slice a xss.length cap, .slice l L.length capl, .slice h H.length caph, .slice p P.length capp] 29)
  have R := hid r
  have HS := hid hs
  have NX := hid nx
  have V := hid (spec_vit n a l h p cap capl caph capp xss L H P B _ HS.out (R.out.below (B1.out.mono hB)) (Nat.le_trans hB B1.out.size))
  have CE := hid (fun W (hW : Below w.heap.size w W) => spec_end n a l h p cap capl caph capp xss L H P B W HS.out (R.out.below (hW.mono hB)) (Nat.le_trans hB hW.size))
  obtain ⟨v, hv⟩ : ∃ v, vit n xss L H P = v := ⟨_, rfl⟩
  rw [hv] at V
  have HV := hid hv
  obtain ⟨ok, hok⟩ : ∃ z, curOk n xss L H P = z := ⟨_, rfl⟩
  obtain ⟨cv, hcv⟩ : ∃ z, curV n xss L H P = z := ⟨_, rfl⟩
  rw [hok, hcv]
  have HOK := hid hok
  have HCV := hid hcv
  have NO := hid (fun (h : false = ok) => show 0 = cv from (cur_no (HOK.out.trans h.symm)).symm.trans HCV.out)
  obtain ⟨c0, c1, c2, c3, c4, _, _, _, _, _, z0⟩ := five K0.out
  clear r hs nx hv hok hcv
  go_enter Try.func47, Try.ntmps47
  go_wp2_with fail
  with_reducible refine V.out.mono ?_
  rintro e w1 ⟨rfl, hb⟩
  have BB := hid (B1.out.trans (hb.mono B1.out.size))
  replace K0 := hid (K0.out.below hb)
  clear c0 c1 c2 c3 c4 z0 hb V
  obtain ⟨c0, c1, c2, c3, c4, _, _, _, _, _, z0⟩ := five K0.out
  cases v with
  | false =>
    obtain rfl : false = ok := by rw [← HOK.out]; simp [curOk, HV.out]
    obtain rfl : 0 = cv := NO.out rfl
    go_wp2
    go_ret2
    exact ⟨rfl, BB.out⟩
  | true =>
    by_cases h0 : P.length = 0
    · have t0 : ((P.length : Int) == 0) = true := by simp [h0]
      obtain rfl : false = ok := by rw [← HOK.out]; simp [curOk, h0]
      obtain rfl : 0 = cv := NO.out rfl
      clear h0
      go_wp2
      go_ret2
      exact ⟨rfl, BB.out⟩
    · have t0 : ((P.length : Int) == 0) = false := by simp; intro e; simp [e] at h0
      have C := hid (CE.out w1 BB.out)
      obtain ⟨en, hen⟩ : ∃ z, aend n xss L H P = z := ⟨_, rfl⟩
      rw [hen] at C
      have HEN := hid hen
      clear hen
      have h0' : 0 < P.length := by omega
      clear h0
      go_wp2_with fail
      with_reducible refine C.out.mono ?_
      rintro e w2 ⟨rfl, hb⟩
      have B2 := hid (BB.out.trans (hb.mono BB.out.size))
      have K1 := hid (K0.out.below hb)
      clear c0 c1 c2 c3 c4 z0 hb C
      obtain ⟨c0, c1, c2, c3, c4, _, _, _, _, _, z0⟩ := five K1.out
      cases en with
      | true =>
        obtain rfl : false = ok := by rw [← HOK.out]; simp [curOk, HEN.out]
        obtain rfl : 0 = cv := NO.out rfl
        go_wp2
        go_ret2
        exact ⟨rfl, B2.out⟩
      | false =>
        obtain rfl : true = ok := by rw [← HOK.out]; simp [curOk, HEN.out, HV.out, h0']
        have hcv := (cur_yes HOK.out).symm.trans HCV.out
        obtain ⟨_, _, _, hlt⟩ := cur_parts HOK.out
        obtain ⟨hH, _, m, hm, htr, hpm, hlv, hlev⟩ := vit_lv HV.out
        obtain ⟨lo, pp, e, hp, he, h1, h2, h3, _, _, hr⟩ := hlev (P.length - 1) (by omega)
        have HR2 := R.out.below (B2.out.mono hB)
        obtain ⟨bp, offp, rfl, hbp, hcp⟩ := HR2.p (by omega)
        have gp := hcp (P.length - 1) (by omega)
        rw [← at0_get (by omega), hp] at gp
        have hpe : pp < e := by omega
        obtain ⟨b0, off, rfl, hb0, hc⟩ := HR2.t (by omega)
        obtain ⟨a1, cap1, g1, ro1⟩ := hc pp (by omega)
        obtain ⟨br1, offr1, rfl, _, hcr1⟩ := ro1 (by have := hr pp (by omega); omega)
        have gk1 := hcr1 (P.length - 1) (hr pp (by omega))
        rw [← key_at] at gk1
        have hka : kAt xss P (P.length - 1) = key xss (P.length - 1) pp := by unfold kAt; rw [hp, Int.toNat_natCast]
        rw [← hka, hcv] at gk1
        obtain ⟨m1, hm1⟩ : ∃ mm, (xss[pp]'(by omega)).length = mm := ⟨_, rfl⟩
        have hk1 : P.length - 1 < m1 := by have := hr pp (by omega); omega
        have hl1 : m1 ≤ 1048576 := by have := NX.out pp (by omega); omega
        rw [hm1] at g1
        obtain ⟨q, hq⟩ : ∃ q, P.length - 1 = q := ⟨_, rfl⟩
        rw [hq] at gp gk1 hk1
        have hw : IntKind.i64.wrap ((P.length : Int) - 1) = (q : Int) := by rw [IntWalk.i64_in _ (by omega)]; omega
        have t2 : (q : Int) < (P.length : Int) := by omega
        have t4 : (0 : Int) ≤ (q : Int) := by omega
        have t5 : (q : Int) < (m1 : Int) := by omega
        have t6 : (pp : Int) < (xss.length : Int) := by omega
        have t7 : (0 : Int) ≤ (pp : Int) := by omega
        clear hcp hc hcr1 ro1 HR2 hcv hlt hH hm htr hpm hlv hlev hr hp he hka hm1 hq
        go_wp2_with fail
        go_quiet (fail)
        go_wp2
        go_ret2
        exact ⟨rfl, bel_drewN B2.out B2.out.size _⟩
end Go.Proofs.Ytliomgoakiidfaa.ItEnd
