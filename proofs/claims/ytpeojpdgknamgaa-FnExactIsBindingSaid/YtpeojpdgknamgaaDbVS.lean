/- The test of validity of databases, the model's (spec.IsValidDatabase). -/
import Derived.Test.YtpeojpdgknamgaaRelValidS
import Derived.Test.YtpeojpdgknamgaaDbP
import Derived.Test.YtpeojpdgknamgaaHasL
import Derived.Test.YtpeojpdgknamgaaLawKit
import Derived.IntWalk
import Derived.Laws.Cover1
import Derived.BigQuiet
import Derived.Deep.QuietTactic
import Derived.Deep.RegionHeld3
import Derived.Test.YtpeojpdgknamgaaKept
import Derived.Deep.DeepCutAuto
namespace Go.Proofs.Ytpeojpdgknamgaa.DbVS
open Go.RowKit
open Go.Proofs.Ytpeojpdgknamgaa.Num Go.Proofs.Ytpeojpdgknamgaa.IntRow Go.Proofs.Ytpeojpdgknamgaa.Rdr Go.Proofs.Ytpeojpdgknamgaa.Dat Go.Proofs.Ytpeojpdgknamgaa.HasL Go.Proofs.Ytpeojpdgknamgaa.Names Go.Proofs.Ytpeojpdgknamgaa.Asc Go.Proofs.Ytpeojpdgknamgaa.RelValidS Go.Proofs.Ytpeojpdgknamgaa.DbP Go.Proofs.Ytpeojpdgknamgaa.Keep Go.Proofs.Ytpeojpdgknamgaa.Kept
set_option linter.unusedVariables false

theorem spec_name' (s : ByteArray) (b : Bool) (w : World) (hs : s.size ≤ 1048576) (h : nameOk s = b) : Calls Try.prog 72 #[.string s] w fun e w' => e = .returned (.bool b) ∧ w' = w :=
  (spec_name s w hs).mono fun _ _ x => ⟨by rw [← h]; exact x.1, x.2.symm⟩

set_option maxRecDepth 100000 in
set_option maxHeartbeats 4000000 in
/-- spec.IsValidDatabase at every database of some size. -/
theorem spec_vdb (cs : List Value) (x : List TableD) (lo hi : Nat) (w : World) (hs : szD x ≤ 1048576) (h : rDb w lo hi cs x) (hh : hi ≤ w.heap.size) :
    Calls Try.prog 44 #[.agg cs.toArray] w fun e w' => e = .returned (.bool (vDb x)) ∧ Below w.heap.size w w' := by
  obtain ⟨a, cap, rfl, _, hels⟩ := db_open h
  have K := hid (hasl_new w [.slice a x.length cap] 44)
  have B1 := hid ((Below.refl w.heap.size w).alloc (Nat.le_refl _) (.cells #[.slice a x.length cap] 44))
  have hn1 : x.length ≤ 1048576 := by have := tots_len szT x; unfold szD at hs; omega
  have HS := hid (table_le hs)
  have HE := hid hels
  clear h hels hs
  go_enter Try.func44, Try.ntmps44
  go_wp2
  go_loopw [3, 4] (fun i _ wr => ∃ k : Nat, k ≤ x.length ∧ i = .int .i64 k ∧ Hid (∀ j, j < k → fitT x j = true) ∧ Hid (HasL wr w.heap.size [.slice a x.length cap]) ∧ Hid (Below w.heap.size w wr)) (fun i _ _ => x.length - (intOf i).toNat)
  case atStart => exact ⟨0, Nat.zero_le _, rfl, hid (fun j h => by omega), K, B1⟩
  case round =>
    obtain ⟨k, hk, rfl, hall, hbox, hb⟩ := hrel
    obtain ⟨p0, _, p2⟩ := hbox.out.one
    by_cases hlt : k < x.length
    · obtain ⟨b, off, aj, capj, rfl, _, hbB, c0, c1, c2, rx⟩ := tables_at (HE.out.grow good_table hb.out hh) k hlt
      obtain ⟨aa, cc, hcs, _, _, rr⟩ := table_open rx
      simp only [List.cons.injEq, Value.slice.injEq, and_true, true_and] at hcs
      obtain ⟨rfl, rfl⟩ := hcs
      have hsz := hb.out.size
      have hbo : b < wr.heap.size := by omega
      obtain ⟨hz1, hz2, hz3⟩ := rows_le (HS.out k hlt)
      have B2 := hid ((Below.refl wr.heap.size wr).alloc (Nat.le_refl _) (.cells #[.string x[k].1, .int .i64 x[k].2.1, .slice aj x[k].2.2.length capj] 73))
      have HB2 := hid (hb.out.trans (B2.out.mono hsz))
      have HK2 := hid (hbox.out.alloc (.cells #[.string x[k].1, .int .i64 x[k].2.1, .slice aj x[k].2.2.length capj] 73))
      have HT2 := hid (hasl_new wr [.string x[k].1, .int .i64 x[k].2.1, .slice aj x[k].2.2.length capj] 73)
      have hlt' : (k : Int) < (x.length : Int) := by omega
      have h0' : (0 : Int) ≤ (k : Int) := by omega
      obtain ⟨ok, hok⟩ : ∃ z, nameOk x[k].1 = z := ⟨_, rfl⟩
      have N := hid (fun W => spec_name' x[k].1 ok W hz1 hok)
      have HO := hid hok
      obtain ⟨vr, hvr⟩ : ∃ z, vrel x[k].2.1 x[k].2.2 = z := ⟨_, rfl⟩
      have V := hid (fun W (hW : Below wr.heap.size wr W) => by
        have := spec_valid x[k].2.1 aj x[k].2.2.length capj hi x[k].2.2 W rfl hz2 hz3 ((grd_of rr).below (hW.mono (by omega))) (by have := hW.size; omega)
        rw [hvr] at this
        exact this)
      have HV := hid hvr
      have N2 := hid (fun W => spec_name x[k].1 W hz1)
      rw [hok] at N2
      have V2 := hid (fun W (hW : Kp (wr.alloc (.cells #[.string x[k].1, .int .i64 x[k].2.1, .slice aj x[k].2.2.length capj] 73)) 0 W) => V.out W (B2.out.trans (hW.bel.mono (by simp))))
      obtain ⟨s0, _, _⟩ := HK2.out.one
      obtain ⟨s1, s2, s3, _, _, _, _⟩ := HT2.out.three
      clear hok hvr rx rr hz3
      cases ok with
      | false =>
        have hf := hid (vDb_no k hlt (fit_t k hlt (vT_name HO.out)))
        have HBQ := hid (hb.out.trans (B2.out.mono hsz))
        clear V V2 N2 s0 s1 s2 s3
        go_wp2
        go_quiet ((go_at_call 72; exact Calls.quiet_of_same (N.out _)))
        go_wp2
        go_ret
        exact ⟨by rw [hf.out]; rfl, ⟨HBQ.out.os, HBQ.out.tape, HBQ.out.output, HBQ.out.size, HBQ.out.block⟩⟩
      | true =>
        by_cases hk0 : 0 < k
        · obtain ⟨lb, hlb0⟩ : ∃ z, Op.bytesLess (x[k - 1]'(by omega)).1.toList x[k].1.toList = z := ⟨_, rfl⟩
          obtain ⟨bp, offp, ap, capp, hep, _, hbp, d0, _, _, _⟩ := tables_at (HE.out.grow good_table hb.out hh) (k - 1) (by omega)
          simp only [Option.some.injEq, Addr.mk.injEq, and_true] at hep
          obtain ⟨rfl, rfl⟩ := hep
          have HLB := hid hlb0
          clear hlb0
          have g1 : decide ((0 : Int) < (k : Int)) = true := by simp; omega
          have g2 : decide (0 < k) = true := by simp; omega
          have hkp : (0 : Int) < (k : Int) := by omega
          have hk1 : (0 : Int) ≤ (k : Int) - 1 := by omega
          have hk2 : (k : Int) - 1 < (x.length : Int) := by omega
          have hk3 : (1 : Int) ≤ (k : Int) := by omega
          have et : ((k : Int) - 1).toNat = k - 1 := by omega
          have ew : IntKind.i64.wrap ((k : Int) - 1) = (k : Int) - 1 := IntWalk.i64_in _ (by omega)
          have hlb := HLB.out
          cases lb with
          | false =>
            have hf := hid (vDb_no k hlt (fit_o k hlt hk0 HLB.out))
            have HBQ := hid (hb.out.trans (B2.out.mono hsz))
            clear V V2 N2 s0 s1 s2 s3
            go_wp2
            go_quiet ((go_at_call 72; exact Calls.quiet_of_same (N.out _)))
            clear ew hlb
            go_wp2
            go_ret
            exact ⟨by rw [hf.out]; rfl, ⟨HBQ.out.os, HBQ.out.tape, HBQ.out.output, HBQ.out.size, HBQ.out.block⟩⟩
          | true =>
            have s4 := (B2.out.cell (p := ⟨b, off + (k - 1) * 3, none⟩) hbo).trans d0
            cases vr with
            | false =>
              have hf := hid (vDb_no k hlt (fit_t k hlt (vT_rel HV.out)))
              go_upto_region 5 with fail
              go_cut [55] (fun s wx => s = .bool true ∧ Kp (wr.alloc (.cells #[.string x[k].1, .int .i64 x[k].2.1, .slice aj x[k].2.2.length capj] 73)) 0 wx)
              case first =>
                refine wp_region_held_drew (S := (fun w' => w'.cell? ⟨w.heap.size, 0, none⟩ = some (.slice (some ⟨b, off, none⟩) x.length cap) ∧ w'.cell? ⟨wr.heap.size, 0, none⟩ = some (.string x[k].1) ∧ w'.cell? ⟨wr.heap.size, 1, none⟩ = some (.int .i64 x[k].2.1) ∧ w'.cell? ⟨wr.heap.size, 2, none⟩ = some (.slice aj x[k].2.2.length capj) ∧ w'.cell? ⟨b, off + (k - 1) * 3, none⟩ = some (.string (x[k - 1]'(by omega)).1) ∧ Kp (wr.alloc (.cells #[.string x[k].1, .int .i64 x[k].2.1, .slice aj x[k].2.2.length capj] 73)) 0 w')) (by kernel_rfl) ⟨s0, s1, s2, s3, s4, (kp_refl _).drew⟩ (fun hHeld => ?_)
                refine wpAnyH_take (i := 0) (oi := { dst := some 17, op := .fieldAddr 73 (.tmp 4) 0, type := _, pos := _, after := _, guard := none }) (v := ?_) rfl (by kernel_rfl) (by kernel_rfl) (by kernel_rfl) (fun _ _ _ h => h) ?_ hHeld ?_
                rotate_left
                · (refine Or.inl ⟨by rfl, fun w hSw => ?_⟩; (try dsimp only at hSw); go_simp; (try with_reducible rfl))
                (try simp only [Act.put, List.setIfInBounds_toArray, List.set_cons_zero, List.set_cons_succ])
                refine wpAnyH_take (i := 1) (oi := { dst := some 18, op := .load 9 (.tmp 17), type := _, pos := _, after := _, guard := none }) (v := ?_) rfl (by kernel_rfl) (by kernel_rfl) (by kernel_rfl) (fun _ _ _ h => h) ?_ hHeld ?_
                rotate_left
                · (refine Or.inl ⟨by rfl, fun w hSw => ?_⟩; (try dsimp only at hSw); go_simp; (try with_reducible rfl))
                (try simp only [Act.put, List.setIfInBounds_toArray, List.set_cons_zero, List.set_cons_succ])
                refine wpAnyH_ready (rs := [2]) (by kernel_rfl) (by simp) ?_
                refine AllReadyH.cons (o := { dst := some 19, op := .call { callee := .value (.func 72), args := #[(.tmp 18)], argTypes := #[9] }, type := _, pos := _, after := _, guard := none }) rfl (fun K hK => ?_) AllReadyH.nil
                go_simp
                (with_reducible refine (N2.out _).mono ?_); rintro e wU ⟨rfl, rfl⟩
                (try go_wp2_with fail)
                refine hK.out _ _ ?_ (fun hH2 => ?_)
                · exact hHeld
                clear hK K hHeld
                have hHeld := hH2
                clear hH2
                (try simp only [Act.put, List.setIfInBounds_toArray, List.set_cons_zero, List.set_cons_succ])
                refine wpAnyH_take (i := 3) (oi := { dst := some 20, op := .unOp .not 4 (.tmp 19), type := _, pos := _, after := _, guard := none }) (v := ?_) rfl (by kernel_rfl) (by kernel_rfl) (by kernel_rfl) (fun _ _ _ h => h) ?_ hHeld ?_
                rotate_left
                · (refine Or.inl ⟨by rfl, fun w hSw => ?_⟩; (try dsimp only at hSw); go_simp; (try with_reducible rfl))
                (try simp only [Act.put, List.setIfInBounds_toArray, List.set_cons_zero, List.set_cons_succ])
                refine wpAnyH_take (i := 4) (oi := { dst := some 21, op := .move (.tmp 20), type := _, pos := _, after := _, guard := none }) (v := ?_) rfl (by kernel_rfl) (by kernel_rfl) (by kernel_rfl) (fun _ _ _ h => h) ?_ hHeld ?_
                rotate_left
                · (refine Or.inl ⟨by rfl, fun w hSw => ?_⟩; (try dsimp only at hSw); go_simp; (try with_reducible rfl))
                (try simp only [Act.put, List.setIfInBounds_toArray, List.set_cons_zero, List.set_cons_succ])
                refine wpAnyH_take (i := 5) (oi := { dst := some 22, op := .move (.tmp 3), type := _, pos := _, after := _, guard := some (4, false) }) (v := ?_) rfl (by kernel_rfl) (by kernel_rfl) (by kernel_rfl) (fun _ _ _ h => h) ?_ hHeld ?_
                rotate_left
                · (refine Or.inl ⟨by rfl, fun w hSw => ?_⟩; (try dsimp only at hSw); go_simp; (try with_reducible rfl))
                (try simp only [Act.put, List.setIfInBounds_toArray, List.set_cons_zero, List.set_cons_succ])
                refine wpAnyH_take (i := 6) (oi := { dst := some 23, op := .binOp .gtr 3 (.tmp 22) (.const (.int .i64 0)) 3, type := _, pos := _, after := _, guard := some (4, false) }) (v := .bool true) rfl (by kernel_rfl) (by kernel_rfl) (by kernel_rfl) (fun _ _ _ h => h) ?_ hHeld ?_
                · (refine Or.inl ⟨by rfl, fun w hSw => ?_⟩; (try dsimp only at hSw); go_simp; (try omega))
                (try simp only [Act.put, List.setIfInBounds_toArray, List.set_cons_zero, List.set_cons_succ])
                refine wpAnyH_take (i := 7) (oi := { dst := some 24, op := .move (.tmp 23), type := _, pos := _, after := _, guard := some (4, false) }) (v := ?_) rfl (by kernel_rfl) (by kernel_rfl) (by kernel_rfl) (fun _ _ _ h => h) ?_ hHeld ?_
                rotate_left
                · (refine Or.inl ⟨by rfl, fun w hSw => ?_⟩; (try dsimp only at hSw); go_simp; (try with_reducible rfl))
                (try simp only [Act.put, List.setIfInBounds_toArray, List.set_cons_zero, List.set_cons_succ])
                refine wpAnyH_take (i := 8) (oi := { dst := some 25, op := .fieldAddr 44 (.tmp 1) 0, type := _, pos := _, after := _, guard := some (7, true) }) (v := ?_) rfl (by kernel_rfl) (by kernel_rfl) (by kernel_rfl) (fun _ _ _ h => h) ?_ hHeld ?_
                rotate_left
                · (refine Or.inl ⟨by rfl, fun w hSw => ?_⟩; (try dsimp only at hSw); go_simp; (try with_reducible rfl))
                (try simp only [Act.put, List.setIfInBounds_toArray, List.set_cons_zero, List.set_cons_succ])
                refine wpAnyH_take (i := 9) (oi := { dst := some 26, op := .load 42 (.tmp 25), type := _, pos := _, after := _, guard := some (7, true) }) (v := ?_) rfl (by kernel_rfl) (by kernel_rfl) (by kernel_rfl) (fun _ _ _ h => h) ?_ hHeld ?_
                rotate_left
                · (refine Or.inl ⟨by rfl, fun w hSw => ?_⟩; (try dsimp only at hSw); go_simp; (try with_reducible rfl))
                (try simp only [Act.put, List.setIfInBounds_toArray, List.set_cons_zero, List.set_cons_succ])
                refine wpAnyH_take (i := 10) (oi := { dst := some 27, op := .move (.tmp 3), type := _, pos := _, after := _, guard := some (7, true) }) (v := ?_) rfl (by kernel_rfl) (by kernel_rfl) (by kernel_rfl) (fun _ _ _ h => h) ?_ hHeld ?_
                rotate_left
                · (refine Or.inl ⟨by rfl, fun w hSw => ?_⟩; (try dsimp only at hSw); go_simp; (try with_reducible rfl))
                (try simp only [Act.put, List.setIfInBounds_toArray, List.set_cons_zero, List.set_cons_succ])
                refine wpAnyH_take (i := 11) (oi := { dst := some 28, op := .binOp .sub 3 (.tmp 27) (.const (.int .i64 1)) 3, type := _, pos := _, after := _, guard := some (7, true) }) (v := ?_) rfl (by kernel_rfl) (by kernel_rfl) (by kernel_rfl) (fun _ _ _ h => h) ?_ hHeld ?_
                rotate_left
                · (refine Or.inl ⟨by rfl, fun w hSw => ?_⟩; (try dsimp only at hSw); go_simp; (try with_reducible rfl))
                (try simp only [Act.put, List.setIfInBounds_toArray, List.set_cons_zero, List.set_cons_succ])
                refine wpAnyH_take (i := 12) (oi := { dst := some 29, op := .indexAddr 42 (.tmp 26) (.tmp 28), type := _, pos := _, after := _, guard := some (7, true) }) (v := ?_) rfl (by kernel_rfl) (by kernel_rfl) (by kernel_rfl) (fun _ _ _ h => h) ?_ hHeld ?_
                rotate_left
                · (refine Or.inl ⟨by rfl, fun w hSw => ?_⟩; (try dsimp only at hSw); go_simp; (try with_reducible rfl))
                (try simp only [Act.put, List.setIfInBounds_toArray, List.set_cons_zero, List.set_cons_succ])
                refine wpAnyH_take (i := 13) (oi := { dst := some 30, op := .fieldAddr 73 (.tmp 29) 0, type := _, pos := _, after := _, guard := some (7, true) }) (v := ?_) rfl (by kernel_rfl) (by kernel_rfl) (by kernel_rfl) (fun _ _ _ h => h) ?_ hHeld ?_
                rotate_left
                · (refine Or.inl ⟨by rfl, fun w hSw => ?_⟩; (try dsimp only at hSw); go_simp; (try with_reducible rfl))
                (try simp only [Act.put, List.setIfInBounds_toArray, List.set_cons_zero, List.set_cons_succ])
                refine wpAnyH_take (i := 14) (oi := { dst := some 31, op := .load 9 (.tmp 30), type := _, pos := _, after := _, guard := some (7, true) }) (v := ?_) rfl (by kernel_rfl) (by kernel_rfl) (by kernel_rfl) (fun _ _ _ h => h) ?_ hHeld ?_
                rotate_left
                · (refine Or.inl ⟨by rfl, fun w hSw => ?_⟩; (try dsimp only at hSw); go_simp; (try with_reducible rfl))
                (try simp only [Act.put, List.setIfInBounds_toArray, List.set_cons_zero, List.set_cons_succ])
                refine wpAnyH_take (i := 15) (oi := { dst := some 32, op := .fieldAddr 73 (.tmp 4) 0, type := _, pos := _, after := _, guard := some (7, true) }) (v := ?_) rfl (by kernel_rfl) (by kernel_rfl) (by kernel_rfl) (fun _ _ _ h => h) ?_ hHeld ?_
                rotate_left
                · (refine Or.inl ⟨by rfl, fun w hSw => ?_⟩; (try dsimp only at hSw); go_simp; (try with_reducible rfl))
                (try simp only [Act.put, List.setIfInBounds_toArray, List.set_cons_zero, List.set_cons_succ])
                refine wpAnyH_take (i := 16) (oi := { dst := some 33, op := .load 9 (.tmp 32), type := _, pos := _, after := _, guard := some (7, true) }) (v := ?_) rfl (by kernel_rfl) (by kernel_rfl) (by kernel_rfl) (fun _ _ _ h => h) ?_ hHeld ?_
                rotate_left
                · (refine Or.inl ⟨by rfl, fun w hSw => ?_⟩; (try dsimp only at hSw); go_simp; (try with_reducible rfl))
                (try simp only [Act.put, List.setIfInBounds_toArray, List.set_cons_zero, List.set_cons_succ])
                refine wpAnyH_take (i := 17) (oi := { dst := some 34, op := .binOp .geq 9 (.tmp 31) (.tmp 33) 9, type := _, pos := _, after := _, guard := some (7, true) }) (v := .bool false) rfl (by kernel_rfl) (by kernel_rfl) (by kernel_rfl) (fun _ _ _ h => h) ?_ hHeld ?_
                · (refine Or.inl ⟨by rfl, fun w hSw => ?_⟩; (try dsimp only at hSw); go_simp; (try rfl))
                (try simp only [Act.put, List.setIfInBounds_toArray, List.set_cons_zero, List.set_cons_succ])
                refine wpAnyH_take (i := 18) (oi := { dst := some 35, op := .pick (.tmp 24) (.tmp 34) (.const (.bool false)), type := _, pos := _, after := _, guard := some (4, false) }) (v := ?_) rfl (by kernel_rfl) (by kernel_rfl) (by kernel_rfl) (fun _ _ _ h => h) ?_ hHeld ?_
                rotate_left
                · (refine Or.inl ⟨by rfl, fun w hSw => ?_⟩; (try dsimp only at hSw); go_simp; (try with_reducible rfl))
                (try simp only [Act.put, List.setIfInBounds_toArray, List.set_cons_zero, List.set_cons_succ])
                refine wpAnyH_take (i := 19) (oi := { dst := some 36, op := .pick (.tmp 21) (.const (.bool true)) (.tmp 35), type := _, pos := _, after := _, guard := none }) (v := ?_) rfl (by kernel_rfl) (by kernel_rfl) (by kernel_rfl) (fun _ _ _ h => h) ?_ hHeld ?_
                rotate_left
                · (refine Or.inl ⟨by rfl, fun w hSw => ?_⟩; (try dsimp only at hSw); go_simp; (try with_reducible rfl))
                (try simp only [Act.put, List.setIfInBounds_toArray, List.set_cons_zero, List.set_cons_succ])
                refine wpAnyH_take (i := 20) (oi := { dst := some 37, op := .move (.tmp 36), type := _, pos := _, after := _, guard := none }) (v := ?_) rfl (by kernel_rfl) (by kernel_rfl) (by kernel_rfl) (fun _ _ _ h => h) ?_ hHeld ?_
                rotate_left
                · (refine Or.inl ⟨by rfl, fun w hSw => ?_⟩; (try dsimp only at hSw); go_simp; (try with_reducible rfl))
                (try simp only [Act.put, List.setIfInBounds_toArray, List.set_cons_zero, List.set_cons_succ])
                refine wpAnyH_take (i := 21) (oi := { dst := some 38, op := .fieldAddr 73 (.tmp 4) 1, type := _, pos := _, after := _, guard := some (20, false) }) (v := ?_) rfl (by kernel_rfl) (by kernel_rfl) (by kernel_rfl) (fun _ _ _ h => h) ?_ hHeld ?_
                rotate_left
                · (refine Or.inl ⟨by rfl, fun w hSw => ?_⟩; (try dsimp only at hSw); go_simp; (try with_reducible rfl))
                (try simp only [Act.put, List.setIfInBounds_toArray, List.set_cons_zero, List.set_cons_succ])
                refine wpAnyH_take (i := 22) (oi := { dst := some 39, op := .load 27 (.tmp 38), type := _, pos := _, after := _, guard := some (20, false) }) (v := ?_) rfl (by kernel_rfl) (by kernel_rfl) (by kernel_rfl) (fun _ _ _ h => h) ?_ hHeld ?_
                rotate_left
                · (refine Or.inl ⟨by rfl, fun w hSw => ?_⟩; (try dsimp only at hSw); go_simp; (try with_reducible rfl))
                (try simp only [Act.put, List.setIfInBounds_toArray, List.set_cons_zero, List.set_cons_succ])
                refine wpAnyH_ready (rs := [23]) (by kernel_rfl) (by simp) ?_
                refine AllReadyH.cons (o := { dst := some 40, op := .call { callee := .value (.func 32), args := #[(.tmp 39)], argTypes := #[27] }, type := _, pos := _, after := _, guard := some (20, false) }) rfl (fun K hK => ?_) AllReadyH.nil
                go_simp
                (with_reducible refine (V2.out _ hHeld.2.2.2.2.2).mono ?_); rintro e wV ⟨rfl, hbV⟩
                (try go_wp2_with fail)
                refine hK.out _ _ ?_ (fun hH2 => ?_)
                · exact ⟨hHeld.2.2.2.2.2.cell hbV (by simp only [World.size_alloc]; omega) hHeld.1, hHeld.2.2.2.2.2.cell hbV (by simp only [World.size_alloc]; omega) hHeld.2.1, hHeld.2.2.2.2.2.cell hbV (by simp only [World.size_alloc]; omega) hHeld.2.2.1, hHeld.2.2.2.2.2.cell hbV (by simp only [World.size_alloc]; omega) hHeld.2.2.2.1, hHeld.2.2.2.2.2.cell hbV (by simp only [World.size_alloc]; omega) hHeld.2.2.2.2.1, hHeld.2.2.2.2.2.call hbV⟩
                clear hK K hHeld
                have hHeld := hH2
                clear hH2
                (try simp only [Act.put, List.setIfInBounds_toArray, List.set_cons_zero, List.set_cons_succ])
                refine wpAnyH_take (i := 24) (oi := { dst := some 41, op := .unOp .not 4 (.tmp 40), type := _, pos := _, after := _, guard := some (20, false) }) (v := ?_) rfl (by kernel_rfl) (by kernel_rfl) (by kernel_rfl) (fun _ _ _ h => h) ?_ hHeld ?_
                rotate_left
                · (refine Or.inl ⟨by rfl, fun w hSw => ?_⟩; (try dsimp only at hSw); go_simp; (try with_reducible rfl))
                (try simp only [Act.put, List.setIfInBounds_toArray, List.set_cons_zero, List.set_cons_succ])
                refine wpAnyH_take (i := 25) (oi := { dst := some 42, op := .pick (.tmp 37) (.const (.bool true)) (.tmp 41), type := _, pos := _, after := _, guard := none }) (v := ?_) rfl (by kernel_rfl) (by kernel_rfl) (by kernel_rfl) (fun _ _ _ h => h) ?_ hHeld ?_
                rotate_left
                · (refine Or.inl ⟨by rfl, fun w hSw => ?_⟩; (try dsimp only at hSw); go_simp; (try with_reducible rfl))
                (try simp only [Act.put, List.setIfInBounds_toArray, List.set_cons_zero, List.set_cons_succ])
                refine wpAnyH_take (i := 26) (oi := { dst := some 43, op := .move (.tmp 42), type := _, pos := _, after := _, guard := none }) (v := ?_) rfl (by kernel_rfl) (by kernel_rfl) (by kernel_rfl) (fun _ _ _ h => h) ?_ hHeld ?_
                rotate_left
                · (refine Or.inl ⟨by rfl, fun w hSw => ?_⟩; (try dsimp only at hSw); go_simp; (try with_reducible rfl))
                (try simp only [Act.put, List.setIfInBounds_toArray, List.set_cons_zero, List.set_cons_succ])
                refine wpAnyH_take (i := 27) (oi := { dst := some 44, op := .fieldAddr 73 (.tmp 4) 1, type := _, pos := _, after := _, guard := some (26, false) }) (v := undef) rfl (by kernel_rfl) (by kernel_rfl) (by kernel_rfl) (fun _ _ _ h => h) (Or.inr ?_) hHeld ?_
                · exact ⟨by rfl, rfl⟩
                (try simp only [Act.put, List.setIfInBounds_toArray, List.set_cons_zero, List.set_cons_succ])
                refine wpAnyH_take (i := 28) (oi := { dst := some 45, op := .fieldAddr 27 (.tmp 44) 1, type := _, pos := _, after := _, guard := some (26, false) }) (v := undef) rfl (by kernel_rfl) (by kernel_rfl) (by kernel_rfl) (fun _ _ _ h => h) (Or.inr ?_) hHeld ?_
                · exact ⟨by rfl, rfl⟩
                (try simp only [Act.put, List.setIfInBounds_toArray, List.set_cons_zero, List.set_cons_succ])
                refine wpAnyH_take (i := 29) (oi := { dst := some 46, op := .load 22 (.tmp 45), type := _, pos := _, after := _, guard := some (26, false) }) (v := undef) rfl (by kernel_rfl) (by kernel_rfl) (by kernel_rfl) (fun _ _ _ h => h) (Or.inr ?_) hHeld ?_
                · exact ⟨by rfl, rfl⟩
                (try simp only [Act.put, List.setIfInBounds_toArray, List.set_cons_zero, List.set_cons_succ])
                refine wpAnyH_take (i := 30) (oi := { dst := some 47, op := .call { callee := .builtin .len, args := #[(.tmp 46)], argTypes := #[22] }, type := _, pos := _, after := _, guard := some (26, false) }) (v := undef) rfl (by kernel_rfl) (by kernel_rfl) (by kernel_rfl) (fun _ _ _ h => h) (Or.inr ?_) hHeld ?_
                · exact ⟨by rfl, rfl⟩
                (try simp only [Act.put, List.setIfInBounds_toArray, List.set_cons_zero, List.set_cons_succ])
                refine wpAnyH_take (i := 31) (oi := { dst := some 48, op := .binOp .gtr 3 (.tmp 47) (.const (.int .i64 16)) 3, type := _, pos := _, after := _, guard := some (26, false) }) (v := undef) rfl (by kernel_rfl) (by kernel_rfl) (by kernel_rfl) (fun _ _ _ h => h) (Or.inr ?_) hHeld ?_
                · exact ⟨by rfl, rfl⟩
                (try simp only [Act.put, List.setIfInBounds_toArray, List.set_cons_zero, List.set_cons_succ])
                refine wpAnyH_take (i := 32) (oi := { dst := some 49, op := .pick (.tmp 43) (.const (.bool true)) (.tmp 48), type := _, pos := _, after := _, guard := none }) (v := ?_) rfl (by kernel_rfl) (by kernel_rfl) (by kernel_rfl) (fun _ _ _ h => h) ?_ hHeld ?_
                rotate_left
                · (refine Or.inl ⟨by rfl, fun w hSw => ?_⟩; (try dsimp only at hSw); go_simp; (try with_reducible rfl))
                (try simp only [Act.put, List.setIfInBounds_toArray, List.set_cons_zero, List.set_cons_succ])
                refine wpAnyH_take (i := 33) (oi := { dst := some 50, op := .move (.tmp 49), type := _, pos := _, after := _, guard := none }) (v := ?_) rfl (by kernel_rfl) (by kernel_rfl) (by kernel_rfl) (fun _ _ _ h => h) ?_ hHeld ?_
                rotate_left
                · (refine Or.inl ⟨by rfl, fun w hSw => ?_⟩; (try dsimp only at hSw); go_simp; (try with_reducible rfl))
                (try simp only [Act.put, List.setIfInBounds_toArray, List.set_cons_zero, List.set_cons_succ])
                refine wpAnyH_take (i := 34) (oi := { dst := some 51, op := .fieldAddr 73 (.tmp 4) 1, type := _, pos := _, after := _, guard := some (33, false) }) (v := undef) rfl (by kernel_rfl) (by kernel_rfl) (by kernel_rfl) (fun _ _ _ h => h) (Or.inr ?_) hHeld ?_
                · exact ⟨by rfl, rfl⟩
                (try simp only [Act.put, List.setIfInBounds_toArray, List.set_cons_zero, List.set_cons_succ])
                refine wpAnyH_take (i := 35) (oi := { dst := some 52, op := .fieldAddr 27 (.tmp 51) 0, type := _, pos := _, after := _, guard := some (33, false) }) (v := undef) rfl (by kernel_rfl) (by kernel_rfl) (by kernel_rfl) (fun _ _ _ h => h) (Or.inr ?_) hHeld ?_
                · exact ⟨by rfl, rfl⟩
                (try simp only [Act.put, List.setIfInBounds_toArray, List.set_cons_zero, List.set_cons_succ])
                refine wpAnyH_take (i := 36) (oi := { dst := some 53, op := .load 3 (.tmp 52), type := _, pos := _, after := _, guard := some (33, false) }) (v := undef) rfl (by kernel_rfl) (by kernel_rfl) (by kernel_rfl) (fun _ _ _ h => h) (Or.inr ?_) hHeld ?_
                · exact ⟨by rfl, rfl⟩
                (try simp only [Act.put, List.setIfInBounds_toArray, List.set_cons_zero, List.set_cons_succ])
                refine wpAnyH_take (i := 37) (oi := { dst := some 54, op := .binOp .lss 3 (.tmp 53) (.const (.int .i64 1)) 3, type := _, pos := _, after := _, guard := some (33, false) }) (v := undef) rfl (by kernel_rfl) (by kernel_rfl) (by kernel_rfl) (fun _ _ _ h => h) (Or.inr ?_) hHeld ?_
                · exact ⟨by rfl, rfl⟩
                (try simp only [Act.put, List.setIfInBounds_toArray, List.set_cons_zero, List.set_cons_succ])
                refine wpAnyH_take (i := 38) (oi := { dst := some 55, op := .pick (.tmp 50) (.const (.bool true)) (.tmp 54), type := _, pos := _, after := _, guard := none }) (v := ?_) rfl (by kernel_rfl) (by kernel_rfl) (by kernel_rfl) (fun _ _ _ h => h) ?_ hHeld ?_
                rotate_left
                · (refine Or.inl ⟨by rfl, fun w hSw => ?_⟩; (try dsimp only at hSw); go_simp; (try with_reducible rfl))
                (try simp only [Act.put, List.setIfInBounds_toArray, List.set_cons_zero, List.set_cons_succ])
                refine wpAnyH_done (by kernel_rfl) ?_ _
                go_wp2_with fail
                go_meet
                exact ⟨by first | rfl | trivial, hHeld.2.2.2.2.2⟩
              case rest =>
                obtain ⟨rfl, hbx⟩ := hcut
                obtain ⟨w5, rfl⟩ : ∃ wo : World, wo = wc := ⟨_, rfl⟩
                have HB := hid (HB2.out.trans (hbx.bel.mono (by simp only [World.size_alloc]; omega)))
                have HK := hid (HK2.out.below hbx.bel)
                clear hbx c0 c1 c2 p0 s0 s1 s2 s3 ew hlb d0 s4
                go_wp2
                go_ret
                exact ⟨by rw [hf.out]; rfl, HB.out⟩
            | true =>
              by_cases h16 : (16 : Int) < (x[k].2.2.length : Int)
              · have t16 : decide ((16 : Int) < (x[k].2.2.length : Int)) = true := by simp; omega
                have t16b : decide (16 < x[k].2.2.length) = true := by simp; omega
                have hf := hid (vDb_no k hlt (fit_t k hlt (vT_len (by omega))))
                go_upto_region 5 with fail
                go_cut [55] (fun s wx => s = .bool true ∧ Kp (wr.alloc (.cells #[.string x[k].1, .int .i64 x[k].2.1, .slice aj x[k].2.2.length capj] 73)) 0 wx)
                case first =>
                  refine wp_region_held_drew (S := (fun w' => w'.cell? ⟨w.heap.size, 0, none⟩ = some (.slice (some ⟨b, off, none⟩) x.length cap) ∧ w'.cell? ⟨wr.heap.size, 0, none⟩ = some (.string x[k].1) ∧ w'.cell? ⟨wr.heap.size, 1, none⟩ = some (.int .i64 x[k].2.1) ∧ w'.cell? ⟨wr.heap.size, 2, none⟩ = some (.slice aj x[k].2.2.length capj) ∧ w'.cell? ⟨b, off + (k - 1) * 3, none⟩ = some (.string (x[k - 1]'(by omega)).1) ∧ Kp (wr.alloc (.cells #[.string x[k].1, .int .i64 x[k].2.1, .slice aj x[k].2.2.length capj] 73)) 0 w')) (by kernel_rfl) ⟨s0, s1, s2, s3, s4, (kp_refl _).drew⟩ (fun hHeld => ?_)
                  refine wpAnyH_take (i := 0) (oi := { dst := some 17, op := .fieldAddr 73 (.tmp 4) 0, type := _, pos := _, after := _, guard := none }) (v := ?_) rfl (by kernel_rfl) (by kernel_rfl) (by kernel_rfl) (fun _ _ _ h => h) ?_ hHeld ?_
                  rotate_left
                  · (refine Or.inl ⟨by rfl, fun w hSw => ?_⟩; (try dsimp only at hSw); go_simp; (try with_reducible rfl))
                  (try simp only [Act.put, List.setIfInBounds_toArray, List.set_cons_zero, List.set_cons_succ])
                  refine wpAnyH_take (i := 1) (oi := { dst := some 18, op := .load 9 (.tmp 17), type := _, pos := _, after := _, guard := none }) (v := ?_) rfl (by kernel_rfl) (by kernel_rfl) (by kernel_rfl) (fun _ _ _ h => h) ?_ hHeld ?_
                  rotate_left
                  · (refine Or.inl ⟨by rfl, fun w hSw => ?_⟩; (try dsimp only at hSw); go_simp; (try with_reducible rfl))
                  (try simp only [Act.put, List.setIfInBounds_toArray, List.set_cons_zero, List.set_cons_succ])
                  refine wpAnyH_ready (rs := [2]) (by kernel_rfl) (by simp) ?_
                  refine AllReadyH.cons (o := { dst := some 19, op := .call { callee := .value (.func 72), args := #[(.tmp 18)], argTypes := #[9] }, type := _, pos := _, after := _, guard := none }) rfl (fun K hK => ?_) AllReadyH.nil
                  go_simp
                  (with_reducible refine (N2.out _).mono ?_); rintro e wU ⟨rfl, rfl⟩
                  (try go_wp2_with fail)
                  refine hK.out _ _ ?_ (fun hH2 => ?_)
                  · exact hHeld
                  clear hK K hHeld
                  have hHeld := hH2
                  clear hH2
                  (try simp only [Act.put, List.setIfInBounds_toArray, List.set_cons_zero, List.set_cons_succ])
                  refine wpAnyH_take (i := 3) (oi := { dst := some 20, op := .unOp .not 4 (.tmp 19), type := _, pos := _, after := _, guard := none }) (v := ?_) rfl (by kernel_rfl) (by kernel_rfl) (by kernel_rfl) (fun _ _ _ h => h) ?_ hHeld ?_
                  rotate_left
                  · (refine Or.inl ⟨by rfl, fun w hSw => ?_⟩; (try dsimp only at hSw); go_simp; (try with_reducible rfl))
                  (try simp only [Act.put, List.setIfInBounds_toArray, List.set_cons_zero, List.set_cons_succ])
                  refine wpAnyH_take (i := 4) (oi := { dst := some 21, op := .move (.tmp 20), type := _, pos := _, after := _, guard := none }) (v := ?_) rfl (by kernel_rfl) (by kernel_rfl) (by kernel_rfl) (fun _ _ _ h => h) ?_ hHeld ?_
                  rotate_left
                  · (refine Or.inl ⟨by rfl, fun w hSw => ?_⟩; (try dsimp only at hSw); go_simp; (try with_reducible rfl))
                  (try simp only [Act.put, List.setIfInBounds_toArray, List.set_cons_zero, List.set_cons_succ])
                  refine wpAnyH_take (i := 5) (oi := { dst := some 22, op := .move (.tmp 3), type := _, pos := _, after := _, guard := some (4, false) }) (v := ?_) rfl (by kernel_rfl) (by kernel_rfl) (by kernel_rfl) (fun _ _ _ h => h) ?_ hHeld ?_
                  rotate_left
                  · (refine Or.inl ⟨by rfl, fun w hSw => ?_⟩; (try dsimp only at hSw); go_simp; (try with_reducible rfl))
                  (try simp only [Act.put, List.setIfInBounds_toArray, List.set_cons_zero, List.set_cons_succ])
                  refine wpAnyH_take (i := 6) (oi := { dst := some 23, op := .binOp .gtr 3 (.tmp 22) (.const (.int .i64 0)) 3, type := _, pos := _, after := _, guard := some (4, false) }) (v := .bool true) rfl (by kernel_rfl) (by kernel_rfl) (by kernel_rfl) (fun _ _ _ h => h) ?_ hHeld ?_
                  · (refine Or.inl ⟨by rfl, fun w hSw => ?_⟩; (try dsimp only at hSw); go_simp; (try omega))
                  (try simp only [Act.put, List.setIfInBounds_toArray, List.set_cons_zero, List.set_cons_succ])
                  refine wpAnyH_take (i := 7) (oi := { dst := some 24, op := .move (.tmp 23), type := _, pos := _, after := _, guard := some (4, false) }) (v := ?_) rfl (by kernel_rfl) (by kernel_rfl) (by kernel_rfl) (fun _ _ _ h => h) ?_ hHeld ?_
                  rotate_left
                  · (refine Or.inl ⟨by rfl, fun w hSw => ?_⟩; (try dsimp only at hSw); go_simp; (try with_reducible rfl))
                  (try simp only [Act.put, List.setIfInBounds_toArray, List.set_cons_zero, List.set_cons_succ])
                  refine wpAnyH_take (i := 8) (oi := { dst := some 25, op := .fieldAddr 44 (.tmp 1) 0, type := _, pos := _, after := _, guard := some (7, true) }) (v := ?_) rfl (by kernel_rfl) (by kernel_rfl) (by kernel_rfl) (fun _ _ _ h => h) ?_ hHeld ?_
                  rotate_left
                  · (refine Or.inl ⟨by rfl, fun w hSw => ?_⟩; (try dsimp only at hSw); go_simp; (try with_reducible rfl))
                  (try simp only [Act.put, List.setIfInBounds_toArray, List.set_cons_zero, List.set_cons_succ])
                  refine wpAnyH_take (i := 9) (oi := { dst := some 26, op := .load 42 (.tmp 25), type := _, pos := _, after := _, guard := some (7, true) }) (v := ?_) rfl (by kernel_rfl) (by kernel_rfl) (by kernel_rfl) (fun _ _ _ h => h) ?_ hHeld ?_
                  rotate_left
                  · (refine Or.inl ⟨by rfl, fun w hSw => ?_⟩; (try dsimp only at hSw); go_simp; (try with_reducible rfl))
                  (try simp only [Act.put, List.setIfInBounds_toArray, List.set_cons_zero, List.set_cons_succ])
                  refine wpAnyH_take (i := 10) (oi := { dst := some 27, op := .move (.tmp 3), type := _, pos := _, after := _, guard := some (7, true) }) (v := ?_) rfl (by kernel_rfl) (by kernel_rfl) (by kernel_rfl) (fun _ _ _ h => h) ?_ hHeld ?_
                  rotate_left
                  · (refine Or.inl ⟨by rfl, fun w hSw => ?_⟩; (try dsimp only at hSw); go_simp; (try with_reducible rfl))
                  (try simp only [Act.put, List.setIfInBounds_toArray, List.set_cons_zero, List.set_cons_succ])
                  refine wpAnyH_take (i := 11) (oi := { dst := some 28, op := .binOp .sub 3 (.tmp 27) (.const (.int .i64 1)) 3, type := _, pos := _, after := _, guard := some (7, true) }) (v := ?_) rfl (by kernel_rfl) (by kernel_rfl) (by kernel_rfl) (fun _ _ _ h => h) ?_ hHeld ?_
                  rotate_left
                  · (refine Or.inl ⟨by rfl, fun w hSw => ?_⟩; (try dsimp only at hSw); go_simp; (try with_reducible rfl))
                  (try simp only [Act.put, List.setIfInBounds_toArray, List.set_cons_zero, List.set_cons_succ])
                  refine wpAnyH_take (i := 12) (oi := { dst := some 29, op := .indexAddr 42 (.tmp 26) (.tmp 28), type := _, pos := _, after := _, guard := some (7, true) }) (v := ?_) rfl (by kernel_rfl) (by kernel_rfl) (by kernel_rfl) (fun _ _ _ h => h) ?_ hHeld ?_
                  rotate_left
                  · (refine Or.inl ⟨by rfl, fun w hSw => ?_⟩; (try dsimp only at hSw); go_simp; (try with_reducible rfl))
                  (try simp only [Act.put, List.setIfInBounds_toArray, List.set_cons_zero, List.set_cons_succ])
                  refine wpAnyH_take (i := 13) (oi := { dst := some 30, op := .fieldAddr 73 (.tmp 29) 0, type := _, pos := _, after := _, guard := some (7, true) }) (v := ?_) rfl (by kernel_rfl) (by kernel_rfl) (by kernel_rfl) (fun _ _ _ h => h) ?_ hHeld ?_
                  rotate_left
                  · (refine Or.inl ⟨by rfl, fun w hSw => ?_⟩; (try dsimp only at hSw); go_simp; (try with_reducible rfl))
                  (try simp only [Act.put, List.setIfInBounds_toArray, List.set_cons_zero, List.set_cons_succ])
                  refine wpAnyH_take (i := 14) (oi := { dst := some 31, op := .load 9 (.tmp 30), type := _, pos := _, after := _, guard := some (7, true) }) (v := ?_) rfl (by kernel_rfl) (by kernel_rfl) (by kernel_rfl) (fun _ _ _ h => h) ?_ hHeld ?_
                  rotate_left
                  · (refine Or.inl ⟨by rfl, fun w hSw => ?_⟩; (try dsimp only at hSw); go_simp; (try with_reducible rfl))
                  (try simp only [Act.put, List.setIfInBounds_toArray, List.set_cons_zero, List.set_cons_succ])
                  refine wpAnyH_take (i := 15) (oi := { dst := some 32, op := .fieldAddr 73 (.tmp 4) 0, type := _, pos := _, after := _, guard := some (7, true) }) (v := ?_) rfl (by kernel_rfl) (by kernel_rfl) (by kernel_rfl) (fun _ _ _ h => h) ?_ hHeld ?_
                  rotate_left
                  · (refine Or.inl ⟨by rfl, fun w hSw => ?_⟩; (try dsimp only at hSw); go_simp; (try with_reducible rfl))
                  (try simp only [Act.put, List.setIfInBounds_toArray, List.set_cons_zero, List.set_cons_succ])
                  refine wpAnyH_take (i := 16) (oi := { dst := some 33, op := .load 9 (.tmp 32), type := _, pos := _, after := _, guard := some (7, true) }) (v := ?_) rfl (by kernel_rfl) (by kernel_rfl) (by kernel_rfl) (fun _ _ _ h => h) ?_ hHeld ?_
                  rotate_left
                  · (refine Or.inl ⟨by rfl, fun w hSw => ?_⟩; (try dsimp only at hSw); go_simp; (try with_reducible rfl))
                  (try simp only [Act.put, List.setIfInBounds_toArray, List.set_cons_zero, List.set_cons_succ])
                  refine wpAnyH_take (i := 17) (oi := { dst := some 34, op := .binOp .geq 9 (.tmp 31) (.tmp 33) 9, type := _, pos := _, after := _, guard := some (7, true) }) (v := .bool false) rfl (by kernel_rfl) (by kernel_rfl) (by kernel_rfl) (fun _ _ _ h => h) ?_ hHeld ?_
                  · (refine Or.inl ⟨by rfl, fun w hSw => ?_⟩; (try dsimp only at hSw); go_simp; (try rfl))
                  (try simp only [Act.put, List.setIfInBounds_toArray, List.set_cons_zero, List.set_cons_succ])
                  refine wpAnyH_take (i := 18) (oi := { dst := some 35, op := .pick (.tmp 24) (.tmp 34) (.const (.bool false)), type := _, pos := _, after := _, guard := some (4, false) }) (v := ?_) rfl (by kernel_rfl) (by kernel_rfl) (by kernel_rfl) (fun _ _ _ h => h) ?_ hHeld ?_
                  rotate_left
                  · (refine Or.inl ⟨by rfl, fun w hSw => ?_⟩; (try dsimp only at hSw); go_simp; (try with_reducible rfl))
                  (try simp only [Act.put, List.setIfInBounds_toArray, List.set_cons_zero, List.set_cons_succ])
                  refine wpAnyH_take (i := 19) (oi := { dst := some 36, op := .pick (.tmp 21) (.const (.bool true)) (.tmp 35), type := _, pos := _, after := _, guard := none }) (v := ?_) rfl (by kernel_rfl) (by kernel_rfl) (by kernel_rfl) (fun _ _ _ h => h) ?_ hHeld ?_
                  rotate_left
                  · (refine Or.inl ⟨by rfl, fun w hSw => ?_⟩; (try dsimp only at hSw); go_simp; (try with_reducible rfl))
                  (try simp only [Act.put, List.setIfInBounds_toArray, List.set_cons_zero, List.set_cons_succ])
                  refine wpAnyH_take (i := 20) (oi := { dst := some 37, op := .move (.tmp 36), type := _, pos := _, after := _, guard := none }) (v := ?_) rfl (by kernel_rfl) (by kernel_rfl) (by kernel_rfl) (fun _ _ _ h => h) ?_ hHeld ?_
                  rotate_left
                  · (refine Or.inl ⟨by rfl, fun w hSw => ?_⟩; (try dsimp only at hSw); go_simp; (try with_reducible rfl))
                  (try simp only [Act.put, List.setIfInBounds_toArray, List.set_cons_zero, List.set_cons_succ])
                  refine wpAnyH_take (i := 21) (oi := { dst := some 38, op := .fieldAddr 73 (.tmp 4) 1, type := _, pos := _, after := _, guard := some (20, false) }) (v := ?_) rfl (by kernel_rfl) (by kernel_rfl) (by kernel_rfl) (fun _ _ _ h => h) ?_ hHeld ?_
                  rotate_left
                  · (refine Or.inl ⟨by rfl, fun w hSw => ?_⟩; (try dsimp only at hSw); go_simp; (try with_reducible rfl))
                  (try simp only [Act.put, List.setIfInBounds_toArray, List.set_cons_zero, List.set_cons_succ])
                  refine wpAnyH_take (i := 22) (oi := { dst := some 39, op := .load 27 (.tmp 38), type := _, pos := _, after := _, guard := some (20, false) }) (v := ?_) rfl (by kernel_rfl) (by kernel_rfl) (by kernel_rfl) (fun _ _ _ h => h) ?_ hHeld ?_
                  rotate_left
                  · (refine Or.inl ⟨by rfl, fun w hSw => ?_⟩; (try dsimp only at hSw); go_simp; (try with_reducible rfl))
                  (try simp only [Act.put, List.setIfInBounds_toArray, List.set_cons_zero, List.set_cons_succ])
                  refine wpAnyH_ready (rs := [23]) (by kernel_rfl) (by simp) ?_
                  refine AllReadyH.cons (o := { dst := some 40, op := .call { callee := .value (.func 32), args := #[(.tmp 39)], argTypes := #[27] }, type := _, pos := _, after := _, guard := some (20, false) }) rfl (fun K hK => ?_) AllReadyH.nil
                  go_simp
                  (with_reducible refine (V2.out _ hHeld.2.2.2.2.2).mono ?_); rintro e wV ⟨rfl, hbV⟩
                  (try go_wp2_with fail)
                  refine hK.out _ _ ?_ (fun hH2 => ?_)
                  · exact ⟨hHeld.2.2.2.2.2.cell hbV (by simp only [World.size_alloc]; omega) hHeld.1, hHeld.2.2.2.2.2.cell hbV (by simp only [World.size_alloc]; omega) hHeld.2.1, hHeld.2.2.2.2.2.cell hbV (by simp only [World.size_alloc]; omega) hHeld.2.2.1, hHeld.2.2.2.2.2.cell hbV (by simp only [World.size_alloc]; omega) hHeld.2.2.2.1, hHeld.2.2.2.2.2.cell hbV (by simp only [World.size_alloc]; omega) hHeld.2.2.2.2.1, hHeld.2.2.2.2.2.call hbV⟩
                  clear hK K hHeld
                  have hHeld := hH2
                  clear hH2
                  (try simp only [Act.put, List.setIfInBounds_toArray, List.set_cons_zero, List.set_cons_succ])
                  refine wpAnyH_take (i := 24) (oi := { dst := some 41, op := .unOp .not 4 (.tmp 40), type := _, pos := _, after := _, guard := some (20, false) }) (v := ?_) rfl (by kernel_rfl) (by kernel_rfl) (by kernel_rfl) (fun _ _ _ h => h) ?_ hHeld ?_
                  rotate_left
                  · (refine Or.inl ⟨by rfl, fun w hSw => ?_⟩; (try dsimp only at hSw); go_simp; (try with_reducible rfl))
                  (try simp only [Act.put, List.setIfInBounds_toArray, List.set_cons_zero, List.set_cons_succ])
                  refine wpAnyH_take (i := 25) (oi := { dst := some 42, op := .pick (.tmp 37) (.const (.bool true)) (.tmp 41), type := _, pos := _, after := _, guard := none }) (v := ?_) rfl (by kernel_rfl) (by kernel_rfl) (by kernel_rfl) (fun _ _ _ h => h) ?_ hHeld ?_
                  rotate_left
                  · (refine Or.inl ⟨by rfl, fun w hSw => ?_⟩; (try dsimp only at hSw); go_simp; (try with_reducible rfl))
                  (try simp only [Act.put, List.setIfInBounds_toArray, List.set_cons_zero, List.set_cons_succ])
                  refine wpAnyH_take (i := 26) (oi := { dst := some 43, op := .move (.tmp 42), type := _, pos := _, after := _, guard := none }) (v := ?_) rfl (by kernel_rfl) (by kernel_rfl) (by kernel_rfl) (fun _ _ _ h => h) ?_ hHeld ?_
                  rotate_left
                  · (refine Or.inl ⟨by rfl, fun w hSw => ?_⟩; (try dsimp only at hSw); go_simp; (try with_reducible rfl))
                  (try simp only [Act.put, List.setIfInBounds_toArray, List.set_cons_zero, List.set_cons_succ])
                  refine wpAnyH_take (i := 27) (oi := { dst := some 44, op := .fieldAddr 73 (.tmp 4) 1, type := _, pos := _, after := _, guard := some (26, false) }) (v := ?_) rfl (by kernel_rfl) (by kernel_rfl) (by kernel_rfl) (fun _ _ _ h => h) ?_ hHeld ?_
                  rotate_left
                  · (refine Or.inl ⟨by rfl, fun w hSw => ?_⟩; (try dsimp only at hSw); go_simp; (try with_reducible rfl))
                  (try simp only [Act.put, List.setIfInBounds_toArray, List.set_cons_zero, List.set_cons_succ])
                  refine wpAnyH_take (i := 28) (oi := { dst := some 45, op := .fieldAddr 27 (.tmp 44) 1, type := _, pos := _, after := _, guard := some (26, false) }) (v := ?_) rfl (by kernel_rfl) (by kernel_rfl) (by kernel_rfl) (fun _ _ _ h => h) ?_ hHeld ?_
                  rotate_left
                  · (refine Or.inl ⟨by rfl, fun w hSw => ?_⟩; (try dsimp only at hSw); go_simp; (try with_reducible rfl))
                  (try simp only [Act.put, List.setIfInBounds_toArray, List.set_cons_zero, List.set_cons_succ])
                  refine wpAnyH_take (i := 29) (oi := { dst := some 46, op := .load 22 (.tmp 45), type := _, pos := _, after := _, guard := some (26, false) }) (v := ?_) rfl (by kernel_rfl) (by kernel_rfl) (by kernel_rfl) (fun _ _ _ h => h) ?_ hHeld ?_
                  rotate_left
                  · (refine Or.inl ⟨by rfl, fun w hSw => ?_⟩; (try dsimp only at hSw); go_simp; (try with_reducible rfl))
                  (try simp only [Act.put, List.setIfInBounds_toArray, List.set_cons_zero, List.set_cons_succ])
                  refine wpAnyH_take (i := 30) (oi := { dst := some 47, op := .call { callee := .builtin .len, args := #[(.tmp 46)], argTypes := #[22] }, type := _, pos := _, after := _, guard := some (26, false) }) (v := ?_) rfl (by kernel_rfl) (by kernel_rfl) (by kernel_rfl) (fun _ _ _ h => h) ?_ hHeld ?_
                  rotate_left
                  · (refine Or.inl ⟨by rfl, fun w hSw => ?_⟩; (try dsimp only at hSw); go_simp; (try with_reducible rfl))
                  (try simp only [Act.put, List.setIfInBounds_toArray, List.set_cons_zero, List.set_cons_succ])
                  refine wpAnyH_take (i := 31) (oi := { dst := some 48, op := .binOp .gtr 3 (.tmp 47) (.const (.int .i64 16)) 3, type := _, pos := _, after := _, guard := some (26, false) }) (v := .bool true) rfl (by kernel_rfl) (by kernel_rfl) (by kernel_rfl) (fun _ _ _ h => h) ?_ hHeld ?_
                  · (refine Or.inl ⟨by rfl, fun w hSw => ?_⟩; (try dsimp only at hSw); go_simp; (try omega))
                  (try simp only [Act.put, List.setIfInBounds_toArray, List.set_cons_zero, List.set_cons_succ])
                  refine wpAnyH_take (i := 32) (oi := { dst := some 49, op := .pick (.tmp 43) (.const (.bool true)) (.tmp 48), type := _, pos := _, after := _, guard := none }) (v := ?_) rfl (by kernel_rfl) (by kernel_rfl) (by kernel_rfl) (fun _ _ _ h => h) ?_ hHeld ?_
                  rotate_left
                  · (refine Or.inl ⟨by rfl, fun w hSw => ?_⟩; (try dsimp only at hSw); go_simp; (try with_reducible rfl))
                  (try simp only [Act.put, List.setIfInBounds_toArray, List.set_cons_zero, List.set_cons_succ])
                  refine wpAnyH_take (i := 33) (oi := { dst := some 50, op := .move (.tmp 49), type := _, pos := _, after := _, guard := none }) (v := ?_) rfl (by kernel_rfl) (by kernel_rfl) (by kernel_rfl) (fun _ _ _ h => h) ?_ hHeld ?_
                  rotate_left
                  · (refine Or.inl ⟨by rfl, fun w hSw => ?_⟩; (try dsimp only at hSw); go_simp; (try with_reducible rfl))
                  (try simp only [Act.put, List.setIfInBounds_toArray, List.set_cons_zero, List.set_cons_succ])
                  refine wpAnyH_take (i := 34) (oi := { dst := some 51, op := .fieldAddr 73 (.tmp 4) 1, type := _, pos := _, after := _, guard := some (33, false) }) (v := undef) rfl (by kernel_rfl) (by kernel_rfl) (by kernel_rfl) (fun _ _ _ h => h) (Or.inr ?_) hHeld ?_
                  · exact ⟨by rfl, rfl⟩
                  (try simp only [Act.put, List.setIfInBounds_toArray, List.set_cons_zero, List.set_cons_succ])
                  refine wpAnyH_take (i := 35) (oi := { dst := some 52, op := .fieldAddr 27 (.tmp 51) 0, type := _, pos := _, after := _, guard := some (33, false) }) (v := undef) rfl (by kernel_rfl) (by kernel_rfl) (by kernel_rfl) (fun _ _ _ h => h) (Or.inr ?_) hHeld ?_
                  · exact ⟨by rfl, rfl⟩
                  (try simp only [Act.put, List.setIfInBounds_toArray, List.set_cons_zero, List.set_cons_succ])
                  refine wpAnyH_take (i := 36) (oi := { dst := some 53, op := .load 3 (.tmp 52), type := _, pos := _, after := _, guard := some (33, false) }) (v := undef) rfl (by kernel_rfl) (by kernel_rfl) (by kernel_rfl) (fun _ _ _ h => h) (Or.inr ?_) hHeld ?_
                  · exact ⟨by rfl, rfl⟩
                  (try simp only [Act.put, List.setIfInBounds_toArray, List.set_cons_zero, List.set_cons_succ])
                  refine wpAnyH_take (i := 37) (oi := { dst := some 54, op := .binOp .lss 3 (.tmp 53) (.const (.int .i64 1)) 3, type := _, pos := _, after := _, guard := some (33, false) }) (v := undef) rfl (by kernel_rfl) (by kernel_rfl) (by kernel_rfl) (fun _ _ _ h => h) (Or.inr ?_) hHeld ?_
                  · exact ⟨by rfl, rfl⟩
                  (try simp only [Act.put, List.setIfInBounds_toArray, List.set_cons_zero, List.set_cons_succ])
                  refine wpAnyH_take (i := 38) (oi := { dst := some 55, op := .pick (.tmp 50) (.const (.bool true)) (.tmp 54), type := _, pos := _, after := _, guard := none }) (v := ?_) rfl (by kernel_rfl) (by kernel_rfl) (by kernel_rfl) (fun _ _ _ h => h) ?_ hHeld ?_
                  rotate_left
                  · (refine Or.inl ⟨by rfl, fun w hSw => ?_⟩; (try dsimp only at hSw); go_simp; (try with_reducible rfl))
                  (try simp only [Act.put, List.setIfInBounds_toArray, List.set_cons_zero, List.set_cons_succ])
                  refine wpAnyH_done (by kernel_rfl) ?_ _
                  go_wp2_with fail
                  go_meet
                  exact ⟨by first | rfl | trivial, hHeld.2.2.2.2.2⟩
                case rest =>
                  obtain ⟨rfl, hbx⟩ := hcut
                  obtain ⟨w5, rfl⟩ : ∃ wo : World, wo = wc := ⟨_, rfl⟩
                  have HB := hid (HB2.out.trans (hbx.bel.mono (by simp only [World.size_alloc]; omega)))
                  have HK := hid (HK2.out.below hbx.bel)
                  clear hbx c0 c1 c2 p0 s0 s1 s2 s3 ew hlb d0 s4
                  go_wp2
                  go_ret
                  exact ⟨by rw [hf.out]; rfl, HB.out⟩
              · have t16 : decide ((16 : Int) < (x[k].2.2.length : Int)) = false := by simp; omega
                have t16b : decide (16 < x[k].2.2.length) = false := by simp; omega
                by_cases har : x[k].2.1 < 1
                · have tar : decide (x[k].2.1 < 1) = true := by simp; omega
                  have hf := hid (vDb_no k hlt (fit_t k hlt (vT_ar (by omega))))
                  go_upto_region 5 with fail
                  go_cut [55] (fun s wx => s = .bool true ∧ Kp (wr.alloc (.cells #[.string x[k].1, .int .i64 x[k].2.1, .slice aj x[k].2.2.length capj] 73)) 0 wx)
                  case first =>
                    refine wp_region_held_drew (S := (fun w' => w'.cell? ⟨w.heap.size, 0, none⟩ = some (.slice (some ⟨b, off, none⟩) x.length cap) ∧ w'.cell? ⟨wr.heap.size, 0, none⟩ = some (.string x[k].1) ∧ w'.cell? ⟨wr.heap.size, 1, none⟩ = some (.int .i64 x[k].2.1) ∧ w'.cell? ⟨wr.heap.size, 2, none⟩ = some (.slice aj x[k].2.2.length capj) ∧ w'.cell? ⟨b, off + (k - 1) * 3, none⟩ = some (.string (x[k - 1]'(by omega)).1) ∧ Kp (wr.alloc (.cells #[.string x[k].1, .int .i64 x[k].2.1, .slice aj x[k].2.2.length capj] 73)) 0 w')) (by kernel_rfl) ⟨s0, s1, s2, s3, s4, (kp_refl _).drew⟩ (fun hHeld => ?_)
                    refine wpAnyH_take (i := 0) (oi := { dst := some 17, op := .fieldAddr 73 (.tmp 4) 0, type := _, pos := _, after := _, guard := none }) (v := ?_) rfl (by kernel_rfl) (by kernel_rfl) (by kernel_rfl) (fun _ _ _ h => h) ?_ hHeld ?_
                    rotate_left
                    · (refine Or.inl ⟨by rfl, fun w hSw => ?_⟩; (try dsimp only at hSw); go_simp; (try with_reducible rfl))
                    (try simp only [Act.put, List.setIfInBounds_toArray, List.set_cons_zero, List.set_cons_succ])
                    refine wpAnyH_take (i := 1) (oi := { dst := some 18, op := .load 9 (.tmp 17), type := _, pos := _, after := _, guard := none }) (v := ?_) rfl (by kernel_rfl) (by kernel_rfl) (by kernel_rfl) (fun _ _ _ h => h) ?_ hHeld ?_
                    rotate_left
                    · (refine Or.inl ⟨by rfl, fun w hSw => ?_⟩; (try dsimp only at hSw); go_simp; (try with_reducible rfl))
                    (try simp only [Act.put, List.setIfInBounds_toArray, List.set_cons_zero, List.set_cons_succ])
                    refine wpAnyH_ready (rs := [2]) (by kernel_rfl) (by simp) ?_
                    refine AllReadyH.cons (o := { dst := some 19, op := .call { callee := .value (.func 72), args := #[(.tmp 18)], argTypes := #[9] }, type := _, pos := _, after := _, guard := none }) rfl (fun K hK => ?_) AllReadyH.nil
                    go_simp
                    (with_reducible refine (N2.out _).mono ?_); rintro e wU ⟨rfl, rfl⟩
                    (try go_wp2_with fail)
                    refine hK.out _ _ ?_ (fun hH2 => ?_)
                    · exact hHeld
                    clear hK K hHeld
                    have hHeld := hH2
                    clear hH2
                    (try simp only [Act.put, List.setIfInBounds_toArray, List.set_cons_zero, List.set_cons_succ])
                    refine wpAnyH_take (i := 3) (oi := { dst := some 20, op := .unOp .not 4 (.tmp 19), type := _, pos := _, after := _, guard := none }) (v := ?_) rfl (by kernel_rfl) (by kernel_rfl) (by kernel_rfl) (fun _ _ _ h => h) ?_ hHeld ?_
                    rotate_left
                    · (refine Or.inl ⟨by rfl, fun w hSw => ?_⟩; (try dsimp only at hSw); go_simp; (try with_reducible rfl))
                    (try simp only [Act.put, List.setIfInBounds_toArray, List.set_cons_zero, List.set_cons_succ])
                    refine wpAnyH_take (i := 4) (oi := { dst := some 21, op := .move (.tmp 20), type := _, pos := _, after := _, guard := none }) (v := ?_) rfl (by kernel_rfl) (by kernel_rfl) (by kernel_rfl) (fun _ _ _ h => h) ?_ hHeld ?_
                    rotate_left
                    · (refine Or.inl ⟨by rfl, fun w hSw => ?_⟩; (try dsimp only at hSw); go_simp; (try with_reducible rfl))
                    (try simp only [Act.put, List.setIfInBounds_toArray, List.set_cons_zero, List.set_cons_succ])
                    refine wpAnyH_take (i := 5) (oi := { dst := some 22, op := .move (.tmp 3), type := _, pos := _, after := _, guard := some (4, false) }) (v := ?_) rfl (by kernel_rfl) (by kernel_rfl) (by kernel_rfl) (fun _ _ _ h => h) ?_ hHeld ?_
                    rotate_left
                    · (refine Or.inl ⟨by rfl, fun w hSw => ?_⟩; (try dsimp only at hSw); go_simp; (try with_reducible rfl))
                    (try simp only [Act.put, List.setIfInBounds_toArray, List.set_cons_zero, List.set_cons_succ])
                    refine wpAnyH_take (i := 6) (oi := { dst := some 23, op := .binOp .gtr 3 (.tmp 22) (.const (.int .i64 0)) 3, type := _, pos := _, after := _, guard := some (4, false) }) (v := .bool true) rfl (by kernel_rfl) (by kernel_rfl) (by kernel_rfl) (fun _ _ _ h => h) ?_ hHeld ?_
                    · (refine Or.inl ⟨by rfl, fun w hSw => ?_⟩; (try dsimp only at hSw); go_simp; (try omega))
                    (try simp only [Act.put, List.setIfInBounds_toArray, List.set_cons_zero, List.set_cons_succ])
                    refine wpAnyH_take (i := 7) (oi := { dst := some 24, op := .move (.tmp 23), type := _, pos := _, after := _, guard := some (4, false) }) (v := ?_) rfl (by kernel_rfl) (by kernel_rfl) (by kernel_rfl) (fun _ _ _ h => h) ?_ hHeld ?_
                    rotate_left
                    · (refine Or.inl ⟨by rfl, fun w hSw => ?_⟩; (try dsimp only at hSw); go_simp; (try with_reducible rfl))
                    (try simp only [Act.put, List.setIfInBounds_toArray, List.set_cons_zero, List.set_cons_succ])
                    refine wpAnyH_take (i := 8) (oi := { dst := some 25, op := .fieldAddr 44 (.tmp 1) 0, type := _, pos := _, after := _, guard := some (7, true) }) (v := ?_) rfl (by kernel_rfl) (by kernel_rfl) (by kernel_rfl) (fun _ _ _ h => h) ?_ hHeld ?_
                    rotate_left
                    · (refine Or.inl ⟨by rfl, fun w hSw => ?_⟩; (try dsimp only at hSw); go_simp; (try with_reducible rfl))
                    (try simp only [Act.put, List.setIfInBounds_toArray, List.set_cons_zero, List.set_cons_succ])
                    refine wpAnyH_take (i := 9) (oi := { dst := some 26, op := .load 42 (.tmp 25), type := _, pos := _, after := _, guard := some (7, true) }) (v := ?_) rfl (by kernel_rfl) (by kernel_rfl) (by kernel_rfl) (fun _ _ _ h => h) ?_ hHeld ?_
                    rotate_left
                    · (refine Or.inl ⟨by rfl, fun w hSw => ?_⟩; (try dsimp only at hSw); go_simp; (try with_reducible rfl))
                    (try simp only [Act.put, List.setIfInBounds_toArray, List.set_cons_zero, List.set_cons_succ])
                    refine wpAnyH_take (i := 10) (oi := { dst := some 27, op := .move (.tmp 3), type := _, pos := _, after := _, guard := some (7, true) }) (v := ?_) rfl (by kernel_rfl) (by kernel_rfl) (by kernel_rfl) (fun _ _ _ h => h) ?_ hHeld ?_
                    rotate_left
                    · (refine Or.inl ⟨by rfl, fun w hSw => ?_⟩; (try dsimp only at hSw); go_simp; (try with_reducible rfl))
                    (try simp only [Act.put, List.setIfInBounds_toArray, List.set_cons_zero, List.set_cons_succ])
                    refine wpAnyH_take (i := 11) (oi := { dst := some 28, op := .binOp .sub 3 (.tmp 27) (.const (.int .i64 1)) 3, type := _, pos := _, after := _, guard := some (7, true) }) (v := ?_) rfl (by kernel_rfl) (by kernel_rfl) (by kernel_rfl) (fun _ _ _ h => h) ?_ hHeld ?_
                    rotate_left
                    · (refine Or.inl ⟨by rfl, fun w hSw => ?_⟩; (try dsimp only at hSw); go_simp; (try with_reducible rfl))
                    (try simp only [Act.put, List.setIfInBounds_toArray, List.set_cons_zero, List.set_cons_succ])
                    refine wpAnyH_take (i := 12) (oi := { dst := some 29, op := .indexAddr 42 (.tmp 26) (.tmp 28), type := _, pos := _, after := _, guard := some (7, true) }) (v := ?_) rfl (by kernel_rfl) (by kernel_rfl) (by kernel_rfl) (fun _ _ _ h => h) ?_ hHeld ?_
                    rotate_left
                    · (refine Or.inl ⟨by rfl, fun w hSw => ?_⟩; (try dsimp only at hSw); go_simp; (try with_reducible rfl))
                    (try simp only [Act.put, List.setIfInBounds_toArray, List.set_cons_zero, List.set_cons_succ])
                    refine wpAnyH_take (i := 13) (oi := { dst := some 30, op := .fieldAddr 73 (.tmp 29) 0, type := _, pos := _, after := _, guard := some (7, true) }) (v := ?_) rfl (by kernel_rfl) (by kernel_rfl) (by kernel_rfl) (fun _ _ _ h => h) ?_ hHeld ?_
                    rotate_left
                    · (refine Or.inl ⟨by rfl, fun w hSw => ?_⟩; (try dsimp only at hSw); go_simp; (try with_reducible rfl))
                    (try simp only [Act.put, List.setIfInBounds_toArray, List.set_cons_zero, List.set_cons_succ])
                    refine wpAnyH_take (i := 14) (oi := { dst := some 31, op := .load 9 (.tmp 30), type := _, pos := _, after := _, guard := some (7, true) }) (v := ?_) rfl (by kernel_rfl) (by kernel_rfl) (by kernel_rfl) (fun _ _ _ h => h) ?_ hHeld ?_
                    rotate_left
                    · (refine Or.inl ⟨by rfl, fun w hSw => ?_⟩; (try dsimp only at hSw); go_simp; (try with_reducible rfl))
                    (try simp only [Act.put, List.setIfInBounds_toArray, List.set_cons_zero, List.set_cons_succ])
                    refine wpAnyH_take (i := 15) (oi := { dst := some 32, op := .fieldAddr 73 (.tmp 4) 0, type := _, pos := _, after := _, guard := some (7, true) }) (v := ?_) rfl (by kernel_rfl) (by kernel_rfl) (by kernel_rfl) (fun _ _ _ h => h) ?_ hHeld ?_
                    rotate_left
                    · (refine Or.inl ⟨by rfl, fun w hSw => ?_⟩; (try dsimp only at hSw); go_simp; (try with_reducible rfl))
                    (try simp only [Act.put, List.setIfInBounds_toArray, List.set_cons_zero, List.set_cons_succ])
                    refine wpAnyH_take (i := 16) (oi := { dst := some 33, op := .load 9 (.tmp 32), type := _, pos := _, after := _, guard := some (7, true) }) (v := ?_) rfl (by kernel_rfl) (by kernel_rfl) (by kernel_rfl) (fun _ _ _ h => h) ?_ hHeld ?_
                    rotate_left
                    · (refine Or.inl ⟨by rfl, fun w hSw => ?_⟩; (try dsimp only at hSw); go_simp; (try with_reducible rfl))
                    (try simp only [Act.put, List.setIfInBounds_toArray, List.set_cons_zero, List.set_cons_succ])
                    refine wpAnyH_take (i := 17) (oi := { dst := some 34, op := .binOp .geq 9 (.tmp 31) (.tmp 33) 9, type := _, pos := _, after := _, guard := some (7, true) }) (v := .bool false) rfl (by kernel_rfl) (by kernel_rfl) (by kernel_rfl) (fun _ _ _ h => h) ?_ hHeld ?_
                    · (refine Or.inl ⟨by rfl, fun w hSw => ?_⟩; (try dsimp only at hSw); go_simp; (try rfl))
                    (try simp only [Act.put, List.setIfInBounds_toArray, List.set_cons_zero, List.set_cons_succ])
                    refine wpAnyH_take (i := 18) (oi := { dst := some 35, op := .pick (.tmp 24) (.tmp 34) (.const (.bool false)), type := _, pos := _, after := _, guard := some (4, false) }) (v := ?_) rfl (by kernel_rfl) (by kernel_rfl) (by kernel_rfl) (fun _ _ _ h => h) ?_ hHeld ?_
                    rotate_left
                    · (refine Or.inl ⟨by rfl, fun w hSw => ?_⟩; (try dsimp only at hSw); go_simp; (try with_reducible rfl))
                    (try simp only [Act.put, List.setIfInBounds_toArray, List.set_cons_zero, List.set_cons_succ])
                    refine wpAnyH_take (i := 19) (oi := { dst := some 36, op := .pick (.tmp 21) (.const (.bool true)) (.tmp 35), type := _, pos := _, after := _, guard := none }) (v := ?_) rfl (by kernel_rfl) (by kernel_rfl) (by kernel_rfl) (fun _ _ _ h => h) ?_ hHeld ?_
                    rotate_left
                    · (refine Or.inl ⟨by rfl, fun w hSw => ?_⟩; (try dsimp only at hSw); go_simp; (try with_reducible rfl))
                    (try simp only [Act.put, List.setIfInBounds_toArray, List.set_cons_zero, List.set_cons_succ])
                    refine wpAnyH_take (i := 20) (oi := { dst := some 37, op := .move (.tmp 36), type := _, pos := _, after := _, guard := none }) (v := ?_) rfl (by kernel_rfl) (by kernel_rfl) (by kernel_rfl) (fun _ _ _ h => h) ?_ hHeld ?_
                    rotate_left
                    · (refine Or.inl ⟨by rfl, fun w hSw => ?_⟩; (try dsimp only at hSw); go_simp; (try with_reducible rfl))
                    (try simp only [Act.put, List.setIfInBounds_toArray, List.set_cons_zero, List.set_cons_succ])
                    refine wpAnyH_take (i := 21) (oi := { dst := some 38, op := .fieldAddr 73 (.tmp 4) 1, type := _, pos := _, after := _, guard := some (20, false) }) (v := ?_) rfl (by kernel_rfl) (by kernel_rfl) (by kernel_rfl) (fun _ _ _ h => h) ?_ hHeld ?_
                    rotate_left
                    · (refine Or.inl ⟨by rfl, fun w hSw => ?_⟩; (try dsimp only at hSw); go_simp; (try with_reducible rfl))
                    (try simp only [Act.put, List.setIfInBounds_toArray, List.set_cons_zero, List.set_cons_succ])
                    refine wpAnyH_take (i := 22) (oi := { dst := some 39, op := .load 27 (.tmp 38), type := _, pos := _, after := _, guard := some (20, false) }) (v := ?_) rfl (by kernel_rfl) (by kernel_rfl) (by kernel_rfl) (fun _ _ _ h => h) ?_ hHeld ?_
                    rotate_left
                    · (refine Or.inl ⟨by rfl, fun w hSw => ?_⟩; (try dsimp only at hSw); go_simp; (try with_reducible rfl))
                    (try simp only [Act.put, List.setIfInBounds_toArray, List.set_cons_zero, List.set_cons_succ])
                    refine wpAnyH_ready (rs := [23]) (by kernel_rfl) (by simp) ?_
                    refine AllReadyH.cons (o := { dst := some 40, op := .call { callee := .value (.func 32), args := #[(.tmp 39)], argTypes := #[27] }, type := _, pos := _, after := _, guard := some (20, false) }) rfl (fun K hK => ?_) AllReadyH.nil
                    go_simp
                    (with_reducible refine (V2.out _ hHeld.2.2.2.2.2).mono ?_); rintro e wV ⟨rfl, hbV⟩
                    (try go_wp2_with fail)
                    refine hK.out _ _ ?_ (fun hH2 => ?_)
                    · exact ⟨hHeld.2.2.2.2.2.cell hbV (by simp only [World.size_alloc]; omega) hHeld.1, hHeld.2.2.2.2.2.cell hbV (by simp only [World.size_alloc]; omega) hHeld.2.1, hHeld.2.2.2.2.2.cell hbV (by simp only [World.size_alloc]; omega) hHeld.2.2.1, hHeld.2.2.2.2.2.cell hbV (by simp only [World.size_alloc]; omega) hHeld.2.2.2.1, hHeld.2.2.2.2.2.cell hbV (by simp only [World.size_alloc]; omega) hHeld.2.2.2.2.1, hHeld.2.2.2.2.2.call hbV⟩
                    clear hK K hHeld
                    have hHeld := hH2
                    clear hH2
                    (try simp only [Act.put, List.setIfInBounds_toArray, List.set_cons_zero, List.set_cons_succ])
                    refine wpAnyH_take (i := 24) (oi := { dst := some 41, op := .unOp .not 4 (.tmp 40), type := _, pos := _, after := _, guard := some (20, false) }) (v := ?_) rfl (by kernel_rfl) (by kernel_rfl) (by kernel_rfl) (fun _ _ _ h => h) ?_ hHeld ?_
                    rotate_left
                    · (refine Or.inl ⟨by rfl, fun w hSw => ?_⟩; (try dsimp only at hSw); go_simp; (try with_reducible rfl))
                    (try simp only [Act.put, List.setIfInBounds_toArray, List.set_cons_zero, List.set_cons_succ])
                    refine wpAnyH_take (i := 25) (oi := { dst := some 42, op := .pick (.tmp 37) (.const (.bool true)) (.tmp 41), type := _, pos := _, after := _, guard := none }) (v := ?_) rfl (by kernel_rfl) (by kernel_rfl) (by kernel_rfl) (fun _ _ _ h => h) ?_ hHeld ?_
                    rotate_left
                    · (refine Or.inl ⟨by rfl, fun w hSw => ?_⟩; (try dsimp only at hSw); go_simp; (try with_reducible rfl))
                    (try simp only [Act.put, List.setIfInBounds_toArray, List.set_cons_zero, List.set_cons_succ])
                    refine wpAnyH_take (i := 26) (oi := { dst := some 43, op := .move (.tmp 42), type := _, pos := _, after := _, guard := none }) (v := ?_) rfl (by kernel_rfl) (by kernel_rfl) (by kernel_rfl) (fun _ _ _ h => h) ?_ hHeld ?_
                    rotate_left
                    · (refine Or.inl ⟨by rfl, fun w hSw => ?_⟩; (try dsimp only at hSw); go_simp; (try with_reducible rfl))
                    (try simp only [Act.put, List.setIfInBounds_toArray, List.set_cons_zero, List.set_cons_succ])
                    refine wpAnyH_take (i := 27) (oi := { dst := some 44, op := .fieldAddr 73 (.tmp 4) 1, type := _, pos := _, after := _, guard := some (26, false) }) (v := ?_) rfl (by kernel_rfl) (by kernel_rfl) (by kernel_rfl) (fun _ _ _ h => h) ?_ hHeld ?_
                    rotate_left
                    · (refine Or.inl ⟨by rfl, fun w hSw => ?_⟩; (try dsimp only at hSw); go_simp; (try with_reducible rfl))
                    (try simp only [Act.put, List.setIfInBounds_toArray, List.set_cons_zero, List.set_cons_succ])
                    refine wpAnyH_take (i := 28) (oi := { dst := some 45, op := .fieldAddr 27 (.tmp 44) 1, type := _, pos := _, after := _, guard := some (26, false) }) (v := ?_) rfl (by kernel_rfl) (by kernel_rfl) (by kernel_rfl) (fun _ _ _ h => h) ?_ hHeld ?_
                    rotate_left
                    · (refine Or.inl ⟨by rfl, fun w hSw => ?_⟩; (try dsimp only at hSw); go_simp; (try with_reducible rfl))
                    (try simp only [Act.put, List.setIfInBounds_toArray, List.set_cons_zero, List.set_cons_succ])
                    refine wpAnyH_take (i := 29) (oi := { dst := some 46, op := .load 22 (.tmp 45), type := _, pos := _, after := _, guard := some (26, false) }) (v := ?_) rfl (by kernel_rfl) (by kernel_rfl) (by kernel_rfl) (fun _ _ _ h => h) ?_ hHeld ?_
                    rotate_left
                    · (refine Or.inl ⟨by rfl, fun w hSw => ?_⟩; (try dsimp only at hSw); go_simp; (try with_reducible rfl))
                    (try simp only [Act.put, List.setIfInBounds_toArray, List.set_cons_zero, List.set_cons_succ])
                    refine wpAnyH_take (i := 30) (oi := { dst := some 47, op := .call { callee := .builtin .len, args := #[(.tmp 46)], argTypes := #[22] }, type := _, pos := _, after := _, guard := some (26, false) }) (v := ?_) rfl (by kernel_rfl) (by kernel_rfl) (by kernel_rfl) (fun _ _ _ h => h) ?_ hHeld ?_
                    rotate_left
                    · (refine Or.inl ⟨by rfl, fun w hSw => ?_⟩; (try dsimp only at hSw); go_simp; (try with_reducible rfl))
                    (try simp only [Act.put, List.setIfInBounds_toArray, List.set_cons_zero, List.set_cons_succ])
                    refine wpAnyH_take (i := 31) (oi := { dst := some 48, op := .binOp .gtr 3 (.tmp 47) (.const (.int .i64 16)) 3, type := _, pos := _, after := _, guard := some (26, false) }) (v := .bool false) rfl (by kernel_rfl) (by kernel_rfl) (by kernel_rfl) (fun _ _ _ h => h) ?_ hHeld ?_
                    · (refine Or.inl ⟨by rfl, fun w hSw => ?_⟩; (try dsimp only at hSw); go_simp; (try omega))
                    (try simp only [Act.put, List.setIfInBounds_toArray, List.set_cons_zero, List.set_cons_succ])
                    refine wpAnyH_take (i := 32) (oi := { dst := some 49, op := .pick (.tmp 43) (.const (.bool true)) (.tmp 48), type := _, pos := _, after := _, guard := none }) (v := ?_) rfl (by kernel_rfl) (by kernel_rfl) (by kernel_rfl) (fun _ _ _ h => h) ?_ hHeld ?_
                    rotate_left
                    · (refine Or.inl ⟨by rfl, fun w hSw => ?_⟩; (try dsimp only at hSw); go_simp; (try with_reducible rfl))
                    (try simp only [Act.put, List.setIfInBounds_toArray, List.set_cons_zero, List.set_cons_succ])
                    refine wpAnyH_take (i := 33) (oi := { dst := some 50, op := .move (.tmp 49), type := _, pos := _, after := _, guard := none }) (v := ?_) rfl (by kernel_rfl) (by kernel_rfl) (by kernel_rfl) (fun _ _ _ h => h) ?_ hHeld ?_
                    rotate_left
                    · (refine Or.inl ⟨by rfl, fun w hSw => ?_⟩; (try dsimp only at hSw); go_simp; (try with_reducible rfl))
                    (try simp only [Act.put, List.setIfInBounds_toArray, List.set_cons_zero, List.set_cons_succ])
                    refine wpAnyH_take (i := 34) (oi := { dst := some 51, op := .fieldAddr 73 (.tmp 4) 1, type := _, pos := _, after := _, guard := some (33, false) }) (v := ?_) rfl (by kernel_rfl) (by kernel_rfl) (by kernel_rfl) (fun _ _ _ h => h) ?_ hHeld ?_
                    rotate_left
                    · (refine Or.inl ⟨by rfl, fun w hSw => ?_⟩; (try dsimp only at hSw); go_simp; (try with_reducible rfl))
                    (try simp only [Act.put, List.setIfInBounds_toArray, List.set_cons_zero, List.set_cons_succ])
                    refine wpAnyH_take (i := 35) (oi := { dst := some 52, op := .fieldAddr 27 (.tmp 51) 0, type := _, pos := _, after := _, guard := some (33, false) }) (v := ?_) rfl (by kernel_rfl) (by kernel_rfl) (by kernel_rfl) (fun _ _ _ h => h) ?_ hHeld ?_
                    rotate_left
                    · (refine Or.inl ⟨by rfl, fun w hSw => ?_⟩; (try dsimp only at hSw); go_simp; (try with_reducible rfl))
                    (try simp only [Act.put, List.setIfInBounds_toArray, List.set_cons_zero, List.set_cons_succ])
                    refine wpAnyH_take (i := 36) (oi := { dst := some 53, op := .load 3 (.tmp 52), type := _, pos := _, after := _, guard := some (33, false) }) (v := ?_) rfl (by kernel_rfl) (by kernel_rfl) (by kernel_rfl) (fun _ _ _ h => h) ?_ hHeld ?_
                    rotate_left
                    · (refine Or.inl ⟨by rfl, fun w hSw => ?_⟩; (try dsimp only at hSw); go_simp; (try with_reducible rfl))
                    (try simp only [Act.put, List.setIfInBounds_toArray, List.set_cons_zero, List.set_cons_succ])
                    refine wpAnyH_take (i := 37) (oi := { dst := some 54, op := .binOp .lss 3 (.tmp 53) (.const (.int .i64 1)) 3, type := _, pos := _, after := _, guard := some (33, false) }) (v := .bool true) rfl (by kernel_rfl) (by kernel_rfl) (by kernel_rfl) (fun _ _ _ h => h) ?_ hHeld ?_
                    · (refine Or.inl ⟨by rfl, fun w hSw => ?_⟩; (try dsimp only at hSw); go_simp; (try omega))
                    (try simp only [Act.put, List.setIfInBounds_toArray, List.set_cons_zero, List.set_cons_succ])
                    refine wpAnyH_take (i := 38) (oi := { dst := some 55, op := .pick (.tmp 50) (.const (.bool true)) (.tmp 54), type := _, pos := _, after := _, guard := none }) (v := ?_) rfl (by kernel_rfl) (by kernel_rfl) (by kernel_rfl) (fun _ _ _ h => h) ?_ hHeld ?_
                    rotate_left
                    · (refine Or.inl ⟨by rfl, fun w hSw => ?_⟩; (try dsimp only at hSw); go_simp; (try with_reducible rfl))
                    (try simp only [Act.put, List.setIfInBounds_toArray, List.set_cons_zero, List.set_cons_succ])
                    refine wpAnyH_done (by kernel_rfl) ?_ _
                    go_wp2_with fail
                    go_meet
                    exact ⟨by first | rfl | trivial, hHeld.2.2.2.2.2⟩
                  case rest =>
                    obtain ⟨rfl, hbx⟩ := hcut
                    obtain ⟨w5, rfl⟩ : ∃ wo : World, wo = wc := ⟨_, rfl⟩
                    have HB := hid (HB2.out.trans (hbx.bel.mono (by simp only [World.size_alloc]; omega)))
                    have HK := hid (HK2.out.below hbx.bel)
                    clear hbx c0 c1 c2 p0 s0 s1 s2 s3 ew hlb d0 s4
                    go_wp2
                    go_ret
                    exact ⟨by rw [hf.out]; rfl, HB.out⟩
                · have tar : decide (x[k].2.1 < 1) = false := by simp; omega
                  have HF := hid (show ∀ j, j < k + 1 → fitT x j = true from fun j hj => by
                    by_cases q : j = k
                    · subst q; exact fit_yes j hlt (vT_yes HO.out (by omega) (by omega) HV.out) (fun _ => HLB.out)
                    · exact hall.out j (by omega))
                  go_upto_region 5 with fail
                  go_cut [55] (fun s wx => s = .bool false ∧ Kp (wr.alloc (.cells #[.string x[k].1, .int .i64 x[k].2.1, .slice aj x[k].2.2.length capj] 73)) 0 wx)
                  case first =>
                    refine wp_region_held_drew (S := (fun w' => w'.cell? ⟨w.heap.size, 0, none⟩ = some (.slice (some ⟨b, off, none⟩) x.length cap) ∧ w'.cell? ⟨wr.heap.size, 0, none⟩ = some (.string x[k].1) ∧ w'.cell? ⟨wr.heap.size, 1, none⟩ = some (.int .i64 x[k].2.1) ∧ w'.cell? ⟨wr.heap.size, 2, none⟩ = some (.slice aj x[k].2.2.length capj) ∧ w'.cell? ⟨b, off + (k - 1) * 3, none⟩ = some (.string (x[k - 1]'(by omega)).1) ∧ Kp (wr.alloc (.cells #[.string x[k].1, .int .i64 x[k].2.1, .slice aj x[k].2.2.length capj] 73)) 0 w')) (by kernel_rfl) ⟨s0, s1, s2, s3, s4, (kp_refl _).drew⟩ (fun hHeld => ?_)
                    refine wpAnyH_take (i := 0) (oi := { dst := some 17, op := .fieldAddr 73 (.tmp 4) 0, type := _, pos := _, after := _, guard := none }) (v := ?_) rfl (by kernel_rfl) (by kernel_rfl) (by kernel_rfl) (fun _ _ _ h => h) ?_ hHeld ?_
                    rotate_left
                    · (refine Or.inl ⟨by rfl, fun w hSw => ?_⟩; (try dsimp only at hSw); go_simp; (try with_reducible rfl))
                    (try simp only [Act.put, List.setIfInBounds_toArray, List.set_cons_zero, List.set_cons_succ])
                    refine wpAnyH_take (i := 1) (oi := { dst := some 18, op := .load 9 (.tmp 17), type := _, pos := _, after := _, guard := none }) (v := ?_) rfl (by kernel_rfl) (by kernel_rfl) (by kernel_rfl) (fun _ _ _ h => h) ?_ hHeld ?_
                    rotate_left
                    · (refine Or.inl ⟨by rfl, fun w hSw => ?_⟩; (try dsimp only at hSw); go_simp; (try with_reducible rfl))
                    (try simp only [Act.put, List.setIfInBounds_toArray, List.set_cons_zero, List.set_cons_succ])
                    refine wpAnyH_ready (rs := [2]) (by kernel_rfl) (by simp) ?_
                    refine AllReadyH.cons (o := { dst := some 19, op := .call { callee := .value (.func 72), args := #[(.tmp 18)], argTypes := #[9] }, type := _, pos := _, after := _, guard := none }) rfl (fun K hK => ?_) AllReadyH.nil
                    go_simp
                    (with_reducible refine (N2.out _).mono ?_); rintro e wU ⟨rfl, rfl⟩
                    (try go_wp2_with fail)
                    refine hK.out _ _ ?_ (fun hH2 => ?_)
                    · exact hHeld
                    clear hK K hHeld
                    have hHeld := hH2
                    clear hH2
                    (try simp only [Act.put, List.setIfInBounds_toArray, List.set_cons_zero, List.set_cons_succ])
                    refine wpAnyH_take (i := 3) (oi := { dst := some 20, op := .unOp .not 4 (.tmp 19), type := _, pos := _, after := _, guard := none }) (v := ?_) rfl (by kernel_rfl) (by kernel_rfl) (by kernel_rfl) (fun _ _ _ h => h) ?_ hHeld ?_
                    rotate_left
                    · (refine Or.inl ⟨by rfl, fun w hSw => ?_⟩; (try dsimp only at hSw); go_simp; (try with_reducible rfl))
                    (try simp only [Act.put, List.setIfInBounds_toArray, List.set_cons_zero, List.set_cons_succ])
                    refine wpAnyH_take (i := 4) (oi := { dst := some 21, op := .move (.tmp 20), type := _, pos := _, after := _, guard := none }) (v := ?_) rfl (by kernel_rfl) (by kernel_rfl) (by kernel_rfl) (fun _ _ _ h => h) ?_ hHeld ?_
                    rotate_left
                    · (refine Or.inl ⟨by rfl, fun w hSw => ?_⟩; (try dsimp only at hSw); go_simp; (try with_reducible rfl))
                    (try simp only [Act.put, List.setIfInBounds_toArray, List.set_cons_zero, List.set_cons_succ])
                    refine wpAnyH_take (i := 5) (oi := { dst := some 22, op := .move (.tmp 3), type := _, pos := _, after := _, guard := some (4, false) }) (v := ?_) rfl (by kernel_rfl) (by kernel_rfl) (by kernel_rfl) (fun _ _ _ h => h) ?_ hHeld ?_
                    rotate_left
                    · (refine Or.inl ⟨by rfl, fun w hSw => ?_⟩; (try dsimp only at hSw); go_simp; (try with_reducible rfl))
                    (try simp only [Act.put, List.setIfInBounds_toArray, List.set_cons_zero, List.set_cons_succ])
                    refine wpAnyH_take (i := 6) (oi := { dst := some 23, op := .binOp .gtr 3 (.tmp 22) (.const (.int .i64 0)) 3, type := _, pos := _, after := _, guard := some (4, false) }) (v := .bool true) rfl (by kernel_rfl) (by kernel_rfl) (by kernel_rfl) (fun _ _ _ h => h) ?_ hHeld ?_
                    · (refine Or.inl ⟨by rfl, fun w hSw => ?_⟩; (try dsimp only at hSw); go_simp; (try omega))
                    (try simp only [Act.put, List.setIfInBounds_toArray, List.set_cons_zero, List.set_cons_succ])
                    refine wpAnyH_take (i := 7) (oi := { dst := some 24, op := .move (.tmp 23), type := _, pos := _, after := _, guard := some (4, false) }) (v := ?_) rfl (by kernel_rfl) (by kernel_rfl) (by kernel_rfl) (fun _ _ _ h => h) ?_ hHeld ?_
                    rotate_left
                    · (refine Or.inl ⟨by rfl, fun w hSw => ?_⟩; (try dsimp only at hSw); go_simp; (try with_reducible rfl))
                    (try simp only [Act.put, List.setIfInBounds_toArray, List.set_cons_zero, List.set_cons_succ])
                    refine wpAnyH_take (i := 8) (oi := { dst := some 25, op := .fieldAddr 44 (.tmp 1) 0, type := _, pos := _, after := _, guard := some (7, true) }) (v := ?_) rfl (by kernel_rfl) (by kernel_rfl) (by kernel_rfl) (fun _ _ _ h => h) ?_ hHeld ?_
                    rotate_left
                    · (refine Or.inl ⟨by rfl, fun w hSw => ?_⟩; (try dsimp only at hSw); go_simp; (try with_reducible rfl))
                    (try simp only [Act.put, List.setIfInBounds_toArray, List.set_cons_zero, List.set_cons_succ])
                    refine wpAnyH_take (i := 9) (oi := { dst := some 26, op := .load 42 (.tmp 25), type := _, pos := _, after := _, guard := some (7, true) }) (v := ?_) rfl (by kernel_rfl) (by kernel_rfl) (by kernel_rfl) (fun _ _ _ h => h) ?_ hHeld ?_
                    rotate_left
                    · (refine Or.inl ⟨by rfl, fun w hSw => ?_⟩; (try dsimp only at hSw); go_simp; (try with_reducible rfl))
                    (try simp only [Act.put, List.setIfInBounds_toArray, List.set_cons_zero, List.set_cons_succ])
                    refine wpAnyH_take (i := 10) (oi := { dst := some 27, op := .move (.tmp 3), type := _, pos := _, after := _, guard := some (7, true) }) (v := ?_) rfl (by kernel_rfl) (by kernel_rfl) (by kernel_rfl) (fun _ _ _ h => h) ?_ hHeld ?_
                    rotate_left
                    · (refine Or.inl ⟨by rfl, fun w hSw => ?_⟩; (try dsimp only at hSw); go_simp; (try with_reducible rfl))
                    (try simp only [Act.put, List.setIfInBounds_toArray, List.set_cons_zero, List.set_cons_succ])
                    refine wpAnyH_take (i := 11) (oi := { dst := some 28, op := .binOp .sub 3 (.tmp 27) (.const (.int .i64 1)) 3, type := _, pos := _, after := _, guard := some (7, true) }) (v := ?_) rfl (by kernel_rfl) (by kernel_rfl) (by kernel_rfl) (fun _ _ _ h => h) ?_ hHeld ?_
                    rotate_left
                    · (refine Or.inl ⟨by rfl, fun w hSw => ?_⟩; (try dsimp only at hSw); go_simp; (try with_reducible rfl))
                    (try simp only [Act.put, List.setIfInBounds_toArray, List.set_cons_zero, List.set_cons_succ])
                    refine wpAnyH_take (i := 12) (oi := { dst := some 29, op := .indexAddr 42 (.tmp 26) (.tmp 28), type := _, pos := _, after := _, guard := some (7, true) }) (v := ?_) rfl (by kernel_rfl) (by kernel_rfl) (by kernel_rfl) (fun _ _ _ h => h) ?_ hHeld ?_
                    rotate_left
                    · (refine Or.inl ⟨by rfl, fun w hSw => ?_⟩; (try dsimp only at hSw); go_simp; (try with_reducible rfl))
                    (try simp only [Act.put, List.setIfInBounds_toArray, List.set_cons_zero, List.set_cons_succ])
                    refine wpAnyH_take (i := 13) (oi := { dst := some 30, op := .fieldAddr 73 (.tmp 29) 0, type := _, pos := _, after := _, guard := some (7, true) }) (v := ?_) rfl (by kernel_rfl) (by kernel_rfl) (by kernel_rfl) (fun _ _ _ h => h) ?_ hHeld ?_
                    rotate_left
                    · (refine Or.inl ⟨by rfl, fun w hSw => ?_⟩; (try dsimp only at hSw); go_simp; (try with_reducible rfl))
                    (try simp only [Act.put, List.setIfInBounds_toArray, List.set_cons_zero, List.set_cons_succ])
                    refine wpAnyH_take (i := 14) (oi := { dst := some 31, op := .load 9 (.tmp 30), type := _, pos := _, after := _, guard := some (7, true) }) (v := ?_) rfl (by kernel_rfl) (by kernel_rfl) (by kernel_rfl) (fun _ _ _ h => h) ?_ hHeld ?_
                    rotate_left
                    · (refine Or.inl ⟨by rfl, fun w hSw => ?_⟩; (try dsimp only at hSw); go_simp; (try with_reducible rfl))
                    (try simp only [Act.put, List.setIfInBounds_toArray, List.set_cons_zero, List.set_cons_succ])
                    refine wpAnyH_take (i := 15) (oi := { dst := some 32, op := .fieldAddr 73 (.tmp 4) 0, type := _, pos := _, after := _, guard := some (7, true) }) (v := ?_) rfl (by kernel_rfl) (by kernel_rfl) (by kernel_rfl) (fun _ _ _ h => h) ?_ hHeld ?_
                    rotate_left
                    · (refine Or.inl ⟨by rfl, fun w hSw => ?_⟩; (try dsimp only at hSw); go_simp; (try with_reducible rfl))
                    (try simp only [Act.put, List.setIfInBounds_toArray, List.set_cons_zero, List.set_cons_succ])
                    refine wpAnyH_take (i := 16) (oi := { dst := some 33, op := .load 9 (.tmp 32), type := _, pos := _, after := _, guard := some (7, true) }) (v := ?_) rfl (by kernel_rfl) (by kernel_rfl) (by kernel_rfl) (fun _ _ _ h => h) ?_ hHeld ?_
                    rotate_left
                    · (refine Or.inl ⟨by rfl, fun w hSw => ?_⟩; (try dsimp only at hSw); go_simp; (try with_reducible rfl))
                    (try simp only [Act.put, List.setIfInBounds_toArray, List.set_cons_zero, List.set_cons_succ])
                    refine wpAnyH_take (i := 17) (oi := { dst := some 34, op := .binOp .geq 9 (.tmp 31) (.tmp 33) 9, type := _, pos := _, after := _, guard := some (7, true) }) (v := .bool false) rfl (by kernel_rfl) (by kernel_rfl) (by kernel_rfl) (fun _ _ _ h => h) ?_ hHeld ?_
                    · (refine Or.inl ⟨by rfl, fun w hSw => ?_⟩; (try dsimp only at hSw); go_simp; (try rfl))
                    (try simp only [Act.put, List.setIfInBounds_toArray, List.set_cons_zero, List.set_cons_succ])
                    refine wpAnyH_take (i := 18) (oi := { dst := some 35, op := .pick (.tmp 24) (.tmp 34) (.const (.bool false)), type := _, pos := _, after := _, guard := some (4, false) }) (v := ?_) rfl (by kernel_rfl) (by kernel_rfl) (by kernel_rfl) (fun _ _ _ h => h) ?_ hHeld ?_
                    rotate_left
                    · (refine Or.inl ⟨by rfl, fun w hSw => ?_⟩; (try dsimp only at hSw); go_simp; (try with_reducible rfl))
                    (try simp only [Act.put, List.setIfInBounds_toArray, List.set_cons_zero, List.set_cons_succ])
                    refine wpAnyH_take (i := 19) (oi := { dst := some 36, op := .pick (.tmp 21) (.const (.bool true)) (.tmp 35), type := _, pos := _, after := _, guard := none }) (v := ?_) rfl (by kernel_rfl) (by kernel_rfl) (by kernel_rfl) (fun _ _ _ h => h) ?_ hHeld ?_
                    rotate_left
                    · (refine Or.inl ⟨by rfl, fun w hSw => ?_⟩; (try dsimp only at hSw); go_simp; (try with_reducible rfl))
                    (try simp only [Act.put, List.setIfInBounds_toArray, List.set_cons_zero, List.set_cons_succ])
                    refine wpAnyH_take (i := 20) (oi := { dst := some 37, op := .move (.tmp 36), type := _, pos := _, after := _, guard := none }) (v := ?_) rfl (by kernel_rfl) (by kernel_rfl) (by kernel_rfl) (fun _ _ _ h => h) ?_ hHeld ?_
                    rotate_left
                    · (refine Or.inl ⟨by rfl, fun w hSw => ?_⟩; (try dsimp only at hSw); go_simp; (try with_reducible rfl))
                    (try simp only [Act.put, List.setIfInBounds_toArray, List.set_cons_zero, List.set_cons_succ])
                    refine wpAnyH_take (i := 21) (oi := { dst := some 38, op := .fieldAddr 73 (.tmp 4) 1, type := _, pos := _, after := _, guard := some (20, false) }) (v := ?_) rfl (by kernel_rfl) (by kernel_rfl) (by kernel_rfl) (fun _ _ _ h => h) ?_ hHeld ?_
                    rotate_left
                    · (refine Or.inl ⟨by rfl, fun w hSw => ?_⟩; (try dsimp only at hSw); go_simp; (try with_reducible rfl))
                    (try simp only [Act.put, List.setIfInBounds_toArray, List.set_cons_zero, List.set_cons_succ])
                    refine wpAnyH_take (i := 22) (oi := { dst := some 39, op := .load 27 (.tmp 38), type := _, pos := _, after := _, guard := some (20, false) }) (v := ?_) rfl (by kernel_rfl) (by kernel_rfl) (by kernel_rfl) (fun _ _ _ h => h) ?_ hHeld ?_
                    rotate_left
                    · (refine Or.inl ⟨by rfl, fun w hSw => ?_⟩; (try dsimp only at hSw); go_simp; (try with_reducible rfl))
                    (try simp only [Act.put, List.setIfInBounds_toArray, List.set_cons_zero, List.set_cons_succ])
                    refine wpAnyH_ready (rs := [23]) (by kernel_rfl) (by simp) ?_
                    refine AllReadyH.cons (o := { dst := some 40, op := .call { callee := .value (.func 32), args := #[(.tmp 39)], argTypes := #[27] }, type := _, pos := _, after := _, guard := some (20, false) }) rfl (fun K hK => ?_) AllReadyH.nil
                    go_simp
                    (with_reducible refine (V2.out _ hHeld.2.2.2.2.2).mono ?_); rintro e wV ⟨rfl, hbV⟩
                    (try go_wp2_with fail)
                    refine hK.out _ _ ?_ (fun hH2 => ?_)
                    · exact ⟨hHeld.2.2.2.2.2.cell hbV (by simp only [World.size_alloc]; omega) hHeld.1, hHeld.2.2.2.2.2.cell hbV (by simp only [World.size_alloc]; omega) hHeld.2.1, hHeld.2.2.2.2.2.cell hbV (by simp only [World.size_alloc]; omega) hHeld.2.2.1, hHeld.2.2.2.2.2.cell hbV (by simp only [World.size_alloc]; omega) hHeld.2.2.2.1, hHeld.2.2.2.2.2.cell hbV (by simp only [World.size_alloc]; omega) hHeld.2.2.2.2.1, hHeld.2.2.2.2.2.call hbV⟩
                    clear hK K hHeld
                    have hHeld := hH2
                    clear hH2
                    (try simp only [Act.put, List.setIfInBounds_toArray, List.set_cons_zero, List.set_cons_succ])
                    refine wpAnyH_take (i := 24) (oi := { dst := some 41, op := .unOp .not 4 (.tmp 40), type := _, pos := _, after := _, guard := some (20, false) }) (v := ?_) rfl (by kernel_rfl) (by kernel_rfl) (by kernel_rfl) (fun _ _ _ h => h) ?_ hHeld ?_
                    rotate_left
                    · (refine Or.inl ⟨by rfl, fun w hSw => ?_⟩; (try dsimp only at hSw); go_simp; (try with_reducible rfl))
                    (try simp only [Act.put, List.setIfInBounds_toArray, List.set_cons_zero, List.set_cons_succ])
                    refine wpAnyH_take (i := 25) (oi := { dst := some 42, op := .pick (.tmp 37) (.const (.bool true)) (.tmp 41), type := _, pos := _, after := _, guard := none }) (v := ?_) rfl (by kernel_rfl) (by kernel_rfl) (by kernel_rfl) (fun _ _ _ h => h) ?_ hHeld ?_
                    rotate_left
                    · (refine Or.inl ⟨by rfl, fun w hSw => ?_⟩; (try dsimp only at hSw); go_simp; (try with_reducible rfl))
                    (try simp only [Act.put, List.setIfInBounds_toArray, List.set_cons_zero, List.set_cons_succ])
                    refine wpAnyH_take (i := 26) (oi := { dst := some 43, op := .move (.tmp 42), type := _, pos := _, after := _, guard := none }) (v := ?_) rfl (by kernel_rfl) (by kernel_rfl) (by kernel_rfl) (fun _ _ _ h => h) ?_ hHeld ?_
                    rotate_left
                    · (refine Or.inl ⟨by rfl, fun w hSw => ?_⟩; (try dsimp only at hSw); go_simp; (try with_reducible rfl))
                    (try simp only [Act.put, List.setIfInBounds_toArray, List.set_cons_zero, List.set_cons_succ])
                    refine wpAnyH_take (i := 27) (oi := { dst := some 44, op := .fieldAddr 73 (.tmp 4) 1, type := _, pos := _, after := _, guard := some (26, false) }) (v := ?_) rfl (by kernel_rfl) (by kernel_rfl) (by kernel_rfl) (fun _ _ _ h => h) ?_ hHeld ?_
                    rotate_left
                    · (refine Or.inl ⟨by rfl, fun w hSw => ?_⟩; (try dsimp only at hSw); go_simp; (try with_reducible rfl))
                    (try simp only [Act.put, List.setIfInBounds_toArray, List.set_cons_zero, List.set_cons_succ])
                    refine wpAnyH_take (i := 28) (oi := { dst := some 45, op := .fieldAddr 27 (.tmp 44) 1, type := _, pos := _, after := _, guard := some (26, false) }) (v := ?_) rfl (by kernel_rfl) (by kernel_rfl) (by kernel_rfl) (fun _ _ _ h => h) ?_ hHeld ?_
                    rotate_left
                    · (refine Or.inl ⟨by rfl, fun w hSw => ?_⟩; (try dsimp only at hSw); go_simp; (try with_reducible rfl))
                    (try simp only [Act.put, List.setIfInBounds_toArray, List.set_cons_zero, List.set_cons_succ])
                    refine wpAnyH_take (i := 29) (oi := { dst := some 46, op := .load 22 (.tmp 45), type := _, pos := _, after := _, guard := some (26, false) }) (v := ?_) rfl (by kernel_rfl) (by kernel_rfl) (by kernel_rfl) (fun _ _ _ h => h) ?_ hHeld ?_
                    rotate_left
                    · (refine Or.inl ⟨by rfl, fun w hSw => ?_⟩; (try dsimp only at hSw); go_simp; (try with_reducible rfl))
                    (try simp only [Act.put, List.setIfInBounds_toArray, List.set_cons_zero, List.set_cons_succ])
                    refine wpAnyH_take (i := 30) (oi := { dst := some 47, op := .call { callee := .builtin .len, args := #[(.tmp 46)], argTypes := #[22] }, type := _, pos := _, after := _, guard := some (26, false) }) (v := ?_) rfl (by kernel_rfl) (by kernel_rfl) (by kernel_rfl) (fun _ _ _ h => h) ?_ hHeld ?_
                    rotate_left
                    · (refine Or.inl ⟨by rfl, fun w hSw => ?_⟩; (try dsimp only at hSw); go_simp; (try with_reducible rfl))
                    (try simp only [Act.put, List.setIfInBounds_toArray, List.set_cons_zero, List.set_cons_succ])
                    refine wpAnyH_take (i := 31) (oi := { dst := some 48, op := .binOp .gtr 3 (.tmp 47) (.const (.int .i64 16)) 3, type := _, pos := _, after := _, guard := some (26, false) }) (v := .bool false) rfl (by kernel_rfl) (by kernel_rfl) (by kernel_rfl) (fun _ _ _ h => h) ?_ hHeld ?_
                    · (refine Or.inl ⟨by rfl, fun w hSw => ?_⟩; (try dsimp only at hSw); go_simp; (try omega))
                    (try simp only [Act.put, List.setIfInBounds_toArray, List.set_cons_zero, List.set_cons_succ])
                    refine wpAnyH_take (i := 32) (oi := { dst := some 49, op := .pick (.tmp 43) (.const (.bool true)) (.tmp 48), type := _, pos := _, after := _, guard := none }) (v := ?_) rfl (by kernel_rfl) (by kernel_rfl) (by kernel_rfl) (fun _ _ _ h => h) ?_ hHeld ?_
                    rotate_left
                    · (refine Or.inl ⟨by rfl, fun w hSw => ?_⟩; (try dsimp only at hSw); go_simp; (try with_reducible rfl))
                    (try simp only [Act.put, List.setIfInBounds_toArray, List.set_cons_zero, List.set_cons_succ])
                    refine wpAnyH_take (i := 33) (oi := { dst := some 50, op := .move (.tmp 49), type := _, pos := _, after := _, guard := none }) (v := ?_) rfl (by kernel_rfl) (by kernel_rfl) (by kernel_rfl) (fun _ _ _ h => h) ?_ hHeld ?_
                    rotate_left
                    · (refine Or.inl ⟨by rfl, fun w hSw => ?_⟩; (try dsimp only at hSw); go_simp; (try with_reducible rfl))
                    (try simp only [Act.put, List.setIfInBounds_toArray, List.set_cons_zero, List.set_cons_succ])
                    refine wpAnyH_take (i := 34) (oi := { dst := some 51, op := .fieldAddr 73 (.tmp 4) 1, type := _, pos := _, after := _, guard := some (33, false) }) (v := ?_) rfl (by kernel_rfl) (by kernel_rfl) (by kernel_rfl) (fun _ _ _ h => h) ?_ hHeld ?_
                    rotate_left
                    · (refine Or.inl ⟨by rfl, fun w hSw => ?_⟩; (try dsimp only at hSw); go_simp; (try with_reducible rfl))
                    (try simp only [Act.put, List.setIfInBounds_toArray, List.set_cons_zero, List.set_cons_succ])
                    refine wpAnyH_take (i := 35) (oi := { dst := some 52, op := .fieldAddr 27 (.tmp 51) 0, type := _, pos := _, after := _, guard := some (33, false) }) (v := ?_) rfl (by kernel_rfl) (by kernel_rfl) (by kernel_rfl) (fun _ _ _ h => h) ?_ hHeld ?_
                    rotate_left
                    · (refine Or.inl ⟨by rfl, fun w hSw => ?_⟩; (try dsimp only at hSw); go_simp; (try with_reducible rfl))
                    (try simp only [Act.put, List.setIfInBounds_toArray, List.set_cons_zero, List.set_cons_succ])
                    refine wpAnyH_take (i := 36) (oi := { dst := some 53, op := .load 3 (.tmp 52), type := _, pos := _, after := _, guard := some (33, false) }) (v := ?_) rfl (by kernel_rfl) (by kernel_rfl) (by kernel_rfl) (fun _ _ _ h => h) ?_ hHeld ?_
                    rotate_left
                    · (refine Or.inl ⟨by rfl, fun w hSw => ?_⟩; (try dsimp only at hSw); go_simp; (try with_reducible rfl))
                    (try simp only [Act.put, List.setIfInBounds_toArray, List.set_cons_zero, List.set_cons_succ])
                    refine wpAnyH_take (i := 37) (oi := { dst := some 54, op := .binOp .lss 3 (.tmp 53) (.const (.int .i64 1)) 3, type := _, pos := _, after := _, guard := some (33, false) }) (v := .bool false) rfl (by kernel_rfl) (by kernel_rfl) (by kernel_rfl) (fun _ _ _ h => h) ?_ hHeld ?_
                    · (refine Or.inl ⟨by rfl, fun w hSw => ?_⟩; (try dsimp only at hSw); go_simp; (try omega))
                    (try simp only [Act.put, List.setIfInBounds_toArray, List.set_cons_zero, List.set_cons_succ])
                    refine wpAnyH_take (i := 38) (oi := { dst := some 55, op := .pick (.tmp 50) (.const (.bool true)) (.tmp 54), type := _, pos := _, after := _, guard := none }) (v := ?_) rfl (by kernel_rfl) (by kernel_rfl) (by kernel_rfl) (fun _ _ _ h => h) ?_ hHeld ?_
                    rotate_left
                    · (refine Or.inl ⟨by rfl, fun w hSw => ?_⟩; (try dsimp only at hSw); go_simp; (try with_reducible rfl))
                    (try simp only [Act.put, List.setIfInBounds_toArray, List.set_cons_zero, List.set_cons_succ])
                    refine wpAnyH_done (by kernel_rfl) ?_ _
                    go_wp2_with fail
                    go_meet
                    exact ⟨by first | rfl | trivial, hHeld.2.2.2.2.2⟩
                  case rest =>
                    obtain ⟨rfl, hbx⟩ := hcut
                    obtain ⟨w5, rfl⟩ : ∃ wo : World, wo = wc := ⟨_, rfl⟩
                    have HB := hid (HB2.out.trans (hbx.bel.mono (by simp only [World.size_alloc]; omega)))
                    have HK := hid (HK2.out.below hbx.bel)
                    clear hbx c0 c1 c2 p0 s0 s1 s2 s3 ew hlb d0 s4
                    go_wp2
                    go_roundw
                    case rel => exact ⟨k + 1, by omega, by go_num, HF, HK, HB⟩
                    case measure => simp [intOf]; omega
        · have g1 : decide ((0 : Int) < (k : Int)) = false := by simp; omega
          have g2 : decide (0 < k) = false := by simp; omega
          cases vr with
          | false =>
            have hf := hid (vDb_no k hlt (fit_t k hlt (vT_rel HV.out)))
            go_upto_region 5 with fail
            go_cut [55] (fun s wx => s = .bool true ∧ Kp (wr.alloc (.cells #[.string x[k].1, .int .i64 x[k].2.1, .slice aj x[k].2.2.length capj] 73)) 0 wx)
            case first =>
              refine wp_region_held_drew (S := (fun w' => w'.cell? ⟨w.heap.size, 0, none⟩ = some (.slice (some ⟨b, off, none⟩) x.length cap) ∧ w'.cell? ⟨wr.heap.size, 0, none⟩ = some (.string x[k].1) ∧ w'.cell? ⟨wr.heap.size, 1, none⟩ = some (.int .i64 x[k].2.1) ∧ w'.cell? ⟨wr.heap.size, 2, none⟩ = some (.slice aj x[k].2.2.length capj) ∧ Kp (wr.alloc (.cells #[.string x[k].1, .int .i64 x[k].2.1, .slice aj x[k].2.2.length capj] 73)) 0 w')) (by kernel_rfl) ⟨s0, s1, s2, s3, (kp_refl _).drew⟩ (fun hHeld => ?_)
              refine wpAnyH_take (i := 0) (oi := { dst := some 17, op := .fieldAddr 73 (.tmp 4) 0, type := _, pos := _, after := _, guard := none }) (v := ?_) rfl (by kernel_rfl) (by kernel_rfl) (by kernel_rfl) (fun _ _ _ h => h) ?_ hHeld ?_
              rotate_left
              · (refine Or.inl ⟨by rfl, fun w hSw => ?_⟩; (try dsimp only at hSw); go_simp; (try with_reducible rfl))
              (try simp only [Act.put, List.setIfInBounds_toArray, List.set_cons_zero, List.set_cons_succ])
              refine wpAnyH_take (i := 1) (oi := { dst := some 18, op := .load 9 (.tmp 17), type := _, pos := _, after := _, guard := none }) (v := ?_) rfl (by kernel_rfl) (by kernel_rfl) (by kernel_rfl) (fun _ _ _ h => h) ?_ hHeld ?_
              rotate_left
              · (refine Or.inl ⟨by rfl, fun w hSw => ?_⟩; (try dsimp only at hSw); go_simp; (try with_reducible rfl))
              (try simp only [Act.put, List.setIfInBounds_toArray, List.set_cons_zero, List.set_cons_succ])
              refine wpAnyH_ready (rs := [2]) (by kernel_rfl) (by simp) ?_
              refine AllReadyH.cons (o := { dst := some 19, op := .call { callee := .value (.func 72), args := #[(.tmp 18)], argTypes := #[9] }, type := _, pos := _, after := _, guard := none }) rfl (fun K hK => ?_) AllReadyH.nil
              go_simp
              (with_reducible refine (N2.out _).mono ?_); rintro e wU ⟨rfl, rfl⟩
              (try go_wp2_with fail)
              refine hK.out _ _ ?_ (fun hH2 => ?_)
              · exact hHeld
              clear hK K hHeld
              have hHeld := hH2
              clear hH2
              (try simp only [Act.put, List.setIfInBounds_toArray, List.set_cons_zero, List.set_cons_succ])
              refine wpAnyH_take (i := 3) (oi := { dst := some 20, op := .unOp .not 4 (.tmp 19), type := _, pos := _, after := _, guard := none }) (v := ?_) rfl (by kernel_rfl) (by kernel_rfl) (by kernel_rfl) (fun _ _ _ h => h) ?_ hHeld ?_
              rotate_left
              · (refine Or.inl ⟨by rfl, fun w hSw => ?_⟩; (try dsimp only at hSw); go_simp; (try with_reducible rfl))
              (try simp only [Act.put, List.setIfInBounds_toArray, List.set_cons_zero, List.set_cons_succ])
              refine wpAnyH_take (i := 4) (oi := { dst := some 21, op := .move (.tmp 20), type := _, pos := _, after := _, guard := none }) (v := ?_) rfl (by kernel_rfl) (by kernel_rfl) (by kernel_rfl) (fun _ _ _ h => h) ?_ hHeld ?_
              rotate_left
              · (refine Or.inl ⟨by rfl, fun w hSw => ?_⟩; (try dsimp only at hSw); go_simp; (try with_reducible rfl))
              (try simp only [Act.put, List.setIfInBounds_toArray, List.set_cons_zero, List.set_cons_succ])
              refine wpAnyH_take (i := 5) (oi := { dst := some 22, op := .move (.tmp 3), type := _, pos := _, after := _, guard := some (4, false) }) (v := ?_) rfl (by kernel_rfl) (by kernel_rfl) (by kernel_rfl) (fun _ _ _ h => h) ?_ hHeld ?_
              rotate_left
              · (refine Or.inl ⟨by rfl, fun w hSw => ?_⟩; (try dsimp only at hSw); go_simp; (try with_reducible rfl))
              (try simp only [Act.put, List.setIfInBounds_toArray, List.set_cons_zero, List.set_cons_succ])
              refine wpAnyH_take (i := 6) (oi := { dst := some 23, op := .binOp .gtr 3 (.tmp 22) (.const (.int .i64 0)) 3, type := _, pos := _, after := _, guard := some (4, false) }) (v := .bool false) rfl (by kernel_rfl) (by kernel_rfl) (by kernel_rfl) (fun _ _ _ h => h) ?_ hHeld ?_
              · (refine Or.inl ⟨by rfl, fun w hSw => ?_⟩; (try dsimp only at hSw); go_simp; (try omega))
              (try simp only [Act.put, List.setIfInBounds_toArray, List.set_cons_zero, List.set_cons_succ])
              refine wpAnyH_take (i := 7) (oi := { dst := some 24, op := .move (.tmp 23), type := _, pos := _, after := _, guard := some (4, false) }) (v := ?_) rfl (by kernel_rfl) (by kernel_rfl) (by kernel_rfl) (fun _ _ _ h => h) ?_ hHeld ?_
              rotate_left
              · (refine Or.inl ⟨by rfl, fun w hSw => ?_⟩; (try dsimp only at hSw); go_simp; (try with_reducible rfl))
              (try simp only [Act.put, List.setIfInBounds_toArray, List.set_cons_zero, List.set_cons_succ])
              refine wpAnyH_take (i := 8) (oi := { dst := some 25, op := .fieldAddr 44 (.tmp 1) 0, type := _, pos := _, after := _, guard := some (7, true) }) (v := undef) rfl (by kernel_rfl) (by kernel_rfl) (by kernel_rfl) (fun _ _ _ h => h) (Or.inr ?_) hHeld ?_
              · exact ⟨by rfl, rfl⟩
              (try simp only [Act.put, List.setIfInBounds_toArray, List.set_cons_zero, List.set_cons_succ])
              refine wpAnyH_take (i := 9) (oi := { dst := some 26, op := .load 42 (.tmp 25), type := _, pos := _, after := _, guard := some (7, true) }) (v := undef) rfl (by kernel_rfl) (by kernel_rfl) (by kernel_rfl) (fun _ _ _ h => h) (Or.inr ?_) hHeld ?_
              · exact ⟨by rfl, rfl⟩
              (try simp only [Act.put, List.setIfInBounds_toArray, List.set_cons_zero, List.set_cons_succ])
              refine wpAnyH_take (i := 10) (oi := { dst := some 27, op := .move (.tmp 3), type := _, pos := _, after := _, guard := some (7, true) }) (v := undef) rfl (by kernel_rfl) (by kernel_rfl) (by kernel_rfl) (fun _ _ _ h => h) (Or.inr ?_) hHeld ?_
              · exact ⟨by rfl, rfl⟩
              (try simp only [Act.put, List.setIfInBounds_toArray, List.set_cons_zero, List.set_cons_succ])
              refine wpAnyH_take (i := 11) (oi := { dst := some 28, op := .binOp .sub 3 (.tmp 27) (.const (.int .i64 1)) 3, type := _, pos := _, after := _, guard := some (7, true) }) (v := undef) rfl (by kernel_rfl) (by kernel_rfl) (by kernel_rfl) (fun _ _ _ h => h) (Or.inr ?_) hHeld ?_
              · exact ⟨by rfl, rfl⟩
              (try simp only [Act.put, List.setIfInBounds_toArray, List.set_cons_zero, List.set_cons_succ])
              refine wpAnyH_take (i := 12) (oi := { dst := some 29, op := .indexAddr 42 (.tmp 26) (.tmp 28), type := _, pos := _, after := _, guard := some (7, true) }) (v := undef) rfl (by kernel_rfl) (by kernel_rfl) (by kernel_rfl) (fun _ _ _ h => h) (Or.inr ?_) hHeld ?_
              · exact ⟨by rfl, rfl⟩
              (try simp only [Act.put, List.setIfInBounds_toArray, List.set_cons_zero, List.set_cons_succ])
              refine wpAnyH_take (i := 13) (oi := { dst := some 30, op := .fieldAddr 73 (.tmp 29) 0, type := _, pos := _, after := _, guard := some (7, true) }) (v := undef) rfl (by kernel_rfl) (by kernel_rfl) (by kernel_rfl) (fun _ _ _ h => h) (Or.inr ?_) hHeld ?_
              · exact ⟨by rfl, rfl⟩
              (try simp only [Act.put, List.setIfInBounds_toArray, List.set_cons_zero, List.set_cons_succ])
              refine wpAnyH_take (i := 14) (oi := { dst := some 31, op := .load 9 (.tmp 30), type := _, pos := _, after := _, guard := some (7, true) }) (v := undef) rfl (by kernel_rfl) (by kernel_rfl) (by kernel_rfl) (fun _ _ _ h => h) (Or.inr ?_) hHeld ?_
              · exact ⟨by rfl, rfl⟩
              (try simp only [Act.put, List.setIfInBounds_toArray, List.set_cons_zero, List.set_cons_succ])
              refine wpAnyH_take (i := 15) (oi := { dst := some 32, op := .fieldAddr 73 (.tmp 4) 0, type := _, pos := _, after := _, guard := some (7, true) }) (v := undef) rfl (by kernel_rfl) (by kernel_rfl) (by kernel_rfl) (fun _ _ _ h => h) (Or.inr ?_) hHeld ?_
              · exact ⟨by rfl, rfl⟩
              (try simp only [Act.put, List.setIfInBounds_toArray, List.set_cons_zero, List.set_cons_succ])
              refine wpAnyH_take (i := 16) (oi := { dst := some 33, op := .load 9 (.tmp 32), type := _, pos := _, after := _, guard := some (7, true) }) (v := undef) rfl (by kernel_rfl) (by kernel_rfl) (by kernel_rfl) (fun _ _ _ h => h) (Or.inr ?_) hHeld ?_
              · exact ⟨by rfl, rfl⟩
              (try simp only [Act.put, List.setIfInBounds_toArray, List.set_cons_zero, List.set_cons_succ])
              refine wpAnyH_take (i := 17) (oi := { dst := some 34, op := .binOp .geq 9 (.tmp 31) (.tmp 33) 9, type := _, pos := _, after := _, guard := some (7, true) }) (v := undef) rfl (by kernel_rfl) (by kernel_rfl) (by kernel_rfl) (fun _ _ _ h => h) (Or.inr ?_) hHeld ?_
              · exact ⟨by rfl, rfl⟩
              (try simp only [Act.put, List.setIfInBounds_toArray, List.set_cons_zero, List.set_cons_succ])
              refine wpAnyH_take (i := 18) (oi := { dst := some 35, op := .pick (.tmp 24) (.tmp 34) (.const (.bool false)), type := _, pos := _, after := _, guard := some (4, false) }) (v := ?_) rfl (by kernel_rfl) (by kernel_rfl) (by kernel_rfl) (fun _ _ _ h => h) ?_ hHeld ?_
              rotate_left
              · (refine Or.inl ⟨by rfl, fun w hSw => ?_⟩; (try dsimp only at hSw); go_simp; (try with_reducible rfl))
              (try simp only [Act.put, List.setIfInBounds_toArray, List.set_cons_zero, List.set_cons_succ])
              refine wpAnyH_take (i := 19) (oi := { dst := some 36, op := .pick (.tmp 21) (.const (.bool true)) (.tmp 35), type := _, pos := _, after := _, guard := none }) (v := ?_) rfl (by kernel_rfl) (by kernel_rfl) (by kernel_rfl) (fun _ _ _ h => h) ?_ hHeld ?_
              rotate_left
              · (refine Or.inl ⟨by rfl, fun w hSw => ?_⟩; (try dsimp only at hSw); go_simp; (try with_reducible rfl))
              (try simp only [Act.put, List.setIfInBounds_toArray, List.set_cons_zero, List.set_cons_succ])
              refine wpAnyH_take (i := 20) (oi := { dst := some 37, op := .move (.tmp 36), type := _, pos := _, after := _, guard := none }) (v := ?_) rfl (by kernel_rfl) (by kernel_rfl) (by kernel_rfl) (fun _ _ _ h => h) ?_ hHeld ?_
              rotate_left
              · (refine Or.inl ⟨by rfl, fun w hSw => ?_⟩; (try dsimp only at hSw); go_simp; (try with_reducible rfl))
              (try simp only [Act.put, List.setIfInBounds_toArray, List.set_cons_zero, List.set_cons_succ])
              refine wpAnyH_take (i := 21) (oi := { dst := some 38, op := .fieldAddr 73 (.tmp 4) 1, type := _, pos := _, after := _, guard := some (20, false) }) (v := ?_) rfl (by kernel_rfl) (by kernel_rfl) (by kernel_rfl) (fun _ _ _ h => h) ?_ hHeld ?_
              rotate_left
              · (refine Or.inl ⟨by rfl, fun w hSw => ?_⟩; (try dsimp only at hSw); go_simp; (try with_reducible rfl))
              (try simp only [Act.put, List.setIfInBounds_toArray, List.set_cons_zero, List.set_cons_succ])
              refine wpAnyH_take (i := 22) (oi := { dst := some 39, op := .load 27 (.tmp 38), type := _, pos := _, after := _, guard := some (20, false) }) (v := ?_) rfl (by kernel_rfl) (by kernel_rfl) (by kernel_rfl) (fun _ _ _ h => h) ?_ hHeld ?_
              rotate_left
              · (refine Or.inl ⟨by rfl, fun w hSw => ?_⟩; (try dsimp only at hSw); go_simp; (try with_reducible rfl))
              (try simp only [Act.put, List.setIfInBounds_toArray, List.set_cons_zero, List.set_cons_succ])
              refine wpAnyH_ready (rs := [23]) (by kernel_rfl) (by simp) ?_
              refine AllReadyH.cons (o := { dst := some 40, op := .call { callee := .value (.func 32), args := #[(.tmp 39)], argTypes := #[27] }, type := _, pos := _, after := _, guard := some (20, false) }) rfl (fun K hK => ?_) AllReadyH.nil
              go_simp
              (with_reducible refine (V2.out _ hHeld.2.2.2.2).mono ?_); rintro e wV ⟨rfl, hbV⟩
              (try go_wp2_with fail)
              refine hK.out _ _ ?_ (fun hH2 => ?_)
              · exact ⟨hHeld.2.2.2.2.cell hbV (by simp only [World.size_alloc]; omega) hHeld.1, hHeld.2.2.2.2.cell hbV (by simp only [World.size_alloc]; omega) hHeld.2.1, hHeld.2.2.2.2.cell hbV (by simp only [World.size_alloc]; omega) hHeld.2.2.1, hHeld.2.2.2.2.cell hbV (by simp only [World.size_alloc]; omega) hHeld.2.2.2.1, hHeld.2.2.2.2.call hbV⟩
              clear hK K hHeld
              have hHeld := hH2
              clear hH2
              (try simp only [Act.put, List.setIfInBounds_toArray, List.set_cons_zero, List.set_cons_succ])
              refine wpAnyH_take (i := 24) (oi := { dst := some 41, op := .unOp .not 4 (.tmp 40), type := _, pos := _, after := _, guard := some (20, false) }) (v := ?_) rfl (by kernel_rfl) (by kernel_rfl) (by kernel_rfl) (fun _ _ _ h => h) ?_ hHeld ?_
              rotate_left
              · (refine Or.inl ⟨by rfl, fun w hSw => ?_⟩; (try dsimp only at hSw); go_simp; (try with_reducible rfl))
              (try simp only [Act.put, List.setIfInBounds_toArray, List.set_cons_zero, List.set_cons_succ])
              refine wpAnyH_take (i := 25) (oi := { dst := some 42, op := .pick (.tmp 37) (.const (.bool true)) (.tmp 41), type := _, pos := _, after := _, guard := none }) (v := ?_) rfl (by kernel_rfl) (by kernel_rfl) (by kernel_rfl) (fun _ _ _ h => h) ?_ hHeld ?_
              rotate_left
              · (refine Or.inl ⟨by rfl, fun w hSw => ?_⟩; (try dsimp only at hSw); go_simp; (try with_reducible rfl))
              (try simp only [Act.put, List.setIfInBounds_toArray, List.set_cons_zero, List.set_cons_succ])
              refine wpAnyH_take (i := 26) (oi := { dst := some 43, op := .move (.tmp 42), type := _, pos := _, after := _, guard := none }) (v := ?_) rfl (by kernel_rfl) (by kernel_rfl) (by kernel_rfl) (fun _ _ _ h => h) ?_ hHeld ?_
              rotate_left
              · (refine Or.inl ⟨by rfl, fun w hSw => ?_⟩; (try dsimp only at hSw); go_simp; (try with_reducible rfl))
              (try simp only [Act.put, List.setIfInBounds_toArray, List.set_cons_zero, List.set_cons_succ])
              refine wpAnyH_take (i := 27) (oi := { dst := some 44, op := .fieldAddr 73 (.tmp 4) 1, type := _, pos := _, after := _, guard := some (26, false) }) (v := undef) rfl (by kernel_rfl) (by kernel_rfl) (by kernel_rfl) (fun _ _ _ h => h) (Or.inr ?_) hHeld ?_
              · exact ⟨by rfl, rfl⟩
              (try simp only [Act.put, List.setIfInBounds_toArray, List.set_cons_zero, List.set_cons_succ])
              refine wpAnyH_take (i := 28) (oi := { dst := some 45, op := .fieldAddr 27 (.tmp 44) 1, type := _, pos := _, after := _, guard := some (26, false) }) (v := undef) rfl (by kernel_rfl) (by kernel_rfl) (by kernel_rfl) (fun _ _ _ h => h) (Or.inr ?_) hHeld ?_
              · exact ⟨by rfl, rfl⟩
              (try simp only [Act.put, List.setIfInBounds_toArray, List.set_cons_zero, List.set_cons_succ])
              refine wpAnyH_take (i := 29) (oi := { dst := some 46, op := .load 22 (.tmp 45), type := _, pos := _, after := _, guard := some (26, false) }) (v := undef) rfl (by kernel_rfl) (by kernel_rfl) (by kernel_rfl) (fun _ _ _ h => h) (Or.inr ?_) hHeld ?_
              · exact ⟨by rfl, rfl⟩
              (try simp only [Act.put, List.setIfInBounds_toArray, List.set_cons_zero, List.set_cons_succ])
              refine wpAnyH_take (i := 30) (oi := { dst := some 47, op := .call { callee := .builtin .len, args := #[(.tmp 46)], argTypes := #[22] }, type := _, pos := _, after := _, guard := some (26, false) }) (v := undef) rfl (by kernel_rfl) (by kernel_rfl) (by kernel_rfl) (fun _ _ _ h => h) (Or.inr ?_) hHeld ?_
              · exact ⟨by rfl, rfl⟩
              (try simp only [Act.put, List.setIfInBounds_toArray, List.set_cons_zero, List.set_cons_succ])
              refine wpAnyH_take (i := 31) (oi := { dst := some 48, op := .binOp .gtr 3 (.tmp 47) (.const (.int .i64 16)) 3, type := _, pos := _, after := _, guard := some (26, false) }) (v := undef) rfl (by kernel_rfl) (by kernel_rfl) (by kernel_rfl) (fun _ _ _ h => h) (Or.inr ?_) hHeld ?_
              · exact ⟨by rfl, rfl⟩
              (try simp only [Act.put, List.setIfInBounds_toArray, List.set_cons_zero, List.set_cons_succ])
              refine wpAnyH_take (i := 32) (oi := { dst := some 49, op := .pick (.tmp 43) (.const (.bool true)) (.tmp 48), type := _, pos := _, after := _, guard := none }) (v := ?_) rfl (by kernel_rfl) (by kernel_rfl) (by kernel_rfl) (fun _ _ _ h => h) ?_ hHeld ?_
              rotate_left
              · (refine Or.inl ⟨by rfl, fun w hSw => ?_⟩; (try dsimp only at hSw); go_simp; (try with_reducible rfl))
              (try simp only [Act.put, List.setIfInBounds_toArray, List.set_cons_zero, List.set_cons_succ])
              refine wpAnyH_take (i := 33) (oi := { dst := some 50, op := .move (.tmp 49), type := _, pos := _, after := _, guard := none }) (v := ?_) rfl (by kernel_rfl) (by kernel_rfl) (by kernel_rfl) (fun _ _ _ h => h) ?_ hHeld ?_
              rotate_left
              · (refine Or.inl ⟨by rfl, fun w hSw => ?_⟩; (try dsimp only at hSw); go_simp; (try with_reducible rfl))
              (try simp only [Act.put, List.setIfInBounds_toArray, List.set_cons_zero, List.set_cons_succ])
              refine wpAnyH_take (i := 34) (oi := { dst := some 51, op := .fieldAddr 73 (.tmp 4) 1, type := _, pos := _, after := _, guard := some (33, false) }) (v := undef) rfl (by kernel_rfl) (by kernel_rfl) (by kernel_rfl) (fun _ _ _ h => h) (Or.inr ?_) hHeld ?_
              · exact ⟨by rfl, rfl⟩
              (try simp only [Act.put, List.setIfInBounds_toArray, List.set_cons_zero, List.set_cons_succ])
              refine wpAnyH_take (i := 35) (oi := { dst := some 52, op := .fieldAddr 27 (.tmp 51) 0, type := _, pos := _, after := _, guard := some (33, false) }) (v := undef) rfl (by kernel_rfl) (by kernel_rfl) (by kernel_rfl) (fun _ _ _ h => h) (Or.inr ?_) hHeld ?_
              · exact ⟨by rfl, rfl⟩
              (try simp only [Act.put, List.setIfInBounds_toArray, List.set_cons_zero, List.set_cons_succ])
              refine wpAnyH_take (i := 36) (oi := { dst := some 53, op := .load 3 (.tmp 52), type := _, pos := _, after := _, guard := some (33, false) }) (v := undef) rfl (by kernel_rfl) (by kernel_rfl) (by kernel_rfl) (fun _ _ _ h => h) (Or.inr ?_) hHeld ?_
              · exact ⟨by rfl, rfl⟩
              (try simp only [Act.put, List.setIfInBounds_toArray, List.set_cons_zero, List.set_cons_succ])
              refine wpAnyH_take (i := 37) (oi := { dst := some 54, op := .binOp .lss 3 (.tmp 53) (.const (.int .i64 1)) 3, type := _, pos := _, after := _, guard := some (33, false) }) (v := undef) rfl (by kernel_rfl) (by kernel_rfl) (by kernel_rfl) (fun _ _ _ h => h) (Or.inr ?_) hHeld ?_
              · exact ⟨by rfl, rfl⟩
              (try simp only [Act.put, List.setIfInBounds_toArray, List.set_cons_zero, List.set_cons_succ])
              refine wpAnyH_take (i := 38) (oi := { dst := some 55, op := .pick (.tmp 50) (.const (.bool true)) (.tmp 54), type := _, pos := _, after := _, guard := none }) (v := ?_) rfl (by kernel_rfl) (by kernel_rfl) (by kernel_rfl) (fun _ _ _ h => h) ?_ hHeld ?_
              rotate_left
              · (refine Or.inl ⟨by rfl, fun w hSw => ?_⟩; (try dsimp only at hSw); go_simp; (try with_reducible rfl))
              (try simp only [Act.put, List.setIfInBounds_toArray, List.set_cons_zero, List.set_cons_succ])
              refine wpAnyH_done (by kernel_rfl) ?_ _
              go_wp2_with fail
              go_meet
              exact ⟨by first | rfl | trivial, hHeld.2.2.2.2⟩
            case rest =>
              obtain ⟨rfl, hbx⟩ := hcut
              obtain ⟨w5, rfl⟩ : ∃ wo : World, wo = wc := ⟨_, rfl⟩
              have HB := hid (HB2.out.trans (hbx.bel.mono (by simp only [World.size_alloc]; omega)))
              have HK := hid (HK2.out.below hbx.bel)
              clear hbx c0 c1 c2 p0 s0 s1 s2 s3
              go_wp2
              go_ret
              exact ⟨by rw [hf.out]; rfl, HB.out⟩
          | true =>
            by_cases h16 : (16 : Int) < (x[k].2.2.length : Int)
            · have t16 : decide ((16 : Int) < (x[k].2.2.length : Int)) = true := by simp; omega
              have t16b : decide (16 < x[k].2.2.length) = true := by simp; omega
              have hf := hid (vDb_no k hlt (fit_t k hlt (vT_len (by omega))))
              go_upto_region 5 with fail
              go_cut [55] (fun s wx => s = .bool true ∧ Kp (wr.alloc (.cells #[.string x[k].1, .int .i64 x[k].2.1, .slice aj x[k].2.2.length capj] 73)) 0 wx)
              case first =>
                refine wp_region_held_drew (S := (fun w' => w'.cell? ⟨w.heap.size, 0, none⟩ = some (.slice (some ⟨b, off, none⟩) x.length cap) ∧ w'.cell? ⟨wr.heap.size, 0, none⟩ = some (.string x[k].1) ∧ w'.cell? ⟨wr.heap.size, 1, none⟩ = some (.int .i64 x[k].2.1) ∧ w'.cell? ⟨wr.heap.size, 2, none⟩ = some (.slice aj x[k].2.2.length capj) ∧ Kp (wr.alloc (.cells #[.string x[k].1, .int .i64 x[k].2.1, .slice aj x[k].2.2.length capj] 73)) 0 w')) (by kernel_rfl) ⟨s0, s1, s2, s3, (kp_refl _).drew⟩ (fun hHeld => ?_)
                refine wpAnyH_take (i := 0) (oi := { dst := some 17, op := .fieldAddr 73 (.tmp 4) 0, type := _, pos := _, after := _, guard := none }) (v := ?_) rfl (by kernel_rfl) (by kernel_rfl) (by kernel_rfl) (fun _ _ _ h => h) ?_ hHeld ?_
                rotate_left
                · (refine Or.inl ⟨by rfl, fun w hSw => ?_⟩; (try dsimp only at hSw); go_simp; (try with_reducible rfl))
                (try simp only [Act.put, List.setIfInBounds_toArray, List.set_cons_zero, List.set_cons_succ])
                refine wpAnyH_take (i := 1) (oi := { dst := some 18, op := .load 9 (.tmp 17), type := _, pos := _, after := _, guard := none }) (v := ?_) rfl (by kernel_rfl) (by kernel_rfl) (by kernel_rfl) (fun _ _ _ h => h) ?_ hHeld ?_
                rotate_left
                · (refine Or.inl ⟨by rfl, fun w hSw => ?_⟩; (try dsimp only at hSw); go_simp; (try with_reducible rfl))
                (try simp only [Act.put, List.setIfInBounds_toArray, List.set_cons_zero, List.set_cons_succ])
                refine wpAnyH_ready (rs := [2]) (by kernel_rfl) (by simp) ?_
                refine AllReadyH.cons (o := { dst := some 19, op := .call { callee := .value (.func 72), args := #[(.tmp 18)], argTypes := #[9] }, type := _, pos := _, after := _, guard := none }) rfl (fun K hK => ?_) AllReadyH.nil
                go_simp
                (with_reducible refine (N2.out _).mono ?_); rintro e wU ⟨rfl, rfl⟩
                (try go_wp2_with fail)
                refine hK.out _ _ ?_ (fun hH2 => ?_)
                · exact hHeld
                clear hK K hHeld
                have hHeld := hH2
                clear hH2
                (try simp only [Act.put, List.setIfInBounds_toArray, List.set_cons_zero, List.set_cons_succ])
                refine wpAnyH_take (i := 3) (oi := { dst := some 20, op := .unOp .not 4 (.tmp 19), type := _, pos := _, after := _, guard := none }) (v := ?_) rfl (by kernel_rfl) (by kernel_rfl) (by kernel_rfl) (fun _ _ _ h => h) ?_ hHeld ?_
                rotate_left
                · (refine Or.inl ⟨by rfl, fun w hSw => ?_⟩; (try dsimp only at hSw); go_simp; (try with_reducible rfl))
                (try simp only [Act.put, List.setIfInBounds_toArray, List.set_cons_zero, List.set_cons_succ])
                refine wpAnyH_take (i := 4) (oi := { dst := some 21, op := .move (.tmp 20), type := _, pos := _, after := _, guard := none }) (v := ?_) rfl (by kernel_rfl) (by kernel_rfl) (by kernel_rfl) (fun _ _ _ h => h) ?_ hHeld ?_
                rotate_left
                · (refine Or.inl ⟨by rfl, fun w hSw => ?_⟩; (try dsimp only at hSw); go_simp; (try with_reducible rfl))
                (try simp only [Act.put, List.setIfInBounds_toArray, List.set_cons_zero, List.set_cons_succ])
                refine wpAnyH_take (i := 5) (oi := { dst := some 22, op := .move (.tmp 3), type := _, pos := _, after := _, guard := some (4, false) }) (v := ?_) rfl (by kernel_rfl) (by kernel_rfl) (by kernel_rfl) (fun _ _ _ h => h) ?_ hHeld ?_
                rotate_left
                · (refine Or.inl ⟨by rfl, fun w hSw => ?_⟩; (try dsimp only at hSw); go_simp; (try with_reducible rfl))
                (try simp only [Act.put, List.setIfInBounds_toArray, List.set_cons_zero, List.set_cons_succ])
                refine wpAnyH_take (i := 6) (oi := { dst := some 23, op := .binOp .gtr 3 (.tmp 22) (.const (.int .i64 0)) 3, type := _, pos := _, after := _, guard := some (4, false) }) (v := .bool false) rfl (by kernel_rfl) (by kernel_rfl) (by kernel_rfl) (fun _ _ _ h => h) ?_ hHeld ?_
                · (refine Or.inl ⟨by rfl, fun w hSw => ?_⟩; (try dsimp only at hSw); go_simp; (try omega))
                (try simp only [Act.put, List.setIfInBounds_toArray, List.set_cons_zero, List.set_cons_succ])
                refine wpAnyH_take (i := 7) (oi := { dst := some 24, op := .move (.tmp 23), type := _, pos := _, after := _, guard := some (4, false) }) (v := ?_) rfl (by kernel_rfl) (by kernel_rfl) (by kernel_rfl) (fun _ _ _ h => h) ?_ hHeld ?_
                rotate_left
                · (refine Or.inl ⟨by rfl, fun w hSw => ?_⟩; (try dsimp only at hSw); go_simp; (try with_reducible rfl))
                (try simp only [Act.put, List.setIfInBounds_toArray, List.set_cons_zero, List.set_cons_succ])
                refine wpAnyH_take (i := 8) (oi := { dst := some 25, op := .fieldAddr 44 (.tmp 1) 0, type := _, pos := _, after := _, guard := some (7, true) }) (v := undef) rfl (by kernel_rfl) (by kernel_rfl) (by kernel_rfl) (fun _ _ _ h => h) (Or.inr ?_) hHeld ?_
                · exact ⟨by rfl, rfl⟩
                (try simp only [Act.put, List.setIfInBounds_toArray, List.set_cons_zero, List.set_cons_succ])
                refine wpAnyH_take (i := 9) (oi := { dst := some 26, op := .load 42 (.tmp 25), type := _, pos := _, after := _, guard := some (7, true) }) (v := undef) rfl (by kernel_rfl) (by kernel_rfl) (by kernel_rfl) (fun _ _ _ h => h) (Or.inr ?_) hHeld ?_
                · exact ⟨by rfl, rfl⟩
                (try simp only [Act.put, List.setIfInBounds_toArray, List.set_cons_zero, List.set_cons_succ])
                refine wpAnyH_take (i := 10) (oi := { dst := some 27, op := .move (.tmp 3), type := _, pos := _, after := _, guard := some (7, true) }) (v := undef) rfl (by kernel_rfl) (by kernel_rfl) (by kernel_rfl) (fun _ _ _ h => h) (Or.inr ?_) hHeld ?_
                · exact ⟨by rfl, rfl⟩
                (try simp only [Act.put, List.setIfInBounds_toArray, List.set_cons_zero, List.set_cons_succ])
                refine wpAnyH_take (i := 11) (oi := { dst := some 28, op := .binOp .sub 3 (.tmp 27) (.const (.int .i64 1)) 3, type := _, pos := _, after := _, guard := some (7, true) }) (v := undef) rfl (by kernel_rfl) (by kernel_rfl) (by kernel_rfl) (fun _ _ _ h => h) (Or.inr ?_) hHeld ?_
                · exact ⟨by rfl, rfl⟩
                (try simp only [Act.put, List.setIfInBounds_toArray, List.set_cons_zero, List.set_cons_succ])
                refine wpAnyH_take (i := 12) (oi := { dst := some 29, op := .indexAddr 42 (.tmp 26) (.tmp 28), type := _, pos := _, after := _, guard := some (7, true) }) (v := undef) rfl (by kernel_rfl) (by kernel_rfl) (by kernel_rfl) (fun _ _ _ h => h) (Or.inr ?_) hHeld ?_
                · exact ⟨by rfl, rfl⟩
                (try simp only [Act.put, List.setIfInBounds_toArray, List.set_cons_zero, List.set_cons_succ])
                refine wpAnyH_take (i := 13) (oi := { dst := some 30, op := .fieldAddr 73 (.tmp 29) 0, type := _, pos := _, after := _, guard := some (7, true) }) (v := undef) rfl (by kernel_rfl) (by kernel_rfl) (by kernel_rfl) (fun _ _ _ h => h) (Or.inr ?_) hHeld ?_
                · exact ⟨by rfl, rfl⟩
                (try simp only [Act.put, List.setIfInBounds_toArray, List.set_cons_zero, List.set_cons_succ])
                refine wpAnyH_take (i := 14) (oi := { dst := some 31, op := .load 9 (.tmp 30), type := _, pos := _, after := _, guard := some (7, true) }) (v := undef) rfl (by kernel_rfl) (by kernel_rfl) (by kernel_rfl) (fun _ _ _ h => h) (Or.inr ?_) hHeld ?_
                · exact ⟨by rfl, rfl⟩
                (try simp only [Act.put, List.setIfInBounds_toArray, List.set_cons_zero, List.set_cons_succ])
                refine wpAnyH_take (i := 15) (oi := { dst := some 32, op := .fieldAddr 73 (.tmp 4) 0, type := _, pos := _, after := _, guard := some (7, true) }) (v := undef) rfl (by kernel_rfl) (by kernel_rfl) (by kernel_rfl) (fun _ _ _ h => h) (Or.inr ?_) hHeld ?_
                · exact ⟨by rfl, rfl⟩
                (try simp only [Act.put, List.setIfInBounds_toArray, List.set_cons_zero, List.set_cons_succ])
                refine wpAnyH_take (i := 16) (oi := { dst := some 33, op := .load 9 (.tmp 32), type := _, pos := _, after := _, guard := some (7, true) }) (v := undef) rfl (by kernel_rfl) (by kernel_rfl) (by kernel_rfl) (fun _ _ _ h => h) (Or.inr ?_) hHeld ?_
                · exact ⟨by rfl, rfl⟩
                (try simp only [Act.put, List.setIfInBounds_toArray, List.set_cons_zero, List.set_cons_succ])
                refine wpAnyH_take (i := 17) (oi := { dst := some 34, op := .binOp .geq 9 (.tmp 31) (.tmp 33) 9, type := _, pos := _, after := _, guard := some (7, true) }) (v := undef) rfl (by kernel_rfl) (by kernel_rfl) (by kernel_rfl) (fun _ _ _ h => h) (Or.inr ?_) hHeld ?_
                · exact ⟨by rfl, rfl⟩
                (try simp only [Act.put, List.setIfInBounds_toArray, List.set_cons_zero, List.set_cons_succ])
                refine wpAnyH_take (i := 18) (oi := { dst := some 35, op := .pick (.tmp 24) (.tmp 34) (.const (.bool false)), type := _, pos := _, after := _, guard := some (4, false) }) (v := ?_) rfl (by kernel_rfl) (by kernel_rfl) (by kernel_rfl) (fun _ _ _ h => h) ?_ hHeld ?_
                rotate_left
                · (refine Or.inl ⟨by rfl, fun w hSw => ?_⟩; (try dsimp only at hSw); go_simp; (try with_reducible rfl))
                (try simp only [Act.put, List.setIfInBounds_toArray, List.set_cons_zero, List.set_cons_succ])
                refine wpAnyH_take (i := 19) (oi := { dst := some 36, op := .pick (.tmp 21) (.const (.bool true)) (.tmp 35), type := _, pos := _, after := _, guard := none }) (v := ?_) rfl (by kernel_rfl) (by kernel_rfl) (by kernel_rfl) (fun _ _ _ h => h) ?_ hHeld ?_
                rotate_left
                · (refine Or.inl ⟨by rfl, fun w hSw => ?_⟩; (try dsimp only at hSw); go_simp; (try with_reducible rfl))
                (try simp only [Act.put, List.setIfInBounds_toArray, List.set_cons_zero, List.set_cons_succ])
                refine wpAnyH_take (i := 20) (oi := { dst := some 37, op := .move (.tmp 36), type := _, pos := _, after := _, guard := none }) (v := ?_) rfl (by kernel_rfl) (by kernel_rfl) (by kernel_rfl) (fun _ _ _ h => h) ?_ hHeld ?_
                rotate_left
                · (refine Or.inl ⟨by rfl, fun w hSw => ?_⟩; (try dsimp only at hSw); go_simp; (try with_reducible rfl))
                (try simp only [Act.put, List.setIfInBounds_toArray, List.set_cons_zero, List.set_cons_succ])
                refine wpAnyH_take (i := 21) (oi := { dst := some 38, op := .fieldAddr 73 (.tmp 4) 1, type := _, pos := _, after := _, guard := some (20, false) }) (v := ?_) rfl (by kernel_rfl) (by kernel_rfl) (by kernel_rfl) (fun _ _ _ h => h) ?_ hHeld ?_
                rotate_left
                · (refine Or.inl ⟨by rfl, fun w hSw => ?_⟩; (try dsimp only at hSw); go_simp; (try with_reducible rfl))
                (try simp only [Act.put, List.setIfInBounds_toArray, List.set_cons_zero, List.set_cons_succ])
                refine wpAnyH_take (i := 22) (oi := { dst := some 39, op := .load 27 (.tmp 38), type := _, pos := _, after := _, guard := some (20, false) }) (v := ?_) rfl (by kernel_rfl) (by kernel_rfl) (by kernel_rfl) (fun _ _ _ h => h) ?_ hHeld ?_
                rotate_left
                · (refine Or.inl ⟨by rfl, fun w hSw => ?_⟩; (try dsimp only at hSw); go_simp; (try with_reducible rfl))
                (try simp only [Act.put, List.setIfInBounds_toArray, List.set_cons_zero, List.set_cons_succ])
                refine wpAnyH_ready (rs := [23]) (by kernel_rfl) (by simp) ?_
                refine AllReadyH.cons (o := { dst := some 40, op := .call { callee := .value (.func 32), args := #[(.tmp 39)], argTypes := #[27] }, type := _, pos := _, after := _, guard := some (20, false) }) rfl (fun K hK => ?_) AllReadyH.nil
                go_simp
                (with_reducible refine (V2.out _ hHeld.2.2.2.2).mono ?_); rintro e wV ⟨rfl, hbV⟩
                (try go_wp2_with fail)
                refine hK.out _ _ ?_ (fun hH2 => ?_)
                · exact ⟨hHeld.2.2.2.2.cell hbV (by simp only [World.size_alloc]; omega) hHeld.1, hHeld.2.2.2.2.cell hbV (by simp only [World.size_alloc]; omega) hHeld.2.1, hHeld.2.2.2.2.cell hbV (by simp only [World.size_alloc]; omega) hHeld.2.2.1, hHeld.2.2.2.2.cell hbV (by simp only [World.size_alloc]; omega) hHeld.2.2.2.1, hHeld.2.2.2.2.call hbV⟩
                clear hK K hHeld
                have hHeld := hH2
                clear hH2
                (try simp only [Act.put, List.setIfInBounds_toArray, List.set_cons_zero, List.set_cons_succ])
                refine wpAnyH_take (i := 24) (oi := { dst := some 41, op := .unOp .not 4 (.tmp 40), type := _, pos := _, after := _, guard := some (20, false) }) (v := ?_) rfl (by kernel_rfl) (by kernel_rfl) (by kernel_rfl) (fun _ _ _ h => h) ?_ hHeld ?_
                rotate_left
                · (refine Or.inl ⟨by rfl, fun w hSw => ?_⟩; (try dsimp only at hSw); go_simp; (try with_reducible rfl))
                (try simp only [Act.put, List.setIfInBounds_toArray, List.set_cons_zero, List.set_cons_succ])
                refine wpAnyH_take (i := 25) (oi := { dst := some 42, op := .pick (.tmp 37) (.const (.bool true)) (.tmp 41), type := _, pos := _, after := _, guard := none }) (v := ?_) rfl (by kernel_rfl) (by kernel_rfl) (by kernel_rfl) (fun _ _ _ h => h) ?_ hHeld ?_
                rotate_left
                · (refine Or.inl ⟨by rfl, fun w hSw => ?_⟩; (try dsimp only at hSw); go_simp; (try with_reducible rfl))
                (try simp only [Act.put, List.setIfInBounds_toArray, List.set_cons_zero, List.set_cons_succ])
                refine wpAnyH_take (i := 26) (oi := { dst := some 43, op := .move (.tmp 42), type := _, pos := _, after := _, guard := none }) (v := ?_) rfl (by kernel_rfl) (by kernel_rfl) (by kernel_rfl) (fun _ _ _ h => h) ?_ hHeld ?_
                rotate_left
                · (refine Or.inl ⟨by rfl, fun w hSw => ?_⟩; (try dsimp only at hSw); go_simp; (try with_reducible rfl))
                (try simp only [Act.put, List.setIfInBounds_toArray, List.set_cons_zero, List.set_cons_succ])
                refine wpAnyH_take (i := 27) (oi := { dst := some 44, op := .fieldAddr 73 (.tmp 4) 1, type := _, pos := _, after := _, guard := some (26, false) }) (v := ?_) rfl (by kernel_rfl) (by kernel_rfl) (by kernel_rfl) (fun _ _ _ h => h) ?_ hHeld ?_
                rotate_left
                · (refine Or.inl ⟨by rfl, fun w hSw => ?_⟩; (try dsimp only at hSw); go_simp; (try with_reducible rfl))
                (try simp only [Act.put, List.setIfInBounds_toArray, List.set_cons_zero, List.set_cons_succ])
                refine wpAnyH_take (i := 28) (oi := { dst := some 45, op := .fieldAddr 27 (.tmp 44) 1, type := _, pos := _, after := _, guard := some (26, false) }) (v := ?_) rfl (by kernel_rfl) (by kernel_rfl) (by kernel_rfl) (fun _ _ _ h => h) ?_ hHeld ?_
                rotate_left
                · (refine Or.inl ⟨by rfl, fun w hSw => ?_⟩; (try dsimp only at hSw); go_simp; (try with_reducible rfl))
                (try simp only [Act.put, List.setIfInBounds_toArray, List.set_cons_zero, List.set_cons_succ])
                refine wpAnyH_take (i := 29) (oi := { dst := some 46, op := .load 22 (.tmp 45), type := _, pos := _, after := _, guard := some (26, false) }) (v := ?_) rfl (by kernel_rfl) (by kernel_rfl) (by kernel_rfl) (fun _ _ _ h => h) ?_ hHeld ?_
                rotate_left
                · (refine Or.inl ⟨by rfl, fun w hSw => ?_⟩; (try dsimp only at hSw); go_simp; (try with_reducible rfl))
                (try simp only [Act.put, List.setIfInBounds_toArray, List.set_cons_zero, List.set_cons_succ])
                refine wpAnyH_take (i := 30) (oi := { dst := some 47, op := .call { callee := .builtin .len, args := #[(.tmp 46)], argTypes := #[22] }, type := _, pos := _, after := _, guard := some (26, false) }) (v := ?_) rfl (by kernel_rfl) (by kernel_rfl) (by kernel_rfl) (fun _ _ _ h => h) ?_ hHeld ?_
                rotate_left
                · (refine Or.inl ⟨by rfl, fun w hSw => ?_⟩; (try dsimp only at hSw); go_simp; (try with_reducible rfl))
                (try simp only [Act.put, List.setIfInBounds_toArray, List.set_cons_zero, List.set_cons_succ])
                refine wpAnyH_take (i := 31) (oi := { dst := some 48, op := .binOp .gtr 3 (.tmp 47) (.const (.int .i64 16)) 3, type := _, pos := _, after := _, guard := some (26, false) }) (v := .bool true) rfl (by kernel_rfl) (by kernel_rfl) (by kernel_rfl) (fun _ _ _ h => h) ?_ hHeld ?_
                · (refine Or.inl ⟨by rfl, fun w hSw => ?_⟩; (try dsimp only at hSw); go_simp; (try omega))
                (try simp only [Act.put, List.setIfInBounds_toArray, List.set_cons_zero, List.set_cons_succ])
                refine wpAnyH_take (i := 32) (oi := { dst := some 49, op := .pick (.tmp 43) (.const (.bool true)) (.tmp 48), type := _, pos := _, after := _, guard := none }) (v := ?_) rfl (by kernel_rfl) (by kernel_rfl) (by kernel_rfl) (fun _ _ _ h => h) ?_ hHeld ?_
                rotate_left
                · (refine Or.inl ⟨by rfl, fun w hSw => ?_⟩; (try dsimp only at hSw); go_simp; (try with_reducible rfl))
                (try simp only [Act.put, List.setIfInBounds_toArray, List.set_cons_zero, List.set_cons_succ])
                refine wpAnyH_take (i := 33) (oi := { dst := some 50, op := .move (.tmp 49), type := _, pos := _, after := _, guard := none }) (v := ?_) rfl (by kernel_rfl) (by kernel_rfl) (by kernel_rfl) (fun _ _ _ h => h) ?_ hHeld ?_
                rotate_left
                · (refine Or.inl ⟨by rfl, fun w hSw => ?_⟩; (try dsimp only at hSw); go_simp; (try with_reducible rfl))
                (try simp only [Act.put, List.setIfInBounds_toArray, List.set_cons_zero, List.set_cons_succ])
                refine wpAnyH_take (i := 34) (oi := { dst := some 51, op := .fieldAddr 73 (.tmp 4) 1, type := _, pos := _, after := _, guard := some (33, false) }) (v := undef) rfl (by kernel_rfl) (by kernel_rfl) (by kernel_rfl) (fun _ _ _ h => h) (Or.inr ?_) hHeld ?_
                · exact ⟨by rfl, rfl⟩
                (try simp only [Act.put, List.setIfInBounds_toArray, List.set_cons_zero, List.set_cons_succ])
                refine wpAnyH_take (i := 35) (oi := { dst := some 52, op := .fieldAddr 27 (.tmp 51) 0, type := _, pos := _, after := _, guard := some (33, false) }) (v := undef) rfl (by kernel_rfl) (by kernel_rfl) (by kernel_rfl) (fun _ _ _ h => h) (Or.inr ?_) hHeld ?_
                · exact ⟨by rfl, rfl⟩
                (try simp only [Act.put, List.setIfInBounds_toArray, List.set_cons_zero, List.set_cons_succ])
                refine wpAnyH_take (i := 36) (oi := { dst := some 53, op := .load 3 (.tmp 52), type := _, pos := _, after := _, guard := some (33, false) }) (v := undef) rfl (by kernel_rfl) (by kernel_rfl) (by kernel_rfl) (fun _ _ _ h => h) (Or.inr ?_) hHeld ?_
                · exact ⟨by rfl, rfl⟩
                (try simp only [Act.put, List.setIfInBounds_toArray, List.set_cons_zero, List.set_cons_succ])
                refine wpAnyH_take (i := 37) (oi := { dst := some 54, op := .binOp .lss 3 (.tmp 53) (.const (.int .i64 1)) 3, type := _, pos := _, after := _, guard := some (33, false) }) (v := undef) rfl (by kernel_rfl) (by kernel_rfl) (by kernel_rfl) (fun _ _ _ h => h) (Or.inr ?_) hHeld ?_
                · exact ⟨by rfl, rfl⟩
                (try simp only [Act.put, List.setIfInBounds_toArray, List.set_cons_zero, List.set_cons_succ])
                refine wpAnyH_take (i := 38) (oi := { dst := some 55, op := .pick (.tmp 50) (.const (.bool true)) (.tmp 54), type := _, pos := _, after := _, guard := none }) (v := ?_) rfl (by kernel_rfl) (by kernel_rfl) (by kernel_rfl) (fun _ _ _ h => h) ?_ hHeld ?_
                rotate_left
                · (refine Or.inl ⟨by rfl, fun w hSw => ?_⟩; (try dsimp only at hSw); go_simp; (try with_reducible rfl))
                (try simp only [Act.put, List.setIfInBounds_toArray, List.set_cons_zero, List.set_cons_succ])
                refine wpAnyH_done (by kernel_rfl) ?_ _
                go_wp2_with fail
                go_meet
                exact ⟨by first | rfl | trivial, hHeld.2.2.2.2⟩
              case rest =>
                obtain ⟨rfl, hbx⟩ := hcut
                obtain ⟨w5, rfl⟩ : ∃ wo : World, wo = wc := ⟨_, rfl⟩
                have HB := hid (HB2.out.trans (hbx.bel.mono (by simp only [World.size_alloc]; omega)))
                have HK := hid (HK2.out.below hbx.bel)
                clear hbx c0 c1 c2 p0 s0 s1 s2 s3
                go_wp2
                go_ret
                exact ⟨by rw [hf.out]; rfl, HB.out⟩
            · have t16 : decide ((16 : Int) < (x[k].2.2.length : Int)) = false := by simp; omega
              have t16b : decide (16 < x[k].2.2.length) = false := by simp; omega
              by_cases har : x[k].2.1 < 1
              · have tar : decide (x[k].2.1 < 1) = true := by simp; omega
                have hf := hid (vDb_no k hlt (fit_t k hlt (vT_ar (by omega))))
                go_upto_region 5 with fail
                go_cut [55] (fun s wx => s = .bool true ∧ Kp (wr.alloc (.cells #[.string x[k].1, .int .i64 x[k].2.1, .slice aj x[k].2.2.length capj] 73)) 0 wx)
                case first =>
                  refine wp_region_held_drew (S := (fun w' => w'.cell? ⟨w.heap.size, 0, none⟩ = some (.slice (some ⟨b, off, none⟩) x.length cap) ∧ w'.cell? ⟨wr.heap.size, 0, none⟩ = some (.string x[k].1) ∧ w'.cell? ⟨wr.heap.size, 1, none⟩ = some (.int .i64 x[k].2.1) ∧ w'.cell? ⟨wr.heap.size, 2, none⟩ = some (.slice aj x[k].2.2.length capj) ∧ Kp (wr.alloc (.cells #[.string x[k].1, .int .i64 x[k].2.1, .slice aj x[k].2.2.length capj] 73)) 0 w')) (by kernel_rfl) ⟨s0, s1, s2, s3, (kp_refl _).drew⟩ (fun hHeld => ?_)
                  refine wpAnyH_take (i := 0) (oi := { dst := some 17, op := .fieldAddr 73 (.tmp 4) 0, type := _, pos := _, after := _, guard := none }) (v := ?_) rfl (by kernel_rfl) (by kernel_rfl) (by kernel_rfl) (fun _ _ _ h => h) ?_ hHeld ?_
                  rotate_left
                  · (refine Or.inl ⟨by rfl, fun w hSw => ?_⟩; (try dsimp only at hSw); go_simp; (try with_reducible rfl))
                  (try simp only [Act.put, List.setIfInBounds_toArray, List.set_cons_zero, List.set_cons_succ])
                  refine wpAnyH_take (i := 1) (oi := { dst := some 18, op := .load 9 (.tmp 17), type := _, pos := _, after := _, guard := none }) (v := ?_) rfl (by kernel_rfl) (by kernel_rfl) (by kernel_rfl) (fun _ _ _ h => h) ?_ hHeld ?_
                  rotate_left
                  · (refine Or.inl ⟨by rfl, fun w hSw => ?_⟩; (try dsimp only at hSw); go_simp; (try with_reducible rfl))
                  (try simp only [Act.put, List.setIfInBounds_toArray, List.set_cons_zero, List.set_cons_succ])
                  refine wpAnyH_ready (rs := [2]) (by kernel_rfl) (by simp) ?_
                  refine AllReadyH.cons (o := { dst := some 19, op := .call { callee := .value (.func 72), args := #[(.tmp 18)], argTypes := #[9] }, type := _, pos := _, after := _, guard := none }) rfl (fun K hK => ?_) AllReadyH.nil
                  go_simp
                  (with_reducible refine (N2.out _).mono ?_); rintro e wU ⟨rfl, rfl⟩
                  (try go_wp2_with fail)
                  refine hK.out _ _ ?_ (fun hH2 => ?_)
                  · exact hHeld
                  clear hK K hHeld
                  have hHeld := hH2
                  clear hH2
                  (try simp only [Act.put, List.setIfInBounds_toArray, List.set_cons_zero, List.set_cons_succ])
                  refine wpAnyH_take (i := 3) (oi := { dst := some 20, op := .unOp .not 4 (.tmp 19), type := _, pos := _, after := _, guard := none }) (v := ?_) rfl (by kernel_rfl) (by kernel_rfl) (by kernel_rfl) (fun _ _ _ h => h) ?_ hHeld ?_
                  rotate_left
                  · (refine Or.inl ⟨by rfl, fun w hSw => ?_⟩; (try dsimp only at hSw); go_simp; (try with_reducible rfl))
                  (try simp only [Act.put, List.setIfInBounds_toArray, List.set_cons_zero, List.set_cons_succ])
                  refine wpAnyH_take (i := 4) (oi := { dst := some 21, op := .move (.tmp 20), type := _, pos := _, after := _, guard := none }) (v := ?_) rfl (by kernel_rfl) (by kernel_rfl) (by kernel_rfl) (fun _ _ _ h => h) ?_ hHeld ?_
                  rotate_left
                  · (refine Or.inl ⟨by rfl, fun w hSw => ?_⟩; (try dsimp only at hSw); go_simp; (try with_reducible rfl))
                  (try simp only [Act.put, List.setIfInBounds_toArray, List.set_cons_zero, List.set_cons_succ])
                  refine wpAnyH_take (i := 5) (oi := { dst := some 22, op := .move (.tmp 3), type := _, pos := _, after := _, guard := some (4, false) }) (v := ?_) rfl (by kernel_rfl) (by kernel_rfl) (by kernel_rfl) (fun _ _ _ h => h) ?_ hHeld ?_
                  rotate_left
                  · (refine Or.inl ⟨by rfl, fun w hSw => ?_⟩; (try dsimp only at hSw); go_simp; (try with_reducible rfl))
                  (try simp only [Act.put, List.setIfInBounds_toArray, List.set_cons_zero, List.set_cons_succ])
                  refine wpAnyH_take (i := 6) (oi := { dst := some 23, op := .binOp .gtr 3 (.tmp 22) (.const (.int .i64 0)) 3, type := _, pos := _, after := _, guard := some (4, false) }) (v := .bool false) rfl (by kernel_rfl) (by kernel_rfl) (by kernel_rfl) (fun _ _ _ h => h) ?_ hHeld ?_
                  · (refine Or.inl ⟨by rfl, fun w hSw => ?_⟩; (try dsimp only at hSw); go_simp; (try omega))
                  (try simp only [Act.put, List.setIfInBounds_toArray, List.set_cons_zero, List.set_cons_succ])
                  refine wpAnyH_take (i := 7) (oi := { dst := some 24, op := .move (.tmp 23), type := _, pos := _, after := _, guard := some (4, false) }) (v := ?_) rfl (by kernel_rfl) (by kernel_rfl) (by kernel_rfl) (fun _ _ _ h => h) ?_ hHeld ?_
                  rotate_left
                  · (refine Or.inl ⟨by rfl, fun w hSw => ?_⟩; (try dsimp only at hSw); go_simp; (try with_reducible rfl))
                  (try simp only [Act.put, List.setIfInBounds_toArray, List.set_cons_zero, List.set_cons_succ])
                  refine wpAnyH_take (i := 8) (oi := { dst := some 25, op := .fieldAddr 44 (.tmp 1) 0, type := _, pos := _, after := _, guard := some (7, true) }) (v := undef) rfl (by kernel_rfl) (by kernel_rfl) (by kernel_rfl) (fun _ _ _ h => h) (Or.inr ?_) hHeld ?_
                  · exact ⟨by rfl, rfl⟩
                  (try simp only [Act.put, List.setIfInBounds_toArray, List.set_cons_zero, List.set_cons_succ])
                  refine wpAnyH_take (i := 9) (oi := { dst := some 26, op := .load 42 (.tmp 25), type := _, pos := _, after := _, guard := some (7, true) }) (v := undef) rfl (by kernel_rfl) (by kernel_rfl) (by kernel_rfl) (fun _ _ _ h => h) (Or.inr ?_) hHeld ?_
                  · exact ⟨by rfl, rfl⟩
                  (try simp only [Act.put, List.setIfInBounds_toArray, List.set_cons_zero, List.set_cons_succ])
                  refine wpAnyH_take (i := 10) (oi := { dst := some 27, op := .move (.tmp 3), type := _, pos := _, after := _, guard := some (7, true) }) (v := undef) rfl (by kernel_rfl) (by kernel_rfl) (by kernel_rfl) (fun _ _ _ h => h) (Or.inr ?_) hHeld ?_
                  · exact ⟨by rfl, rfl⟩
                  (try simp only [Act.put, List.setIfInBounds_toArray, List.set_cons_zero, List.set_cons_succ])
                  refine wpAnyH_take (i := 11) (oi := { dst := some 28, op := .binOp .sub 3 (.tmp 27) (.const (.int .i64 1)) 3, type := _, pos := _, after := _, guard := some (7, true) }) (v := undef) rfl (by kernel_rfl) (by kernel_rfl) (by kernel_rfl) (fun _ _ _ h => h) (Or.inr ?_) hHeld ?_
                  · exact ⟨by rfl, rfl⟩
                  (try simp only [Act.put, List.setIfInBounds_toArray, List.set_cons_zero, List.set_cons_succ])
                  refine wpAnyH_take (i := 12) (oi := { dst := some 29, op := .indexAddr 42 (.tmp 26) (.tmp 28), type := _, pos := _, after := _, guard := some (7, true) }) (v := undef) rfl (by kernel_rfl) (by kernel_rfl) (by kernel_rfl) (fun _ _ _ h => h) (Or.inr ?_) hHeld ?_
                  · exact ⟨by rfl, rfl⟩
                  (try simp only [Act.put, List.setIfInBounds_toArray, List.set_cons_zero, List.set_cons_succ])
                  refine wpAnyH_take (i := 13) (oi := { dst := some 30, op := .fieldAddr 73 (.tmp 29) 0, type := _, pos := _, after := _, guard := some (7, true) }) (v := undef) rfl (by kernel_rfl) (by kernel_rfl) (by kernel_rfl) (fun _ _ _ h => h) (Or.inr ?_) hHeld ?_
                  · exact ⟨by rfl, rfl⟩
                  (try simp only [Act.put, List.setIfInBounds_toArray, List.set_cons_zero, List.set_cons_succ])
                  refine wpAnyH_take (i := 14) (oi := { dst := some 31, op := .load 9 (.tmp 30), type := _, pos := _, after := _, guard := some (7, true) }) (v := undef) rfl (by kernel_rfl) (by kernel_rfl) (by kernel_rfl) (fun _ _ _ h => h) (Or.inr ?_) hHeld ?_
                  · exact ⟨by rfl, rfl⟩
                  (try simp only [Act.put, List.setIfInBounds_toArray, List.set_cons_zero, List.set_cons_succ])
                  refine wpAnyH_take (i := 15) (oi := { dst := some 32, op := .fieldAddr 73 (.tmp 4) 0, type := _, pos := _, after := _, guard := some (7, true) }) (v := undef) rfl (by kernel_rfl) (by kernel_rfl) (by kernel_rfl) (fun _ _ _ h => h) (Or.inr ?_) hHeld ?_
                  · exact ⟨by rfl, rfl⟩
                  (try simp only [Act.put, List.setIfInBounds_toArray, List.set_cons_zero, List.set_cons_succ])
                  refine wpAnyH_take (i := 16) (oi := { dst := some 33, op := .load 9 (.tmp 32), type := _, pos := _, after := _, guard := some (7, true) }) (v := undef) rfl (by kernel_rfl) (by kernel_rfl) (by kernel_rfl) (fun _ _ _ h => h) (Or.inr ?_) hHeld ?_
                  · exact ⟨by rfl, rfl⟩
                  (try simp only [Act.put, List.setIfInBounds_toArray, List.set_cons_zero, List.set_cons_succ])
                  refine wpAnyH_take (i := 17) (oi := { dst := some 34, op := .binOp .geq 9 (.tmp 31) (.tmp 33) 9, type := _, pos := _, after := _, guard := some (7, true) }) (v := undef) rfl (by kernel_rfl) (by kernel_rfl) (by kernel_rfl) (fun _ _ _ h => h) (Or.inr ?_) hHeld ?_
                  · exact ⟨by rfl, rfl⟩
                  (try simp only [Act.put, List.setIfInBounds_toArray, List.set_cons_zero, List.set_cons_succ])
                  refine wpAnyH_take (i := 18) (oi := { dst := some 35, op := .pick (.tmp 24) (.tmp 34) (.const (.bool false)), type := _, pos := _, after := _, guard := some (4, false) }) (v := ?_) rfl (by kernel_rfl) (by kernel_rfl) (by kernel_rfl) (fun _ _ _ h => h) ?_ hHeld ?_
                  rotate_left
                  · (refine Or.inl ⟨by rfl, fun w hSw => ?_⟩; (try dsimp only at hSw); go_simp; (try with_reducible rfl))
                  (try simp only [Act.put, List.setIfInBounds_toArray, List.set_cons_zero, List.set_cons_succ])
                  refine wpAnyH_take (i := 19) (oi := { dst := some 36, op := .pick (.tmp 21) (.const (.bool true)) (.tmp 35), type := _, pos := _, after := _, guard := none }) (v := ?_) rfl (by kernel_rfl) (by kernel_rfl) (by kernel_rfl) (fun _ _ _ h => h) ?_ hHeld ?_
                  rotate_left
                  · (refine Or.inl ⟨by rfl, fun w hSw => ?_⟩; (try dsimp only at hSw); go_simp; (try with_reducible rfl))
                  (try simp only [Act.put, List.setIfInBounds_toArray, List.set_cons_zero, List.set_cons_succ])
                  refine wpAnyH_take (i := 20) (oi := { dst := some 37, op := .move (.tmp 36), type := _, pos := _, after := _, guard := none }) (v := ?_) rfl (by kernel_rfl) (by kernel_rfl) (by kernel_rfl) (fun _ _ _ h => h) ?_ hHeld ?_
                  rotate_left
                  · (refine Or.inl ⟨by rfl, fun w hSw => ?_⟩; (try dsimp only at hSw); go_simp; (try with_reducible rfl))
                  (try simp only [Act.put, List.setIfInBounds_toArray, List.set_cons_zero, List.set_cons_succ])
                  refine wpAnyH_take (i := 21) (oi := { dst := some 38, op := .fieldAddr 73 (.tmp 4) 1, type := _, pos := _, after := _, guard := some (20, false) }) (v := ?_) rfl (by kernel_rfl) (by kernel_rfl) (by kernel_rfl) (fun _ _ _ h => h) ?_ hHeld ?_
                  rotate_left
                  · (refine Or.inl ⟨by rfl, fun w hSw => ?_⟩; (try dsimp only at hSw); go_simp; (try with_reducible rfl))
                  (try simp only [Act.put, List.setIfInBounds_toArray, List.set_cons_zero, List.set_cons_succ])
                  refine wpAnyH_take (i := 22) (oi := { dst := some 39, op := .load 27 (.tmp 38), type := _, pos := _, after := _, guard := some (20, false) }) (v := ?_) rfl (by kernel_rfl) (by kernel_rfl) (by kernel_rfl) (fun _ _ _ h => h) ?_ hHeld ?_
                  rotate_left
                  · (refine Or.inl ⟨by rfl, fun w hSw => ?_⟩; (try dsimp only at hSw); go_simp; (try with_reducible rfl))
                  (try simp only [Act.put, List.setIfInBounds_toArray, List.set_cons_zero, List.set_cons_succ])
                  refine wpAnyH_ready (rs := [23]) (by kernel_rfl) (by simp) ?_
                  refine AllReadyH.cons (o := { dst := some 40, op := .call { callee := .value (.func 32), args := #[(.tmp 39)], argTypes := #[27] }, type := _, pos := _, after := _, guard := some (20, false) }) rfl (fun K hK => ?_) AllReadyH.nil
                  go_simp
                  (with_reducible refine (V2.out _ hHeld.2.2.2.2).mono ?_); rintro e wV ⟨rfl, hbV⟩
                  (try go_wp2_with fail)
                  refine hK.out _ _ ?_ (fun hH2 => ?_)
                  · exact ⟨hHeld.2.2.2.2.cell hbV (by simp only [World.size_alloc]; omega) hHeld.1, hHeld.2.2.2.2.cell hbV (by simp only [World.size_alloc]; omega) hHeld.2.1, hHeld.2.2.2.2.cell hbV (by simp only [World.size_alloc]; omega) hHeld.2.2.1, hHeld.2.2.2.2.cell hbV (by simp only [World.size_alloc]; omega) hHeld.2.2.2.1, hHeld.2.2.2.2.call hbV⟩
                  clear hK K hHeld
                  have hHeld := hH2
                  clear hH2
                  (try simp only [Act.put, List.setIfInBounds_toArray, List.set_cons_zero, List.set_cons_succ])
                  refine wpAnyH_take (i := 24) (oi := { dst := some 41, op := .unOp .not 4 (.tmp 40), type := _, pos := _, after := _, guard := some (20, false) }) (v := ?_) rfl (by kernel_rfl) (by kernel_rfl) (by kernel_rfl) (fun _ _ _ h => h) ?_ hHeld ?_
                  rotate_left
                  · (refine Or.inl ⟨by rfl, fun w hSw => ?_⟩; (try dsimp only at hSw); go_simp; (try with_reducible rfl))
                  (try simp only [Act.put, List.setIfInBounds_toArray, List.set_cons_zero, List.set_cons_succ])
                  refine wpAnyH_take (i := 25) (oi := { dst := some 42, op := .pick (.tmp 37) (.const (.bool true)) (.tmp 41), type := _, pos := _, after := _, guard := none }) (v := ?_) rfl (by kernel_rfl) (by kernel_rfl) (by kernel_rfl) (fun _ _ _ h => h) ?_ hHeld ?_
                  rotate_left
                  · (refine Or.inl ⟨by rfl, fun w hSw => ?_⟩; (try dsimp only at hSw); go_simp; (try with_reducible rfl))
                  (try simp only [Act.put, List.setIfInBounds_toArray, List.set_cons_zero, List.set_cons_succ])
                  refine wpAnyH_take (i := 26) (oi := { dst := some 43, op := .move (.tmp 42), type := _, pos := _, after := _, guard := none }) (v := ?_) rfl (by kernel_rfl) (by kernel_rfl) (by kernel_rfl) (fun _ _ _ h => h) ?_ hHeld ?_
                  rotate_left
                  · (refine Or.inl ⟨by rfl, fun w hSw => ?_⟩; (try dsimp only at hSw); go_simp; (try with_reducible rfl))
                  (try simp only [Act.put, List.setIfInBounds_toArray, List.set_cons_zero, List.set_cons_succ])
                  refine wpAnyH_take (i := 27) (oi := { dst := some 44, op := .fieldAddr 73 (.tmp 4) 1, type := _, pos := _, after := _, guard := some (26, false) }) (v := ?_) rfl (by kernel_rfl) (by kernel_rfl) (by kernel_rfl) (fun _ _ _ h => h) ?_ hHeld ?_
                  rotate_left
                  · (refine Or.inl ⟨by rfl, fun w hSw => ?_⟩; (try dsimp only at hSw); go_simp; (try with_reducible rfl))
                  (try simp only [Act.put, List.setIfInBounds_toArray, List.set_cons_zero, List.set_cons_succ])
                  refine wpAnyH_take (i := 28) (oi := { dst := some 45, op := .fieldAddr 27 (.tmp 44) 1, type := _, pos := _, after := _, guard := some (26, false) }) (v := ?_) rfl (by kernel_rfl) (by kernel_rfl) (by kernel_rfl) (fun _ _ _ h => h) ?_ hHeld ?_
                  rotate_left
                  · (refine Or.inl ⟨by rfl, fun w hSw => ?_⟩; (try dsimp only at hSw); go_simp; (try with_reducible rfl))
                  (try simp only [Act.put, List.setIfInBounds_toArray, List.set_cons_zero, List.set_cons_succ])
                  refine wpAnyH_take (i := 29) (oi := { dst := some 46, op := .load 22 (.tmp 45), type := _, pos := _, after := _, guard := some (26, false) }) (v := ?_) rfl (by kernel_rfl) (by kernel_rfl) (by kernel_rfl) (fun _ _ _ h => h) ?_ hHeld ?_
                  rotate_left
                  · (refine Or.inl ⟨by rfl, fun w hSw => ?_⟩; (try dsimp only at hSw); go_simp; (try with_reducible rfl))
                  (try simp only [Act.put, List.setIfInBounds_toArray, List.set_cons_zero, List.set_cons_succ])
                  refine wpAnyH_take (i := 30) (oi := { dst := some 47, op := .call { callee := .builtin .len, args := #[(.tmp 46)], argTypes := #[22] }, type := _, pos := _, after := _, guard := some (26, false) }) (v := ?_) rfl (by kernel_rfl) (by kernel_rfl) (by kernel_rfl) (fun _ _ _ h => h) ?_ hHeld ?_
                  rotate_left
                  · (refine Or.inl ⟨by rfl, fun w hSw => ?_⟩; (try dsimp only at hSw); go_simp; (try with_reducible rfl))
                  (try simp only [Act.put, List.setIfInBounds_toArray, List.set_cons_zero, List.set_cons_succ])
                  refine wpAnyH_take (i := 31) (oi := { dst := some 48, op := .binOp .gtr 3 (.tmp 47) (.const (.int .i64 16)) 3, type := _, pos := _, after := _, guard := some (26, false) }) (v := .bool false) rfl (by kernel_rfl) (by kernel_rfl) (by kernel_rfl) (fun _ _ _ h => h) ?_ hHeld ?_
                  · (refine Or.inl ⟨by rfl, fun w hSw => ?_⟩; (try dsimp only at hSw); go_simp; (try omega))
                  (try simp only [Act.put, List.setIfInBounds_toArray, List.set_cons_zero, List.set_cons_succ])
                  refine wpAnyH_take (i := 32) (oi := { dst := some 49, op := .pick (.tmp 43) (.const (.bool true)) (.tmp 48), type := _, pos := _, after := _, guard := none }) (v := ?_) rfl (by kernel_rfl) (by kernel_rfl) (by kernel_rfl) (fun _ _ _ h => h) ?_ hHeld ?_
                  rotate_left
                  · (refine Or.inl ⟨by rfl, fun w hSw => ?_⟩; (try dsimp only at hSw); go_simp; (try with_reducible rfl))
                  (try simp only [Act.put, List.setIfInBounds_toArray, List.set_cons_zero, List.set_cons_succ])
                  refine wpAnyH_take (i := 33) (oi := { dst := some 50, op := .move (.tmp 49), type := _, pos := _, after := _, guard := none }) (v := ?_) rfl (by kernel_rfl) (by kernel_rfl) (by kernel_rfl) (fun _ _ _ h => h) ?_ hHeld ?_
                  rotate_left
                  · (refine Or.inl ⟨by rfl, fun w hSw => ?_⟩; (try dsimp only at hSw); go_simp; (try with_reducible rfl))
                  (try simp only [Act.put, List.setIfInBounds_toArray, List.set_cons_zero, List.set_cons_succ])
                  refine wpAnyH_take (i := 34) (oi := { dst := some 51, op := .fieldAddr 73 (.tmp 4) 1, type := _, pos := _, after := _, guard := some (33, false) }) (v := ?_) rfl (by kernel_rfl) (by kernel_rfl) (by kernel_rfl) (fun _ _ _ h => h) ?_ hHeld ?_
                  rotate_left
                  · (refine Or.inl ⟨by rfl, fun w hSw => ?_⟩; (try dsimp only at hSw); go_simp; (try with_reducible rfl))
                  (try simp only [Act.put, List.setIfInBounds_toArray, List.set_cons_zero, List.set_cons_succ])
                  refine wpAnyH_take (i := 35) (oi := { dst := some 52, op := .fieldAddr 27 (.tmp 51) 0, type := _, pos := _, after := _, guard := some (33, false) }) (v := ?_) rfl (by kernel_rfl) (by kernel_rfl) (by kernel_rfl) (fun _ _ _ h => h) ?_ hHeld ?_
                  rotate_left
                  · (refine Or.inl ⟨by rfl, fun w hSw => ?_⟩; (try dsimp only at hSw); go_simp; (try with_reducible rfl))
                  (try simp only [Act.put, List.setIfInBounds_toArray, List.set_cons_zero, List.set_cons_succ])
                  refine wpAnyH_take (i := 36) (oi := { dst := some 53, op := .load 3 (.tmp 52), type := _, pos := _, after := _, guard := some (33, false) }) (v := ?_) rfl (by kernel_rfl) (by kernel_rfl) (by kernel_rfl) (fun _ _ _ h => h) ?_ hHeld ?_
                  rotate_left
                  · (refine Or.inl ⟨by rfl, fun w hSw => ?_⟩; (try dsimp only at hSw); go_simp; (try with_reducible rfl))
                  (try simp only [Act.put, List.setIfInBounds_toArray, List.set_cons_zero, List.set_cons_succ])
                  refine wpAnyH_take (i := 37) (oi := { dst := some 54, op := .binOp .lss 3 (.tmp 53) (.const (.int .i64 1)) 3, type := _, pos := _, after := _, guard := some (33, false) }) (v := .bool true) rfl (by kernel_rfl) (by kernel_rfl) (by kernel_rfl) (fun _ _ _ h => h) ?_ hHeld ?_
                  · (refine Or.inl ⟨by rfl, fun w hSw => ?_⟩; (try dsimp only at hSw); go_simp; (try omega))
                  (try simp only [Act.put, List.setIfInBounds_toArray, List.set_cons_zero, List.set_cons_succ])
                  refine wpAnyH_take (i := 38) (oi := { dst := some 55, op := .pick (.tmp 50) (.const (.bool true)) (.tmp 54), type := _, pos := _, after := _, guard := none }) (v := ?_) rfl (by kernel_rfl) (by kernel_rfl) (by kernel_rfl) (fun _ _ _ h => h) ?_ hHeld ?_
                  rotate_left
                  · (refine Or.inl ⟨by rfl, fun w hSw => ?_⟩; (try dsimp only at hSw); go_simp; (try with_reducible rfl))
                  (try simp only [Act.put, List.setIfInBounds_toArray, List.set_cons_zero, List.set_cons_succ])
                  refine wpAnyH_done (by kernel_rfl) ?_ _
                  go_wp2_with fail
                  go_meet
                  exact ⟨by first | rfl | trivial, hHeld.2.2.2.2⟩
                case rest =>
                  obtain ⟨rfl, hbx⟩ := hcut
                  obtain ⟨w5, rfl⟩ : ∃ wo : World, wo = wc := ⟨_, rfl⟩
                  have HB := hid (HB2.out.trans (hbx.bel.mono (by simp only [World.size_alloc]; omega)))
                  have HK := hid (HK2.out.below hbx.bel)
                  clear hbx c0 c1 c2 p0 s0 s1 s2 s3
                  go_wp2
                  go_ret
                  exact ⟨by rw [hf.out]; rfl, HB.out⟩
              · have tar : decide (x[k].2.1 < 1) = false := by simp; omega
                have HF := hid (show ∀ j, j < k + 1 → fitT x j = true from fun j hj => by
                  by_cases q : j = k
                  · subst q; exact fit_yes j hlt (vT_yes HO.out (by omega) (by omega) HV.out) (fun h => absurd h hk0)
                  · exact hall.out j (by omega))
                go_upto_region 5 with fail
                go_cut [55] (fun s wx => s = .bool false ∧ Kp (wr.alloc (.cells #[.string x[k].1, .int .i64 x[k].2.1, .slice aj x[k].2.2.length capj] 73)) 0 wx)
                case first =>
                  refine wp_region_held_drew (S := (fun w' => w'.cell? ⟨w.heap.size, 0, none⟩ = some (.slice (some ⟨b, off, none⟩) x.length cap) ∧ w'.cell? ⟨wr.heap.size, 0, none⟩ = some (.string x[k].1) ∧ w'.cell? ⟨wr.heap.size, 1, none⟩ = some (.int .i64 x[k].2.1) ∧ w'.cell? ⟨wr.heap.size, 2, none⟩ = some (.slice aj x[k].2.2.length capj) ∧ Kp (wr.alloc (.cells #[.string x[k].1, .int .i64 x[k].2.1, .slice aj x[k].2.2.length capj] 73)) 0 w')) (by kernel_rfl) ⟨s0, s1, s2, s3, (kp_refl _).drew⟩ (fun hHeld => ?_)
                  refine wpAnyH_take (i := 0) (oi := { dst := some 17, op := .fieldAddr 73 (.tmp 4) 0, type := _, pos := _, after := _, guard := none }) (v := ?_) rfl (by kernel_rfl) (by kernel_rfl) (by kernel_rfl) (fun _ _ _ h => h) ?_ hHeld ?_
                  rotate_left
                  · (refine Or.inl ⟨by rfl, fun w hSw => ?_⟩; (try dsimp only at hSw); go_simp; (try with_reducible rfl))
                  (try simp only [Act.put, List.setIfInBounds_toArray, List.set_cons_zero, List.set_cons_succ])
                  refine wpAnyH_take (i := 1) (oi := { dst := some 18, op := .load 9 (.tmp 17), type := _, pos := _, after := _, guard := none }) (v := ?_) rfl (by kernel_rfl) (by kernel_rfl) (by kernel_rfl) (fun _ _ _ h => h) ?_ hHeld ?_
                  rotate_left
                  · (refine Or.inl ⟨by rfl, fun w hSw => ?_⟩; (try dsimp only at hSw); go_simp; (try with_reducible rfl))
                  (try simp only [Act.put, List.setIfInBounds_toArray, List.set_cons_zero, List.set_cons_succ])
                  refine wpAnyH_ready (rs := [2]) (by kernel_rfl) (by simp) ?_
                  refine AllReadyH.cons (o := { dst := some 19, op := .call { callee := .value (.func 72), args := #[(.tmp 18)], argTypes := #[9] }, type := _, pos := _, after := _, guard := none }) rfl (fun K hK => ?_) AllReadyH.nil
                  go_simp
                  (with_reducible refine (N2.out _).mono ?_); rintro e wU ⟨rfl, rfl⟩
                  (try go_wp2_with fail)
                  refine hK.out _ _ ?_ (fun hH2 => ?_)
                  · exact hHeld
                  clear hK K hHeld
                  have hHeld := hH2
                  clear hH2
                  (try simp only [Act.put, List.setIfInBounds_toArray, List.set_cons_zero, List.set_cons_succ])
                  refine wpAnyH_take (i := 3) (oi := { dst := some 20, op := .unOp .not 4 (.tmp 19), type := _, pos := _, after := _, guard := none }) (v := ?_) rfl (by kernel_rfl) (by kernel_rfl) (by kernel_rfl) (fun _ _ _ h => h) ?_ hHeld ?_
                  rotate_left
                  · (refine Or.inl ⟨by rfl, fun w hSw => ?_⟩; (try dsimp only at hSw); go_simp; (try with_reducible rfl))
                  (try simp only [Act.put, List.setIfInBounds_toArray, List.set_cons_zero, List.set_cons_succ])
                  refine wpAnyH_take (i := 4) (oi := { dst := some 21, op := .move (.tmp 20), type := _, pos := _, after := _, guard := none }) (v := ?_) rfl (by kernel_rfl) (by kernel_rfl) (by kernel_rfl) (fun _ _ _ h => h) ?_ hHeld ?_
                  rotate_left
                  · (refine Or.inl ⟨by rfl, fun w hSw => ?_⟩; (try dsimp only at hSw); go_simp; (try with_reducible rfl))
                  (try simp only [Act.put, List.setIfInBounds_toArray, List.set_cons_zero, List.set_cons_succ])
                  refine wpAnyH_take (i := 5) (oi := { dst := some 22, op := .move (.tmp 3), type := _, pos := _, after := _, guard := some (4, false) }) (v := ?_) rfl (by kernel_rfl) (by kernel_rfl) (by kernel_rfl) (fun _ _ _ h => h) ?_ hHeld ?_
                  rotate_left
                  · (refine Or.inl ⟨by rfl, fun w hSw => ?_⟩; (try dsimp only at hSw); go_simp; (try with_reducible rfl))
                  (try simp only [Act.put, List.setIfInBounds_toArray, List.set_cons_zero, List.set_cons_succ])
                  refine wpAnyH_take (i := 6) (oi := { dst := some 23, op := .binOp .gtr 3 (.tmp 22) (.const (.int .i64 0)) 3, type := _, pos := _, after := _, guard := some (4, false) }) (v := .bool false) rfl (by kernel_rfl) (by kernel_rfl) (by kernel_rfl) (fun _ _ _ h => h) ?_ hHeld ?_
                  · (refine Or.inl ⟨by rfl, fun w hSw => ?_⟩; (try dsimp only at hSw); go_simp; (try omega))
                  (try simp only [Act.put, List.setIfInBounds_toArray, List.set_cons_zero, List.set_cons_succ])
                  refine wpAnyH_take (i := 7) (oi := { dst := some 24, op := .move (.tmp 23), type := _, pos := _, after := _, guard := some (4, false) }) (v := ?_) rfl (by kernel_rfl) (by kernel_rfl) (by kernel_rfl) (fun _ _ _ h => h) ?_ hHeld ?_
                  rotate_left
                  · (refine Or.inl ⟨by rfl, fun w hSw => ?_⟩; (try dsimp only at hSw); go_simp; (try with_reducible rfl))
                  (try simp only [Act.put, List.setIfInBounds_toArray, List.set_cons_zero, List.set_cons_succ])
                  refine wpAnyH_take (i := 8) (oi := { dst := some 25, op := .fieldAddr 44 (.tmp 1) 0, type := _, pos := _, after := _, guard := some (7, true) }) (v := undef) rfl (by kernel_rfl) (by kernel_rfl) (by kernel_rfl) (fun _ _ _ h => h) (Or.inr ?_) hHeld ?_
                  · exact ⟨by rfl, rfl⟩
                  (try simp only [Act.put, List.setIfInBounds_toArray, List.set_cons_zero, List.set_cons_succ])
                  refine wpAnyH_take (i := 9) (oi := { dst := some 26, op := .load 42 (.tmp 25), type := _, pos := _, after := _, guard := some (7, true) }) (v := undef) rfl (by kernel_rfl) (by kernel_rfl) (by kernel_rfl) (fun _ _ _ h => h) (Or.inr ?_) hHeld ?_
                  · exact ⟨by rfl, rfl⟩
                  (try simp only [Act.put, List.setIfInBounds_toArray, List.set_cons_zero, List.set_cons_succ])
                  refine wpAnyH_take (i := 10) (oi := { dst := some 27, op := .move (.tmp 3), type := _, pos := _, after := _, guard := some (7, true) }) (v := undef) rfl (by kernel_rfl) (by kernel_rfl) (by kernel_rfl) (fun _ _ _ h => h) (Or.inr ?_) hHeld ?_
                  · exact ⟨by rfl, rfl⟩
                  (try simp only [Act.put, List.setIfInBounds_toArray, List.set_cons_zero, List.set_cons_succ])
                  refine wpAnyH_take (i := 11) (oi := { dst := some 28, op := .binOp .sub 3 (.tmp 27) (.const (.int .i64 1)) 3, type := _, pos := _, after := _, guard := some (7, true) }) (v := undef) rfl (by kernel_rfl) (by kernel_rfl) (by kernel_rfl) (fun _ _ _ h => h) (Or.inr ?_) hHeld ?_
                  · exact ⟨by rfl, rfl⟩
                  (try simp only [Act.put, List.setIfInBounds_toArray, List.set_cons_zero, List.set_cons_succ])
                  refine wpAnyH_take (i := 12) (oi := { dst := some 29, op := .indexAddr 42 (.tmp 26) (.tmp 28), type := _, pos := _, after := _, guard := some (7, true) }) (v := undef) rfl (by kernel_rfl) (by kernel_rfl) (by kernel_rfl) (fun _ _ _ h => h) (Or.inr ?_) hHeld ?_
                  · exact ⟨by rfl, rfl⟩
                  (try simp only [Act.put, List.setIfInBounds_toArray, List.set_cons_zero, List.set_cons_succ])
                  refine wpAnyH_take (i := 13) (oi := { dst := some 30, op := .fieldAddr 73 (.tmp 29) 0, type := _, pos := _, after := _, guard := some (7, true) }) (v := undef) rfl (by kernel_rfl) (by kernel_rfl) (by kernel_rfl) (fun _ _ _ h => h) (Or.inr ?_) hHeld ?_
                  · exact ⟨by rfl, rfl⟩
                  (try simp only [Act.put, List.setIfInBounds_toArray, List.set_cons_zero, List.set_cons_succ])
                  refine wpAnyH_take (i := 14) (oi := { dst := some 31, op := .load 9 (.tmp 30), type := _, pos := _, after := _, guard := some (7, true) }) (v := undef) rfl (by kernel_rfl) (by kernel_rfl) (by kernel_rfl) (fun _ _ _ h => h) (Or.inr ?_) hHeld ?_
                  · exact ⟨by rfl, rfl⟩
                  (try simp only [Act.put, List.setIfInBounds_toArray, List.set_cons_zero, List.set_cons_succ])
                  refine wpAnyH_take (i := 15) (oi := { dst := some 32, op := .fieldAddr 73 (.tmp 4) 0, type := _, pos := _, after := _, guard := some (7, true) }) (v := undef) rfl (by kernel_rfl) (by kernel_rfl) (by kernel_rfl) (fun _ _ _ h => h) (Or.inr ?_) hHeld ?_
                  · exact ⟨by rfl, rfl⟩
                  (try simp only [Act.put, List.setIfInBounds_toArray, List.set_cons_zero, List.set_cons_succ])
                  refine wpAnyH_take (i := 16) (oi := { dst := some 33, op := .load 9 (.tmp 32), type := _, pos := _, after := _, guard := some (7, true) }) (v := undef) rfl (by kernel_rfl) (by kernel_rfl) (by kernel_rfl) (fun _ _ _ h => h) (Or.inr ?_) hHeld ?_
                  · exact ⟨by rfl, rfl⟩
                  (try simp only [Act.put, List.setIfInBounds_toArray, List.set_cons_zero, List.set_cons_succ])
                  refine wpAnyH_take (i := 17) (oi := { dst := some 34, op := .binOp .geq 9 (.tmp 31) (.tmp 33) 9, type := _, pos := _, after := _, guard := some (7, true) }) (v := undef) rfl (by kernel_rfl) (by kernel_rfl) (by kernel_rfl) (fun _ _ _ h => h) (Or.inr ?_) hHeld ?_
                  · exact ⟨by rfl, rfl⟩
                  (try simp only [Act.put, List.setIfInBounds_toArray, List.set_cons_zero, List.set_cons_succ])
                  refine wpAnyH_take (i := 18) (oi := { dst := some 35, op := .pick (.tmp 24) (.tmp 34) (.const (.bool false)), type := _, pos := _, after := _, guard := some (4, false) }) (v := ?_) rfl (by kernel_rfl) (by kernel_rfl) (by kernel_rfl) (fun _ _ _ h => h) ?_ hHeld ?_
                  rotate_left
                  · (refine Or.inl ⟨by rfl, fun w hSw => ?_⟩; (try dsimp only at hSw); go_simp; (try with_reducible rfl))
                  (try simp only [Act.put, List.setIfInBounds_toArray, List.set_cons_zero, List.set_cons_succ])
                  refine wpAnyH_take (i := 19) (oi := { dst := some 36, op := .pick (.tmp 21) (.const (.bool true)) (.tmp 35), type := _, pos := _, after := _, guard := none }) (v := ?_) rfl (by kernel_rfl) (by kernel_rfl) (by kernel_rfl) (fun _ _ _ h => h) ?_ hHeld ?_
                  rotate_left
                  · (refine Or.inl ⟨by rfl, fun w hSw => ?_⟩; (try dsimp only at hSw); go_simp; (try with_reducible rfl))
                  (try simp only [Act.put, List.setIfInBounds_toArray, List.set_cons_zero, List.set_cons_succ])
                  refine wpAnyH_take (i := 20) (oi := { dst := some 37, op := .move (.tmp 36), type := _, pos := _, after := _, guard := none }) (v := ?_) rfl (by kernel_rfl) (by kernel_rfl) (by kernel_rfl) (fun _ _ _ h => h) ?_ hHeld ?_
                  rotate_left
                  · (refine Or.inl ⟨by rfl, fun w hSw => ?_⟩; (try dsimp only at hSw); go_simp; (try with_reducible rfl))
                  (try simp only [Act.put, List.setIfInBounds_toArray, List.set_cons_zero, List.set_cons_succ])
                  refine wpAnyH_take (i := 21) (oi := { dst := some 38, op := .fieldAddr 73 (.tmp 4) 1, type := _, pos := _, after := _, guard := some (20, false) }) (v := ?_) rfl (by kernel_rfl) (by kernel_rfl) (by kernel_rfl) (fun _ _ _ h => h) ?_ hHeld ?_
                  rotate_left
                  · (refine Or.inl ⟨by rfl, fun w hSw => ?_⟩; (try dsimp only at hSw); go_simp; (try with_reducible rfl))
                  (try simp only [Act.put, List.setIfInBounds_toArray, List.set_cons_zero, List.set_cons_succ])
                  refine wpAnyH_take (i := 22) (oi := { dst := some 39, op := .load 27 (.tmp 38), type := _, pos := _, after := _, guard := some (20, false) }) (v := ?_) rfl (by kernel_rfl) (by kernel_rfl) (by kernel_rfl) (fun _ _ _ h => h) ?_ hHeld ?_
                  rotate_left
                  · (refine Or.inl ⟨by rfl, fun w hSw => ?_⟩; (try dsimp only at hSw); go_simp; (try with_reducible rfl))
                  (try simp only [Act.put, List.setIfInBounds_toArray, List.set_cons_zero, List.set_cons_succ])
                  refine wpAnyH_ready (rs := [23]) (by kernel_rfl) (by simp) ?_
                  refine AllReadyH.cons (o := { dst := some 40, op := .call { callee := .value (.func 32), args := #[(.tmp 39)], argTypes := #[27] }, type := _, pos := _, after := _, guard := some (20, false) }) rfl (fun K hK => ?_) AllReadyH.nil
                  go_simp
                  (with_reducible refine (V2.out _ hHeld.2.2.2.2).mono ?_); rintro e wV ⟨rfl, hbV⟩
                  (try go_wp2_with fail)
                  refine hK.out _ _ ?_ (fun hH2 => ?_)
                  · exact ⟨hHeld.2.2.2.2.cell hbV (by simp only [World.size_alloc]; omega) hHeld.1, hHeld.2.2.2.2.cell hbV (by simp only [World.size_alloc]; omega) hHeld.2.1, hHeld.2.2.2.2.cell hbV (by simp only [World.size_alloc]; omega) hHeld.2.2.1, hHeld.2.2.2.2.cell hbV (by simp only [World.size_alloc]; omega) hHeld.2.2.2.1, hHeld.2.2.2.2.call hbV⟩
                  clear hK K hHeld
                  have hHeld := hH2
                  clear hH2
                  (try simp only [Act.put, List.setIfInBounds_toArray, List.set_cons_zero, List.set_cons_succ])
                  refine wpAnyH_take (i := 24) (oi := { dst := some 41, op := .unOp .not 4 (.tmp 40), type := _, pos := _, after := _, guard := some (20, false) }) (v := ?_) rfl (by kernel_rfl) (by kernel_rfl) (by kernel_rfl) (fun _ _ _ h => h) ?_ hHeld ?_
                  rotate_left
                  · (refine Or.inl ⟨by rfl, fun w hSw => ?_⟩; (try dsimp only at hSw); go_simp; (try with_reducible rfl))
                  (try simp only [Act.put, List.setIfInBounds_toArray, List.set_cons_zero, List.set_cons_succ])
                  refine wpAnyH_take (i := 25) (oi := { dst := some 42, op := .pick (.tmp 37) (.const (.bool true)) (.tmp 41), type := _, pos := _, after := _, guard := none }) (v := ?_) rfl (by kernel_rfl) (by kernel_rfl) (by kernel_rfl) (fun _ _ _ h => h) ?_ hHeld ?_
                  rotate_left
                  · (refine Or.inl ⟨by rfl, fun w hSw => ?_⟩; (try dsimp only at hSw); go_simp; (try with_reducible rfl))
                  (try simp only [Act.put, List.setIfInBounds_toArray, List.set_cons_zero, List.set_cons_succ])
                  refine wpAnyH_take (i := 26) (oi := { dst := some 43, op := .move (.tmp 42), type := _, pos := _, after := _, guard := none }) (v := ?_) rfl (by kernel_rfl) (by kernel_rfl) (by kernel_rfl) (fun _ _ _ h => h) ?_ hHeld ?_
                  rotate_left
                  · (refine Or.inl ⟨by rfl, fun w hSw => ?_⟩; (try dsimp only at hSw); go_simp; (try with_reducible rfl))
                  (try simp only [Act.put, List.setIfInBounds_toArray, List.set_cons_zero, List.set_cons_succ])
                  refine wpAnyH_take (i := 27) (oi := { dst := some 44, op := .fieldAddr 73 (.tmp 4) 1, type := _, pos := _, after := _, guard := some (26, false) }) (v := ?_) rfl (by kernel_rfl) (by kernel_rfl) (by kernel_rfl) (fun _ _ _ h => h) ?_ hHeld ?_
                  rotate_left
                  · (refine Or.inl ⟨by rfl, fun w hSw => ?_⟩; (try dsimp only at hSw); go_simp; (try with_reducible rfl))
                  (try simp only [Act.put, List.setIfInBounds_toArray, List.set_cons_zero, List.set_cons_succ])
                  refine wpAnyH_take (i := 28) (oi := { dst := some 45, op := .fieldAddr 27 (.tmp 44) 1, type := _, pos := _, after := _, guard := some (26, false) }) (v := ?_) rfl (by kernel_rfl) (by kernel_rfl) (by kernel_rfl) (fun _ _ _ h => h) ?_ hHeld ?_
                  rotate_left
                  · (refine Or.inl ⟨by rfl, fun w hSw => ?_⟩; (try dsimp only at hSw); go_simp; (try with_reducible rfl))
                  (try simp only [Act.put, List.setIfInBounds_toArray, List.set_cons_zero, List.set_cons_succ])
                  refine wpAnyH_take (i := 29) (oi := { dst := some 46, op := .load 22 (.tmp 45), type := _, pos := _, after := _, guard := some (26, false) }) (v := ?_) rfl (by kernel_rfl) (by kernel_rfl) (by kernel_rfl) (fun _ _ _ h => h) ?_ hHeld ?_
                  rotate_left
                  · (refine Or.inl ⟨by rfl, fun w hSw => ?_⟩; (try dsimp only at hSw); go_simp; (try with_reducible rfl))
                  (try simp only [Act.put, List.setIfInBounds_toArray, List.set_cons_zero, List.set_cons_succ])
                  refine wpAnyH_take (i := 30) (oi := { dst := some 47, op := .call { callee := .builtin .len, args := #[(.tmp 46)], argTypes := #[22] }, type := _, pos := _, after := _, guard := some (26, false) }) (v := ?_) rfl (by kernel_rfl) (by kernel_rfl) (by kernel_rfl) (fun _ _ _ h => h) ?_ hHeld ?_
                  rotate_left
                  · (refine Or.inl ⟨by rfl, fun w hSw => ?_⟩; (try dsimp only at hSw); go_simp; (try with_reducible rfl))
                  (try simp only [Act.put, List.setIfInBounds_toArray, List.set_cons_zero, List.set_cons_succ])
                  refine wpAnyH_take (i := 31) (oi := { dst := some 48, op := .binOp .gtr 3 (.tmp 47) (.const (.int .i64 16)) 3, type := _, pos := _, after := _, guard := some (26, false) }) (v := .bool false) rfl (by kernel_rfl) (by kernel_rfl) (by kernel_rfl) (fun _ _ _ h => h) ?_ hHeld ?_
                  · (refine Or.inl ⟨by rfl, fun w hSw => ?_⟩; (try dsimp only at hSw); go_simp; (try omega))
                  (try simp only [Act.put, List.setIfInBounds_toArray, List.set_cons_zero, List.set_cons_succ])
                  refine wpAnyH_take (i := 32) (oi := { dst := some 49, op := .pick (.tmp 43) (.const (.bool true)) (.tmp 48), type := _, pos := _, after := _, guard := none }) (v := ?_) rfl (by kernel_rfl) (by kernel_rfl) (by kernel_rfl) (fun _ _ _ h => h) ?_ hHeld ?_
                  rotate_left
                  · (refine Or.inl ⟨by rfl, fun w hSw => ?_⟩; (try dsimp only at hSw); go_simp; (try with_reducible rfl))
                  (try simp only [Act.put, List.setIfInBounds_toArray, List.set_cons_zero, List.set_cons_succ])
                  refine wpAnyH_take (i := 33) (oi := { dst := some 50, op := .move (.tmp 49), type := _, pos := _, after := _, guard := none }) (v := ?_) rfl (by kernel_rfl) (by kernel_rfl) (by kernel_rfl) (fun _ _ _ h => h) ?_ hHeld ?_
                  rotate_left
                  · (refine Or.inl ⟨by rfl, fun w hSw => ?_⟩; (try dsimp only at hSw); go_simp; (try with_reducible rfl))
                  (try simp only [Act.put, List.setIfInBounds_toArray, List.set_cons_zero, List.set_cons_succ])
                  refine wpAnyH_take (i := 34) (oi := { dst := some 51, op := .fieldAddr 73 (.tmp 4) 1, type := _, pos := _, after := _, guard := some (33, false) }) (v := ?_) rfl (by kernel_rfl) (by kernel_rfl) (by kernel_rfl) (fun _ _ _ h => h) ?_ hHeld ?_
                  rotate_left
                  · (refine Or.inl ⟨by rfl, fun w hSw => ?_⟩; (try dsimp only at hSw); go_simp; (try with_reducible rfl))
                  (try simp only [Act.put, List.setIfInBounds_toArray, List.set_cons_zero, List.set_cons_succ])
                  refine wpAnyH_take (i := 35) (oi := { dst := some 52, op := .fieldAddr 27 (.tmp 51) 0, type := _, pos := _, after := _, guard := some (33, false) }) (v := ?_) rfl (by kernel_rfl) (by kernel_rfl) (by kernel_rfl) (fun _ _ _ h => h) ?_ hHeld ?_
                  rotate_left
                  · (refine Or.inl ⟨by rfl, fun w hSw => ?_⟩; (try dsimp only at hSw); go_simp; (try with_reducible rfl))
                  (try simp only [Act.put, List.setIfInBounds_toArray, List.set_cons_zero, List.set_cons_succ])
                  refine wpAnyH_take (i := 36) (oi := { dst := some 53, op := .load 3 (.tmp 52), type := _, pos := _, after := _, guard := some (33, false) }) (v := ?_) rfl (by kernel_rfl) (by kernel_rfl) (by kernel_rfl) (fun _ _ _ h => h) ?_ hHeld ?_
                  rotate_left
                  · (refine Or.inl ⟨by rfl, fun w hSw => ?_⟩; (try dsimp only at hSw); go_simp; (try with_reducible rfl))
                  (try simp only [Act.put, List.setIfInBounds_toArray, List.set_cons_zero, List.set_cons_succ])
                  refine wpAnyH_take (i := 37) (oi := { dst := some 54, op := .binOp .lss 3 (.tmp 53) (.const (.int .i64 1)) 3, type := _, pos := _, after := _, guard := some (33, false) }) (v := .bool false) rfl (by kernel_rfl) (by kernel_rfl) (by kernel_rfl) (fun _ _ _ h => h) ?_ hHeld ?_
                  · (refine Or.inl ⟨by rfl, fun w hSw => ?_⟩; (try dsimp only at hSw); go_simp; (try omega))
                  (try simp only [Act.put, List.setIfInBounds_toArray, List.set_cons_zero, List.set_cons_succ])
                  refine wpAnyH_take (i := 38) (oi := { dst := some 55, op := .pick (.tmp 50) (.const (.bool true)) (.tmp 54), type := _, pos := _, after := _, guard := none }) (v := ?_) rfl (by kernel_rfl) (by kernel_rfl) (by kernel_rfl) (fun _ _ _ h => h) ?_ hHeld ?_
                  rotate_left
                  · (refine Or.inl ⟨by rfl, fun w hSw => ?_⟩; (try dsimp only at hSw); go_simp; (try with_reducible rfl))
                  (try simp only [Act.put, List.setIfInBounds_toArray, List.set_cons_zero, List.set_cons_succ])
                  refine wpAnyH_done (by kernel_rfl) ?_ _
                  go_wp2_with fail
                  go_meet
                  exact ⟨by first | rfl | trivial, hHeld.2.2.2.2⟩
                case rest =>
                  obtain ⟨rfl, hbx⟩ := hcut
                  obtain ⟨w5, rfl⟩ : ∃ wo : World, wo = wc := ⟨_, rfl⟩
                  have HB := hid (HB2.out.trans (hbx.bel.mono (by simp only [World.size_alloc]; omega)))
                  have HK := hid (HK2.out.below hbx.bel)
                  clear hbx c0 c1 c2 p0 s0 s1 s2 s3
                  go_wp2
                  go_roundw
                  case rel => exact ⟨k + 1, by omega, by go_num, HF, HK, HB⟩
                  case measure => simp [intOf]; omega
    · have hf := hid (vDb_end (fun j hj => hall.out j (by omega)))
      by_cases h6 : x.length ≤ 6
      · have t6 : (x.length : Int) ≤ 6 := by omega
        have hf2 := hid (show vDb x = true by rw [hf.out]; simpa using h6)
        go_wp2
        go_ret
        exact ⟨by rw [hf2.out]; rfl, hb.out⟩
      · have t6 : ¬ (x.length : Int) ≤ 6 := by omega
        have hf2 := hid (show vDb x = false by rw [hf.out]; simpa using h6)
        go_wp2
        go_ret
        exact ⟨by rw [hf2.out]; rfl, hb.out⟩
end Go.Proofs.Ytpeojpdgknamgaa.DbVS
