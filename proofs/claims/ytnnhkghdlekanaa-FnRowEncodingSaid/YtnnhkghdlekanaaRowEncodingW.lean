/- The walk of law FnRowEncoding, at every code. -/
import Derived.Test.YtnnhkghdlekanaaRows
import Derived.Test.YtnnhkghdlekanaaDrawRows
import Derived.Test.YtnnhkghdlekanaaRowDecm
import Derived.Test.YtnnhkghdlekanaaBig
import Derived.Test.YtnnhkghdlekanaaKept
import Derived.Deep.RegionHeld3
import Derived.Deep.DeepCutAuto
namespace Go.Proofs.Ytnnhkghdlekanaa.RowEncodingW
open Go.RowKit
open Go.Proofs.Ytnnhkghdlekanaa.Num Go.Proofs.Ytnnhkghdlekanaa.IntRow Go.Proofs.Ytnnhkghdlekanaa.Vals Go.Proofs.Ytnnhkghdlekanaa.RowEnc Go.Proofs.Ytnnhkghdlekanaa.RowDec Go.Proofs.Ytnnhkghdlekanaa.RowDecs Go.Proofs.Ytnnhkghdlekanaa.RowDecm Go.Proofs.Ytnnhkghdlekanaa.RowCmp Go.Proofs.Ytnnhkghdlekanaa.RowPlain Go.Proofs.Ytnnhkghdlekanaa.DrawRows Go.Proofs.Ytnnhkghdlekanaa.Keep Go.Proofs.Ytnnhkghdlekanaa.Kept
set_option linter.unusedVariables false

theorem same_ints (a a' : Option Addr) (cap cap' : Nat) (xs : List Int) (B B' : Nat) (w : World) (hn : xs.length ≤ 1048576) (h : Rd w B a xs) (h' : Rd w B' a' xs) (hB : B ≤ w.heap.size) (hB' : B' ≤ w.heap.size) :
    Calls Try.prog 22 #[.slice a xs.length cap, .slice a' xs.length cap'] w fun e w' => e = .returned (.bool true) ∧ Below w.heap.size w w' := by
  go_enter Try.func22, Try.ntmps22
  go_wp2
  go_loopw [5] (fun i wr => ∃ k : Nat, k ≤ xs.length ∧ i = .int .i64 k ∧ Below w.heap.size w wr) (fun i _ => xs.length - (intOf i).toNat)
  case atStart => exact ⟨0, Nat.zero_le _, rfl, Below.refl _ _⟩
  case round =>
    obtain ⟨k, hk, rfl, hb⟩ := hrel
    by_cases hlt : k < xs.length
    · obtain ⟨b, off, rfl, hbB, hc⟩ := (h.below (hb.mono hB)) (by omega)
      obtain ⟨b', off', rfl, hbB', hc'⟩ := (h'.below (hb.mono hB')) (by omega)
      have g := hc k hlt
      have g' := hc' k hlt
      clear hc hc' h h'
      have hlt' : (k : Int) < (xs.length : Int) := by omega
      have h0' : (0 : Int) ≤ (k : Int) := by omega
      go_wp2
      go_quiet (fail)
      go_wp2
      go_roundw
      case rel => exact ⟨k + 1, by omega, by go_num, by exact ⟨hb.os, hb.tape, hb.output, hb.size, hb.block⟩⟩
      case measure => simp [intOf]; omega
    · go_wp2
      go_ret
      exact ⟨rfl, hb⟩

theorem spec_cmp_is (c : Int) (a1 a2 : Option Addr) (cap1 cap2 B1 B2 : Nat) (xs ys : List Int) (w : World) (hn1 : xs.length ≤ 1048576) (hn2 : ys.length ≤ 1048576) (h1 : Rd w B1 a1 xs) (h2 : Rd w B2 a2 ys) (hB1 : B1 ≤ w.heap.size) (hB2 : B2 ≤ w.heap.size) (h : cmpL xs ys = c) :
    Calls Try.prog 14 #[.slice a1 xs.length cap1, .slice a2 ys.length cap2] w fun e w' => e = .returned (.int .i64 c) ∧ Below w.heap.size w w' := by
  subst h
  exact spec_cmp a1 a2 cap1 cap2 B1 B2 xs ys w hn1 hn2 h1 h2 hB1 hB2
theorem impl_cmp_is (c : Int) (a1 a2 : Option Addr) (cap1 cap2 B1 B2 : Nat) (xs ys : List Int) (w : World) (hn1 : xs.length ≤ 1048576) (hn2 : ys.length ≤ 1048576) (h1 : Rd w B1 a1 xs) (h2 : Rd w B2 a2 ys) (h : cmpL xs ys = c) :
    Calls Try.prog 13 #[.slice a1 xs.length cap1, .slice a2 ys.length cap2] w fun e w' => e = .returned (.int .i64 c) ∧ w = w' := by
  subst h
  exact impl_cmp a1 a2 cap1 cap2 B1 B2 xs ys w hn1 hn2 h1 h2

theorem spec_are_true (a : Option Addr) (cap B : Nat) (xs : List Int) (w : World) (hn : xs.length ≤ 1048576) (h : Rd w B a xs) (hv : vals xs = true) :
    Calls Try.prog 20 #[.slice a xs.length cap] w fun e w' => e = .returned (.bool true) ∧ Below w.heap.size w w' := by
  have H := spec_are a cap B xs w hn h
  rw [hv] at H
  exact H.mono fun e w' ⟨h1, h2⟩ => by subst h2; exact ⟨h1, Below.refl _ _⟩
theorem first_none (w : World) : Calls Try.prog 21 #[.string (encS []), .int .i64 0] w fun e w' => e = .returned (.tuple #[.int .i64 0, .bool false]) ∧ w = w' :=
  impl_dv_out (encS []) 0 w (by decide) (.inr (by decide))
theorem first_none' (xs : List Int) (h : xs = []) (w : World) : Calls Try.prog 21 #[.string (encS xs), .int .i64 0] w fun e w' => e = .returned (.tuple #[.int .i64 0, .bool false]) ∧ w = w' := by
  subst h
  exact first_none w
theorem nil_or (xs : List Int) : xs = [] ∨ ∃ z tl, xs = z :: tl := by
  cases xs with
  | nil => exact .inl rfl
  | cons z tl => exact .inr ⟨z, tl, rfl⟩
theorem first_some (xs : List Int) (z : Int) (tl : List Int) (hx : xs = z :: tl) (hl : xs.length ≤ 1048576) (hv : vals xs = true) (w : World) : Calls Try.prog 21 #[.string (encS xs), .int .i64 0] w fun e w' => e = .returned (.tuple #[.int .i64 z, .bool true]) ∧ w = w' := by
  subst hx
  have hs := encS_size hv
  have h0 : 0 < (encS (z :: tl)).size := by rw [hs]; simp
  have ha := encS_at hv h0
  exact impl_dv_in (encS (z :: tl)) 0 true z w (by rw [hs]; exact hl) h0 (by rw [ha]; exact (vals_cons.1 hv).1) ha.symm

set_option maxRecDepth 100000 in
set_option maxHeartbeats 4000000 in
theorem core (w : World) (sv : Value) (HG : RowKit.Hid (Calls Try.prog 10 #[sv] w fun e w' => e = .returned (.bool false) ∧ w = w'))
    (H1 : RowKit.Hid (∀ W, Below w.heap.size w W → Calls Try.prog 11 #[sv] W (TwoRows W)))
    (H2 : RowKit.Hid (∀ W, Below w.heap.size w W → Calls Try.prog 15 #[sv] W (AnyRow W)))
    (H3 : RowKit.Hid (∀ W, Below w.heap.size w W → Calls Try.prog 17 #[sv] W (AnyCode W))) :
    Calls Try.prog 3 #[sv] w fun e w' => e = .returned (.bool true) ∧ Below w.heap.size w w' := by
  go_enter Try.func3, Try.ntmps3
  go_wp2_with fail
  refine HG.out.mono ?_
  rintro e w0 ⟨rfl, rfl⟩
  go_wp2_with fail
  refine (H1.out _ (Below.refl _ _)).mono ?_
  rintro e w1 ⟨xs, ys, a1, a2, cap1, cap2, rfl, hx, hy, vx, vy, r1, r2, hb⟩
  have B1 := hid hb
  have R1 := hid r1
  have R2 := hid r2
  have VX := hid vx
  have VY := hid vy
  clear hb r1 r2 vx vy
  go_wp2_with fail
  refine (impl_enc a1 cap1 w1.heap.size xs w1 (by omega) R1.out (Nat.le_refl _)).mono ?_
  rintro e w2 ⟨rfl, hb⟩
  have B2 := hid (B1.out.trans (hb.mono B1.out.size))
  have K2 := hid hb
  clear hb
  go_wp2_with fail
  refine (impl_enc a2 cap2 w1.heap.size ys w2 (by omega) (R2.out.below K2.out) K2.out.size).mono ?_
  rintro e w3 ⟨rfl, hb⟩
  have B3 := hid (B2.out.trans (hb.mono B2.out.size))
  have K3 := hid (K2.out.trans (hb.mono K2.out.size))
  have hs3 := K3.out.size
  have Q1 := hid (R1.out.below K3.out)
  have Q2 := hid (R2.out.below K3.out)
  clear hb B1 B2 K2
  have hanti := hid (cmpL_anti xs ys)
  have hless := less_str VX.out VY.out
  have hsame := same_str VX.out VY.out
  obtain ⟨c, hc⟩ : ∃ c, cmpL xs ys = c := ⟨_, rfl⟩
  have h3 := cmpL_three xs ys
  rw [hc] at hless hsame h3
  have HC := hid hc
  clear hc
  go_wp2_with fail
  refine (impl_cmp_is c a1 a2 cap1 cap2 w1.heap.size w1.heap.size xs ys w3 (by omega) (by omega) Q1.out Q2.out HC.out).mono ?_
  rintro e w4 ⟨rfl, rfl⟩
  have hneg : cmpL ys xs = -c := by rw [hanti.out, HC.out]
  have HN := hid hneg
  clear hneg
  go_upto_region 7 with fail
  go_cut [62] (fun s wx => s = .bool false ∧ Kp w3 0 wx)
  case first =>
    rcases h3 with rfl | rfl | rfl
    all_goals
      simp only [Int.reduceNeg, Int.reduceLT, Int.reduceEq, decide_true, decide_false, Int.neg_neg, Int.neg_zero] at hless hsame HN
      go_wp2_with fail
      refine (spec_cmp_is _ a1 a2 cap1 cap2 w1.heap.size w1.heap.size xs ys w3 (by omega) (by omega) Q1.out Q2.out hs3 hs3 HC.out).mono ?_
      rintro e w5 ⟨rfl, hb⟩
      have K5 := hid hb
      clear hb
      go_wp2_with fail
      refine (impl_cmp_is _ a2 a1 cap2 cap1 w1.heap.size w1.heap.size ys xs w5 (by omega) (by omega) (Q2.out.below (K5.out.mono hs3)) (Q1.out.below (K5.out.mono hs3)) HN.out).mono ?_
      rintro e w6 ⟨rfl, rfl⟩
      go_wp2_with fail
      go_meet
      exact ⟨rfl, by have := K5.out.size; omega, K5.out⟩
  case rest =>
    obtain ⟨rfl, hk⟩ := hcut
    obtain ⟨w5, rfl⟩ : ∃ wo : World, wo = wc := ⟨_, rfl⟩
    have B5 := hid (B3.out.trans (hk.bel.mono B3.out.size))
    clear hk hless hsame h3 HN HC hanti Q1 Q2 R1 R2 VX VY K3 B3
    go_wp2_with fail
    refine (H2.out _ B5.out).mono ?_
    rintro e w6 ⟨zs, a3, cap3, rfl, hz, r3, hb⟩
    have B6 := hid (B5.out.trans (hb.mono B5.out.size))
    have R3 := hid r3
    clear hb r3 B5
    go_wp2_with fail
    refine (impl_enc a3 cap3 w6.heap.size zs w6 (by omega) R3.out (Nat.le_refl _)).mono ?_
    rintro e w7 ⟨rfl, hb⟩
    have B7 := hid (B6.out.trans (hb.mono B6.out.size))
    have K7 := hid hb
    have hss := encS_size_le zs
    have hok := drOk_enc zs
    obtain ⟨okz, hokz⟩ : ∃ okz, drOk (encS zs) (zs.length : Nat) = okz := ⟨_, rfl⟩
    obtain ⟨T, hT⟩ : ∃ T, drL (encS zs) (zs.length : Nat) = T := ⟨_, rfl⟩
    have D := hid (impl_dr (encS zs) (zs.length : Nat) w7 (by omega))
    rw [hokz, hT] at D
    have HT := hid hT
    have HO := hid (hokz.symm.trans hok)
    clear hb hok hokz hT B6
    go_wp2_with fail
    refine D.out.mono ?_
    rintro e w8 ⟨a4, cap4, rfl, hown, hb⟩
    have B8 := hid (B7.out.trans (hb.mono B7.out.size))
    have K8 := hid (K7.out.trans (hb.mono K7.out.size))
    have T8 := hid (own_rd hown)
    clear hb hown D B7 K7
    go_wp2_with fail
    refine (H3.out _ B8.out).mono ?_
    rintro e w9 ⟨u, n, rfl, hu, hn, hb⟩
    have B9 := hid (B8.out.trans (hb.mono B8.out.size))
    have K9 := hid (K8.out.trans (hb.mono K8.out.size))
    have T9 := hid (T8.out.below hb)
    have hs9 := hb.size
    have D1 := hid (fun W => impl_dr u n W (by omega))
    have D2 := hid (fun W => spec_dr_any u n W (by omega))
    have hll := drL_len u n (by omega)
    obtain ⟨ok, hok⟩ : ∃ ok, drOk u n = ok := ⟨_, rfl⟩
    obtain ⟨vs, hvs⟩ : ∃ vs, drL u n = vs := ⟨_, rfl⟩
    rw [hok, hvs] at D1 D2
    rw [hvs] at hll
    have HV := hid (show ok = true → encS vs = u from fun h => by rw [← hvs]; exact encS_drL (hok.trans h))
    clear hb K8 B8 T8 hok hvs
    go_wp2_with fail
    refine (D1.out _).mono ?_
    rintro e w10 ⟨a5, cap5, rfl, hown, hb⟩
    have B10 := hid (B9.out.trans (hb.mono B9.out.size))
    have K10 := hid (K9.out.trans (hb.mono K9.out.size))
    have T10 := hid (T9.out.below (hb.mono hs9))
    have hs10 : w8.heap.size ≤ w10.heap.size := Nat.le_trans hs9 hb.size
    have V10 := hid (own_rd hown)
    clear hb hown K9 B9 T9
    go_wp2_with fail
    refine (D2.out _).mono ?_
    rintro e w11 ⟨a6, cap6, rfl, hown, hb⟩
    have B11 := hid (B10.out.trans (hb.mono B10.out.size))
    have K11 := hid (K10.out.trans (hb.mono K10.out.size))
    have T11 := hid (T10.out.below (hb.mono hs10))
    have hs11 : w8.heap.size ≤ w11.heap.size := Nat.le_trans hs10 hb.size
    have V11 := hid (V10.out.below hb)
    have hs12 := hb.size
    clear hb hown K10 B10 T10 V10
    go_upto_region 15 with fail
    go_cut [102] (fun s wx => s = .bool false ∧ Kp w11 0 wx)
    case first =>
      cases ok with
      | false =>
        go_wp2_with fail
        go_meet
        exact ⟨by trivial, kp_refl _⟩
      | true =>
        go_wp2_with fail
        refine (impl_enc a5 cap5 w10.heap.size vs w11 (by omega) V11.out hs12).mono ?_
        rintro e w12 ⟨rfl, hb⟩
        rw [HV.out (by trivial)]
        have hne : (u.toList == u.toList) = true := by simp
        have K12 := hid hb
        clear hb
        go_wp2_with fail
        go_meet
        exact ⟨by trivial, by have := K12.out.size; omega, K12.out⟩
    case rest =>
      obtain ⟨rfl, hk⟩ := hcut
      obtain ⟨w12, rfl⟩ : ∃ wo : World, wo = wc := ⟨_, rfl⟩
      have B12 := hid (B11.out.trans (hk.bel.mono B11.out.size))
      have K12 := hid (K11.out.trans (hk.bel.mono K11.out.size))
      have T12 := hid (T11.out.below (hk.bel.mono hs11))
      have hs13 : w8.heap.size ≤ w12.heap.size := Nat.le_trans hs11 hk.bel.size
      have hs14 := K12.out.size
      have R12 := hid (R3.out.below K12.out)
      clear hk T11 K11 B11 V11 D1 D2 R3
      cases hv : vals zs with
      | false =>
        have he := encS_no hv
        have A1 := hid (impl_are a3 cap3 w6.heap.size zs w12 (by omega) R12.out)
        have A2 := hid (spec_are a3 cap3 w6.heap.size zs w12 (by omega) R12.out)
        rw [hv] at A1 A2
        have hem : ((encS zs).toList == ([] : List UInt8)) = true := by rw [he, Lib.toList_data]; rfl
        have hem2 : (encS zs).toList.isEmpty = true := by rw [he, Lib.toList_data]; rfl
        clear he hv
        go_wp2_with fail
        refine A1.out.mono ?_
        rintro e w13 ⟨rfl, rfl⟩
        go_wp2_with fail
        refine A2.out.mono ?_
        rintro e w13 ⟨rfl, rfl⟩
        go_wp2_with fail
        go_ret
        exact ⟨rfl, B12.out⟩
      | true =>
        have e1 : okz = true := by rw [HO.out, hv]
        have e2 : T = zs := by rw [← HT.out]; exact drL_enc hv
        subst e1 e2
        have A1 := hid (impl_are a3 cap3 w6.heap.size T w12 (by omega) R12.out)
        rw [hv] at A1
        have HV2 := hid hv
        clear HO HT HV
        clear hv
        go_wp2_with fail
        refine A1.out.mono ?_
        rintro e w13 ⟨rfl, rfl⟩
        go_wp2_with fail
        rcases nil_or T with hT | ⟨z, tl, hT⟩
        · have FS := hid (fun W => first_none' T hT W)
          have h0 : decide ((0 : Int) < (T.length : Int)) = false := by rw [hT]; rfl
          have h0' : ((T.length : Int) == 0) = true := by rw [hT]; rfl
          clear hT
          have hk := (kp_refl w12).drew
          go_wp2_with fail
          refine (FS.out _).mono ?_
          rintro e w14 ⟨rfl, rfl⟩
          go_upto_region 20 with fail
          refine wp_region_held_drew (S := (fun _ => True)) (by kernel_rfl) trivial (fun hHeld => ?_)
          refine wpAnyH_take (i := 0) (oi := { dst := some 118, op := .move (.tmp 11), type := _, pos := _, after := _, guard := none }) (v := ?_) rfl (by kernel_rfl) (by kernel_rfl) (by kernel_rfl) (fun _ _ _ h => h) ?_ hHeld ?_
          rotate_left
          · (refine Or.inl ⟨by rfl, fun w hSw => ?_⟩; (try dsimp only at hSw); go_simp; (try with_reducible rfl))
          (try simp only [Act.put, List.setIfInBounds_toArray, List.set_cons_zero, List.set_cons_succ])
          refine wpAnyH_take (i := 1) (oi := { dst := some 119, op := .move (.tmp 118), type := _, pos := _, after := _, guard := none }) (v := ?_) rfl (by kernel_rfl) (by kernel_rfl) (by kernel_rfl) (fun _ _ _ h => h) ?_ hHeld ?_
          rotate_left
          · (refine Or.inl ⟨by rfl, fun w hSw => ?_⟩; (try dsimp only at hSw); go_simp; (try with_reducible rfl))
          (try simp only [Act.put, List.setIfInBounds_toArray, List.set_cons_zero, List.set_cons_succ])
          refine wpAnyH_take (i := 2) (oi := { dst := some 120, op := .move (.tmp 10), type := _, pos := _, after := _, guard := some (1, true) }) (v := ?_) rfl (by kernel_rfl) (by kernel_rfl) (by kernel_rfl) (fun _ _ _ h => h) ?_ hHeld ?_
          rotate_left
          · (refine Or.inl ⟨by rfl, fun w hSw => ?_⟩; (try dsimp only at hSw); go_simp; (try with_reducible rfl))
          (try simp only [Act.put, List.setIfInBounds_toArray, List.set_cons_zero, List.set_cons_succ])
          refine wpAnyH_take (i := 3) (oi := { dst := some 121, op := .move (.tmp 8), type := _, pos := _, after := _, guard := some (1, true) }) (v := ?_) rfl (by kernel_rfl) (by kernel_rfl) (by kernel_rfl) (fun _ _ _ h => h) ?_ hHeld ?_
          rotate_left
          · (refine Or.inl ⟨by rfl, fun w hSw => ?_⟩; (try dsimp only at hSw); go_simp; (try with_reducible rfl))
          (try simp only [Act.put, List.setIfInBounds_toArray, List.set_cons_zero, List.set_cons_succ])
          refine wpAnyH_ready (rs := [4]) (by kernel_rfl) (by simp) ?_
          refine AllReadyH.cons (o := { dst := some 122, op := .call { callee := .value (.func 22), args := #[(.tmp 120), (.tmp 121)], argTypes := #[24, 24] }, type := _, pos := _, after := _, guard := some (1, true) }) rfl (fun K hK => ?_) AllReadyH.nil
          go_simp
          (with_reducible refine (same_ints _ _ _ _ T w8.heap.size w6.heap.size _ (by omega) (rd_kp T12.out hk (by omega)) (rd_kp R12.out hk (by omega)) (kp_le hk (by omega)) (kp_le hk (by omega))).mono ?_); rintro e wA ⟨rfl, hbA⟩; have hkA := hk.call hbA
          (try go_wp2_with fail)
          refine hK.out _ _ ?_ (fun hH2 => ?_)
          · exact trivial
          clear hK K hHeld
          have hHeld := hH2
          clear hH2
          (try simp only [Act.put, List.setIfInBounds_toArray, List.set_cons_zero, List.set_cons_succ])
          refine wpAnyH_take (i := 5) (oi := { dst := some 123, op := .pick (.tmp 119) (.tmp 122) (.const (.bool false)), type := _, pos := _, after := _, guard := none }) (v := ?_) rfl (by kernel_rfl) (by kernel_rfl) (by kernel_rfl) (fun _ _ _ h => h) ?_ hHeld ?_
          rotate_left
          · (refine Or.inl ⟨by rfl, fun w hSw => ?_⟩; (try dsimp only at hSw); go_simp; (try with_reducible rfl))
          (try simp only [Act.put, List.setIfInBounds_toArray, List.set_cons_zero, List.set_cons_succ])
          refine wpAnyH_take (i := 6) (oi := { dst := some 124, op := .move (.tmp 123), type := _, pos := _, after := _, guard := none }) (v := ?_) rfl (by kernel_rfl) (by kernel_rfl) (by kernel_rfl) (fun _ _ _ h => h) ?_ hHeld ?_
          rotate_left
          · (refine Or.inl ⟨by rfl, fun w hSw => ?_⟩; (try dsimp only at hSw); go_simp; (try with_reducible rfl))
          (try simp only [Act.put, List.setIfInBounds_toArray, List.set_cons_zero, List.set_cons_succ])
          refine wpAnyH_take (i := 7) (oi := { dst := some 125, op := .move (.tmp 8), type := _, pos := _, after := _, guard := some (6, true) }) (v := ?_) rfl (by kernel_rfl) (by kernel_rfl) (by kernel_rfl) (fun _ _ _ h => h) ?_ hHeld ?_
          rotate_left
          · (refine Or.inl ⟨by rfl, fun w hSw => ?_⟩; (try dsimp only at hSw); go_simp; (try with_reducible rfl))
          (try simp only [Act.put, List.setIfInBounds_toArray, List.set_cons_zero, List.set_cons_succ])
          refine wpAnyH_ready (rs := [8]) (by kernel_rfl) (by simp) ?_
          refine AllReadyH.cons (o := { dst := some 126, op := .call { callee := .value (.func 20), args := #[(.tmp 125)], argTypes := #[24] }, type := _, pos := _, after := _, guard := some (6, true) }) rfl (fun K hK => ?_) AllReadyH.nil
          go_simp
          (with_reducible refine (spec_are_true _ _ w6.heap.size T _ (by omega) (rd_kp R12.out hkA (by omega)) HV2.out).mono ?_); rintro e wB ⟨rfl, hbB'⟩; have hkB := hkA.call hbB'
          (try go_wp2_with fail)
          refine hK.out _ _ ?_ (fun hH2 => ?_)
          · exact trivial
          clear hK K hHeld
          have hHeld := hH2
          clear hH2
          (try simp only [Act.put, List.setIfInBounds_toArray, List.set_cons_zero, List.set_cons_succ])
          refine wpAnyH_take (i := 9) (oi := { dst := some 127, op := .pick (.tmp 124) (.tmp 126) (.const (.bool false)), type := _, pos := _, after := _, guard := none }) (v := ?_) rfl (by kernel_rfl) (by kernel_rfl) (by kernel_rfl) (fun _ _ _ h => h) ?_ hHeld ?_
          rotate_left
          · (refine Or.inl ⟨by rfl, fun w hSw => ?_⟩; (try dsimp only at hSw); go_simp; (try with_reducible rfl))
          (try simp only [Act.put, List.setIfInBounds_toArray, List.set_cons_zero, List.set_cons_succ])
          refine wpAnyH_take (i := 10) (oi := { dst := some 128, op := .move (.tmp 127), type := _, pos := _, after := _, guard := none }) (v := ?_) rfl (by kernel_rfl) (by kernel_rfl) (by kernel_rfl) (fun _ _ _ h => h) ?_ hHeld ?_
          rotate_left
          · (refine Or.inl ⟨by rfl, fun w hSw => ?_⟩; (try dsimp only at hSw); go_simp; (try with_reducible rfl))
          (try simp only [Act.put, List.setIfInBounds_toArray, List.set_cons_zero, List.set_cons_succ])
          refine wpAnyH_take (i := 11) (oi := { dst := some 129, op := .move (.tmp 8), type := _, pos := _, after := _, guard := some (10, true) }) (v := ?_) rfl (by kernel_rfl) (by kernel_rfl) (by kernel_rfl) (fun _ _ _ h => h) ?_ hHeld ?_
          rotate_left
          · (refine Or.inl ⟨by rfl, fun w hSw => ?_⟩; (try dsimp only at hSw); go_simp; (try with_reducible rfl))
          (try simp only [Act.put, List.setIfInBounds_toArray, List.set_cons_zero, List.set_cons_succ])
          refine wpAnyH_take (i := 12) (oi := { dst := some 130, op := .call { callee := .builtin .len, args := #[(.tmp 129)], argTypes := #[24] }, type := _, pos := _, after := _, guard := some (10, true) }) (v := ?_) rfl (by kernel_rfl) (by kernel_rfl) (by kernel_rfl) (fun _ _ _ h => h) ?_ hHeld ?_
          rotate_left
          · (refine Or.inl ⟨by rfl, fun w hSw => ?_⟩; (try dsimp only at hSw); go_simp; (try with_reducible rfl))
          (try simp only [Act.put, List.setIfInBounds_toArray, List.set_cons_zero, List.set_cons_succ])
          refine wpAnyH_take (i := 13) (oi := { dst := some 131, op := .binOp .eql 3 (.tmp 130) (.const (.int .i64 0)) 3, type := _, pos := _, after := _, guard := some (10, true) }) (v := ?_) rfl (by kernel_rfl) (by kernel_rfl) (by kernel_rfl) (fun _ _ _ h => h) ?_ hHeld ?_
          rotate_left
          · (refine Or.inl ⟨by rfl, fun w hSw => ?_⟩; (try dsimp only at hSw); go_simp; (try with_reducible rfl))
          (try simp only [Act.put, List.setIfInBounds_toArray, List.set_cons_zero, List.set_cons_succ])
          refine wpAnyH_take (i := 14) (oi := { dst := some 132, op := .move (.tmp 131), type := _, pos := _, after := _, guard := some (10, true) }) (v := ?_) rfl (by kernel_rfl) (by kernel_rfl) (by kernel_rfl) (fun _ _ _ h => h) ?_ hHeld ?_
          rotate_left
          · (refine Or.inl ⟨by rfl, fun w hSw => ?_⟩; (try dsimp only at hSw); go_simp; (try with_reducible rfl))
          (try simp only [Act.put, List.setIfInBounds_toArray, List.set_cons_zero, List.set_cons_succ])
          refine wpAnyH_take (i := 15) (oi := { dst := some 133, op := .move (.tmp 19), type := _, pos := _, after := _, guard := some (14, true) }) (v := ?_) rfl (by kernel_rfl) (by kernel_rfl) (by kernel_rfl) (fun _ _ _ h => h) ?_ hHeld ?_
          rotate_left
          · (refine Or.inl ⟨by rfl, fun w hSw => ?_⟩; (try dsimp only at hSw); go_simp; (try with_reducible rfl))
          (try simp only [Act.put, List.setIfInBounds_toArray, List.set_cons_zero, List.set_cons_succ])
          refine wpAnyH_take (i := 16) (oi := { dst := some 134, op := .unOp .not 4 (.tmp 133), type := _, pos := _, after := _, guard := some (14, true) }) (v := ?_) rfl (by kernel_rfl) (by kernel_rfl) (by kernel_rfl) (fun _ _ _ h => h) ?_ hHeld ?_
          rotate_left
          · (refine Or.inl ⟨by rfl, fun w hSw => ?_⟩; (try dsimp only at hSw); go_simp; (try with_reducible rfl))
          (try simp only [Act.put, List.setIfInBounds_toArray, List.set_cons_zero, List.set_cons_succ])
          refine wpAnyH_take (i := 17) (oi := { dst := some 135, op := .pick (.tmp 132) (.tmp 134) (.const (.bool false)), type := _, pos := _, after := _, guard := some (10, true) }) (v := ?_) rfl (by kernel_rfl) (by kernel_rfl) (by kernel_rfl) (fun _ _ _ h => h) ?_ hHeld ?_
          rotate_left
          · (refine Or.inl ⟨by rfl, fun w hSw => ?_⟩; (try dsimp only at hSw); go_simp; (try with_reducible rfl))
          (try simp only [Act.put, List.setIfInBounds_toArray, List.set_cons_zero, List.set_cons_succ])
          refine wpAnyH_take (i := 18) (oi := { dst := some 136, op := .move (.tmp 135), type := _, pos := _, after := _, guard := some (10, true) }) (v := ?_) rfl (by kernel_rfl) (by kernel_rfl) (by kernel_rfl) (fun _ _ _ h => h) ?_ hHeld ?_
          rotate_left
          · (refine Or.inl ⟨by rfl, fun w hSw => ?_⟩; (try dsimp only at hSw); go_simp; (try with_reducible rfl))
          (try simp only [Act.put, List.setIfInBounds_toArray, List.set_cons_zero, List.set_cons_succ])
          refine wpAnyH_take (i := 19) (oi := { dst := some 137, op := .move (.tmp 8), type := _, pos := _, after := _, guard := some (18, false) }) (v := undef) rfl (by kernel_rfl) (by kernel_rfl) (by kernel_rfl) (fun _ _ _ h => h) (Or.inr ?_) hHeld ?_
          · exact ⟨by rfl, rfl⟩
          (try simp only [Act.put, List.setIfInBounds_toArray, List.set_cons_zero, List.set_cons_succ])
          refine wpAnyH_take (i := 20) (oi := { dst := some 138, op := .call { callee := .builtin .len, args := #[(.tmp 137)], argTypes := #[24] }, type := _, pos := _, after := _, guard := some (18, false) }) (v := undef) rfl (by kernel_rfl) (by kernel_rfl) (by kernel_rfl) (fun _ _ _ h => h) (Or.inr ?_) hHeld ?_
          · exact ⟨by rfl, rfl⟩
          (try simp only [Act.put, List.setIfInBounds_toArray, List.set_cons_zero, List.set_cons_succ])
          refine wpAnyH_take (i := 21) (oi := { dst := some 139, op := .binOp .gtr 3 (.tmp 138) (.const (.int .i64 0)) 3, type := _, pos := _, after := _, guard := some (18, false) }) (v := undef) rfl (by kernel_rfl) (by kernel_rfl) (by kernel_rfl) (fun _ _ _ h => h) (Or.inr ?_) hHeld ?_
          · exact ⟨by rfl, rfl⟩
          (try simp only [Act.put, List.setIfInBounds_toArray, List.set_cons_zero, List.set_cons_succ])
          refine wpAnyH_take (i := 22) (oi := { dst := some 140, op := .move (.tmp 139), type := _, pos := _, after := _, guard := some (18, false) }) (v := undef) rfl (by kernel_rfl) (by kernel_rfl) (by kernel_rfl) (fun _ _ _ h => h) (Or.inr ?_) hHeld ?_
          · exact ⟨by rfl, rfl⟩
          (try simp only [Act.put, List.setIfInBounds_toArray, List.set_cons_zero, List.set_cons_succ])
          refine wpAnyH_take (i := 23) (oi := { dst := some 141, op := .move (.tmp 19), type := _, pos := _, after := _, guard := some (22, true) }) (v := undef) rfl (by kernel_rfl) (by kernel_rfl) (by kernel_rfl) (fun _ _ _ h => h) (Or.inr ?_) hHeld ?_
          · exact ⟨by rfl, rfl⟩
          (try simp only [Act.put, List.setIfInBounds_toArray, List.set_cons_zero, List.set_cons_succ])
          refine wpAnyH_take (i := 24) (oi := { dst := some 142, op := .pick (.tmp 140) (.tmp 141) (.const (.bool false)), type := _, pos := _, after := _, guard := some (18, false) }) (v := undef) rfl (by kernel_rfl) (by kernel_rfl) (by kernel_rfl) (fun _ _ _ h => h) (Or.inr ?_) hHeld ?_
          · exact ⟨by rfl, rfl⟩
          (try simp only [Act.put, List.setIfInBounds_toArray, List.set_cons_zero, List.set_cons_succ])
          refine wpAnyH_take (i := 25) (oi := { dst := some 143, op := .move (.tmp 142), type := _, pos := _, after := _, guard := some (18, false) }) (v := undef) rfl (by kernel_rfl) (by kernel_rfl) (by kernel_rfl) (fun _ _ _ h => h) (Or.inr ?_) hHeld ?_
          · exact ⟨by rfl, rfl⟩
          (try simp only [Act.put, List.setIfInBounds_toArray, List.set_cons_zero, List.set_cons_succ])
          refine wpAnyH_take (i := 26) (oi := { dst := some 144, op := .move (.tmp 18), type := _, pos := _, after := _, guard := some (25, true) }) (v := undef) rfl (by kernel_rfl) (by kernel_rfl) (by kernel_rfl) (fun _ _ _ h => h) (Or.inr ?_) hHeld ?_
          · exact ⟨by rfl, rfl⟩
          (try simp only [Act.put, List.setIfInBounds_toArray, List.set_cons_zero, List.set_cons_succ])
          refine wpAnyH_take (i := 27) (oi := { dst := some 145, op := .move (.tmp 8), type := _, pos := _, after := _, guard := some (25, true) }) (v := undef) rfl (by kernel_rfl) (by kernel_rfl) (by kernel_rfl) (fun _ _ _ h => h) (Or.inr ?_) hHeld ?_
          · exact ⟨by rfl, rfl⟩
          (try simp only [Act.put, List.setIfInBounds_toArray, List.set_cons_zero, List.set_cons_succ])
          refine wpAnyH_take (i := 28) (oi := { dst := some 146, op := .indexAddr 24 (.tmp 145) (.const (.int .i64 0)), type := _, pos := _, after := _, guard := some (25, true) }) (v := undef) rfl (by kernel_rfl) (by kernel_rfl) (by kernel_rfl) (fun _ _ _ h => h) (Or.inr ?_) hHeld ?_
          · exact ⟨by rfl, rfl⟩
          (try simp only [Act.put, List.setIfInBounds_toArray, List.set_cons_zero, List.set_cons_succ])
          refine wpAnyH_take (i := 29) (oi := { dst := some 147, op := .load 3 (.tmp 146), type := _, pos := _, after := _, guard := some (25, true) }) (v := undef) rfl (by kernel_rfl) (by kernel_rfl) (by kernel_rfl) (fun _ _ _ h => h) (Or.inr ?_) hHeld ?_
          · exact ⟨by rfl, rfl⟩
          (try simp only [Act.put, List.setIfInBounds_toArray, List.set_cons_zero, List.set_cons_succ])
          refine wpAnyH_take (i := 30) (oi := { dst := some 148, op := .binOp .eql 3 (.tmp 144) (.tmp 147) 3, type := _, pos := _, after := _, guard := some (25, true) }) (v := undef) rfl (by kernel_rfl) (by kernel_rfl) (by kernel_rfl) (fun _ _ _ h => h) (Or.inr ?_) hHeld ?_
          · exact ⟨by rfl, rfl⟩
          (try simp only [Act.put, List.setIfInBounds_toArray, List.set_cons_zero, List.set_cons_succ])
          refine wpAnyH_take (i := 31) (oi := { dst := some 149, op := .pick (.tmp 143) (.tmp 148) (.const (.bool false)), type := _, pos := _, after := _, guard := some (18, false) }) (v := undef) rfl (by kernel_rfl) (by kernel_rfl) (by kernel_rfl) (fun _ _ _ h => h) (Or.inr ?_) hHeld ?_
          · exact ⟨by rfl, rfl⟩
          (try simp only [Act.put, List.setIfInBounds_toArray, List.set_cons_zero, List.set_cons_succ])
          refine wpAnyH_take (i := 32) (oi := { dst := some 150, op := .move (.tmp 149), type := _, pos := _, after := _, guard := some (18, false) }) (v := undef) rfl (by kernel_rfl) (by kernel_rfl) (by kernel_rfl) (fun _ _ _ h => h) (Or.inr ?_) hHeld ?_
          · exact ⟨by rfl, rfl⟩
          (try simp only [Act.put, List.setIfInBounds_toArray, List.set_cons_zero, List.set_cons_succ])
          refine wpAnyH_take (i := 33) (oi := { dst := some 151, op := .move (.tmp 18), type := _, pos := _, after := _, guard := some (32, true) }) (v := undef) rfl (by kernel_rfl) (by kernel_rfl) (by kernel_rfl) (fun _ _ _ h => h) (Or.inr ?_) hHeld ?_
          · exact ⟨by rfl, rfl⟩
          (try simp only [Act.put, List.setIfInBounds_toArray, List.set_cons_zero, List.set_cons_succ])
          refine wpAnyH_take (i := 34) (oi := { dst := some 152, op := .call { callee := .value (.func 23), args := #[(.tmp 151)], argTypes := #[3] }, type := _, pos := _, after := _, guard := some (32, true) }) (v := undef) rfl (by kernel_rfl) (by kernel_rfl) (by kernel_rfl) (fun _ _ _ h => h) (Or.inr ?_) hHeld ?_
          · exact ⟨by rfl, rfl⟩
          (try simp only [Act.put, List.setIfInBounds_toArray, List.set_cons_zero, List.set_cons_succ])
          refine wpAnyH_take (i := 35) (oi := { dst := some 153, op := .move (.tmp 9), type := _, pos := _, after := _, guard := some (32, true) }) (v := undef) rfl (by kernel_rfl) (by kernel_rfl) (by kernel_rfl) (fun _ _ _ h => h) (Or.inr ?_) hHeld ?_
          · exact ⟨by rfl, rfl⟩
          (try simp only [Act.put, List.setIfInBounds_toArray, List.set_cons_zero, List.set_cons_succ])
          refine wpAnyH_take (i := 36) (oi := { dst := some 154, op := .slice 9 (.tmp 153) none (some (.const (.int .i64 1))) none, type := _, pos := _, after := _, guard := some (32, true) }) (v := undef) rfl (by kernel_rfl) (by kernel_rfl) (by kernel_rfl) (fun _ _ _ h => h) (Or.inr ?_) hHeld ?_
          · exact ⟨by rfl, rfl⟩
          (try simp only [Act.put, List.setIfInBounds_toArray, List.set_cons_zero, List.set_cons_succ])
          refine wpAnyH_take (i := 37) (oi := { dst := some 155, op := .binOp .eql 9 (.tmp 152) (.tmp 154) 9, type := _, pos := _, after := _, guard := some (32, true) }) (v := undef) rfl (by kernel_rfl) (by kernel_rfl) (by kernel_rfl) (fun _ _ _ h => h) (Or.inr ?_) hHeld ?_
          · exact ⟨by rfl, rfl⟩
          (try simp only [Act.put, List.setIfInBounds_toArray, List.set_cons_zero, List.set_cons_succ])
          refine wpAnyH_take (i := 38) (oi := { dst := some 156, op := .pick (.tmp 150) (.tmp 155) (.const (.bool false)), type := _, pos := _, after := _, guard := some (18, false) }) (v := undef) rfl (by kernel_rfl) (by kernel_rfl) (by kernel_rfl) (fun _ _ _ h => h) (Or.inr ?_) hHeld ?_
          · exact ⟨by rfl, rfl⟩
          (try simp only [Act.put, List.setIfInBounds_toArray, List.set_cons_zero, List.set_cons_succ])
          refine wpAnyH_take (i := 39) (oi := { dst := some 157, op := .pick (.tmp 136) (.const (.bool true)) (.tmp 156), type := _, pos := _, after := _, guard := some (10, true) }) (v := ?_) rfl (by kernel_rfl) (by kernel_rfl) (by kernel_rfl) (fun _ _ _ h => h) ?_ hHeld ?_
          rotate_left
          · (refine Or.inl ⟨by rfl, fun w hSw => ?_⟩; (try dsimp only at hSw); go_simp; (try with_reducible rfl))
          (try simp only [Act.put, List.setIfInBounds_toArray, List.set_cons_zero, List.set_cons_succ])
          refine wpAnyH_take (i := 40) (oi := { dst := some 158, op := .pick (.tmp 128) (.tmp 157) (.const (.bool false)), type := _, pos := _, after := _, guard := none }) (v := ?_) rfl (by kernel_rfl) (by kernel_rfl) (by kernel_rfl) (fun _ _ _ h => h) ?_ hHeld ?_
          rotate_left
          · (refine Or.inl ⟨by rfl, fun w hSw => ?_⟩; (try dsimp only at hSw); go_simp; (try with_reducible rfl))
          (try simp only [Act.put, List.setIfInBounds_toArray, List.set_cons_zero, List.set_cons_succ])
          refine wpAnyH_take (i := 41) (oi := { dst := some 2, op := .assign (.tmp 158), type := _, pos := _, after := _, guard := none }) (v := ?_) rfl (by kernel_rfl) (by kernel_rfl) (by kernel_rfl) (fun _ _ _ h => h) ?_ hHeld ?_
          rotate_left
          · (refine Or.inl ⟨by rfl, fun w hSw => ?_⟩; (try dsimp only at hSw); go_simp; (try with_reducible rfl))
          (try simp only [Act.put, List.setIfInBounds_toArray, List.set_cons_zero, List.set_cons_succ])
          refine wpAnyH_done (by kernel_rfl) ?_ _
          go_wp2_with fail
          go_ret
          exact ⟨rfl, B12.out.trans (hkB.bel.mono B12.out.size)⟩
        · have FS := hid (fun W => first_some T z tl hT (by omega) HV2.out W)
          have h1 : 0 < T.length := by rw [hT, List.length_cons]; omega
          have h0 : decide ((0 : Int) < (T.length : Int)) = true := by rw [decide_eq_true_eq]; omega
          have h0' : ((T.length : Int) == 0) = false := by rw [beq_eq_false_iff_ne]; omega
          obtain ⟨b, off, rfl, hbB, hcell⟩ := R12.out h1
          have g := hcell 0 h1
          have hz0 : T[0]'h1 = z := by simp [hT]
          rw [hz0] at g
          simp only [Nat.add_zero] at g
          have hext : (encS T).extract 0 1 = encV z := by rw [hT]; exact encS_first (by rw [← hT]; exact HV2.out)
          have hsz : (1 : Int) ≤ ((encS T).size : Int) := by rw [encS_size HV2.out]; omega
          have hi0 : (0 : Int) < (T.length : Int) := by omega
          have hee : ((encV z).toList == (encV z).toList) = true := by simp
          have hzz : (z == z) = true := by simp
          clear hcell hz0 hT
          have hk := (kp_refl w12).drew
          go_wp2_with fail
          refine (FS.out _).mono ?_
          rintro e w14 ⟨rfl, rfl⟩
          go_upto_region 20 with fail
          refine wp_region_held_drew (S := (fun w' => w'.cell? ⟨b, off, none⟩ = some (.int .i64 z))) (by kernel_rfl) g (fun hHeld => ?_)
          refine wpAnyH_take (i := 0) (oi := { dst := some 118, op := .move (.tmp 11), type := _, pos := _, after := _, guard := none }) (v := ?_) rfl (by kernel_rfl) (by kernel_rfl) (by kernel_rfl) (fun _ _ _ h => h) ?_ hHeld ?_
          rotate_left
          · (refine Or.inl ⟨by rfl, fun w hSw => ?_⟩; (try dsimp only at hSw); go_simp; (try with_reducible rfl))
          (try simp only [Act.put, List.setIfInBounds_toArray, List.set_cons_zero, List.set_cons_succ])
          refine wpAnyH_take (i := 1) (oi := { dst := some 119, op := .move (.tmp 118), type := _, pos := _, after := _, guard := none }) (v := ?_) rfl (by kernel_rfl) (by kernel_rfl) (by kernel_rfl) (fun _ _ _ h => h) ?_ hHeld ?_
          rotate_left
          · (refine Or.inl ⟨by rfl, fun w hSw => ?_⟩; (try dsimp only at hSw); go_simp; (try with_reducible rfl))
          (try simp only [Act.put, List.setIfInBounds_toArray, List.set_cons_zero, List.set_cons_succ])
          refine wpAnyH_take (i := 2) (oi := { dst := some 120, op := .move (.tmp 10), type := _, pos := _, after := _, guard := some (1, true) }) (v := ?_) rfl (by kernel_rfl) (by kernel_rfl) (by kernel_rfl) (fun _ _ _ h => h) ?_ hHeld ?_
          rotate_left
          · (refine Or.inl ⟨by rfl, fun w hSw => ?_⟩; (try dsimp only at hSw); go_simp; (try with_reducible rfl))
          (try simp only [Act.put, List.setIfInBounds_toArray, List.set_cons_zero, List.set_cons_succ])
          refine wpAnyH_take (i := 3) (oi := { dst := some 121, op := .move (.tmp 8), type := _, pos := _, after := _, guard := some (1, true) }) (v := ?_) rfl (by kernel_rfl) (by kernel_rfl) (by kernel_rfl) (fun _ _ _ h => h) ?_ hHeld ?_
          rotate_left
          · (refine Or.inl ⟨by rfl, fun w hSw => ?_⟩; (try dsimp only at hSw); go_simp; (try with_reducible rfl))
          (try simp only [Act.put, List.setIfInBounds_toArray, List.set_cons_zero, List.set_cons_succ])
          refine wpAnyH_ready (rs := [4]) (by kernel_rfl) (by simp) ?_
          refine AllReadyH.cons (o := { dst := some 122, op := .call { callee := .value (.func 22), args := #[(.tmp 120), (.tmp 121)], argTypes := #[24, 24] }, type := _, pos := _, after := _, guard := some (1, true) }) rfl (fun K hK => ?_) AllReadyH.nil
          go_simp
          (with_reducible refine (same_ints _ _ _ _ T w8.heap.size w6.heap.size _ (by omega) (rd_kp T12.out hk (by omega)) (rd_kp R12.out hk (by omega)) (kp_le hk (by omega)) (kp_le hk (by omega))).mono ?_); rintro e wA ⟨rfl, hbA⟩; have hkA := hk.call hbA
          (try go_wp2_with fail)
          refine hK.out _ _ ?_ (fun hH2 => ?_)
          · exact (hkA.bel.cell (p := ⟨b, off, none⟩) (Nat.lt_of_lt_of_le hbB hs14)).trans g
          clear hK K hHeld
          have hHeld := hH2
          clear hH2
          (try simp only [Act.put, List.setIfInBounds_toArray, List.set_cons_zero, List.set_cons_succ])
          refine wpAnyH_take (i := 5) (oi := { dst := some 123, op := .pick (.tmp 119) (.tmp 122) (.const (.bool false)), type := _, pos := _, after := _, guard := none }) (v := ?_) rfl (by kernel_rfl) (by kernel_rfl) (by kernel_rfl) (fun _ _ _ h => h) ?_ hHeld ?_
          rotate_left
          · (refine Or.inl ⟨by rfl, fun w hSw => ?_⟩; (try dsimp only at hSw); go_simp; (try with_reducible rfl))
          (try simp only [Act.put, List.setIfInBounds_toArray, List.set_cons_zero, List.set_cons_succ])
          refine wpAnyH_take (i := 6) (oi := { dst := some 124, op := .move (.tmp 123), type := _, pos := _, after := _, guard := none }) (v := ?_) rfl (by kernel_rfl) (by kernel_rfl) (by kernel_rfl) (fun _ _ _ h => h) ?_ hHeld ?_
          rotate_left
          · (refine Or.inl ⟨by rfl, fun w hSw => ?_⟩; (try dsimp only at hSw); go_simp; (try with_reducible rfl))
          (try simp only [Act.put, List.setIfInBounds_toArray, List.set_cons_zero, List.set_cons_succ])
          refine wpAnyH_take (i := 7) (oi := { dst := some 125, op := .move (.tmp 8), type := _, pos := _, after := _, guard := some (6, true) }) (v := ?_) rfl (by kernel_rfl) (by kernel_rfl) (by kernel_rfl) (fun _ _ _ h => h) ?_ hHeld ?_
          rotate_left
          · (refine Or.inl ⟨by rfl, fun w hSw => ?_⟩; (try dsimp only at hSw); go_simp; (try with_reducible rfl))
          (try simp only [Act.put, List.setIfInBounds_toArray, List.set_cons_zero, List.set_cons_succ])
          refine wpAnyH_ready (rs := [8]) (by kernel_rfl) (by simp) ?_
          refine AllReadyH.cons (o := { dst := some 126, op := .call { callee := .value (.func 20), args := #[(.tmp 125)], argTypes := #[24] }, type := _, pos := _, after := _, guard := some (6, true) }) rfl (fun K hK => ?_) AllReadyH.nil
          go_simp
          (with_reducible refine (spec_are_true _ _ w6.heap.size T _ (by omega) (rd_kp R12.out hkA (by omega)) HV2.out).mono ?_); rintro e wB ⟨rfl, hbB'⟩; have hkB := hkA.call hbB'; have gB := (hkB.bel.cell (p := ⟨b, off, none⟩) (Nat.lt_of_lt_of_le hbB hs14)).trans g
          (try go_wp2_with fail)
          refine hK.out _ _ ?_ (fun hH2 => ?_)
          · exact gB
          clear hK K hHeld
          have hHeld := hH2
          clear hH2
          (try simp only [Act.put, List.setIfInBounds_toArray, List.set_cons_zero, List.set_cons_succ])
          refine wpAnyH_take (i := 9) (oi := { dst := some 127, op := .pick (.tmp 124) (.tmp 126) (.const (.bool false)), type := _, pos := _, after := _, guard := none }) (v := ?_) rfl (by kernel_rfl) (by kernel_rfl) (by kernel_rfl) (fun _ _ _ h => h) ?_ hHeld ?_
          rotate_left
          · (refine Or.inl ⟨by rfl, fun w hSw => ?_⟩; (try dsimp only at hSw); go_simp; (try with_reducible rfl))
          (try simp only [Act.put, List.setIfInBounds_toArray, List.set_cons_zero, List.set_cons_succ])
          refine wpAnyH_take (i := 10) (oi := { dst := some 128, op := .move (.tmp 127), type := _, pos := _, after := _, guard := none }) (v := ?_) rfl (by kernel_rfl) (by kernel_rfl) (by kernel_rfl) (fun _ _ _ h => h) ?_ hHeld ?_
          rotate_left
          · (refine Or.inl ⟨by rfl, fun w hSw => ?_⟩; (try dsimp only at hSw); go_simp; (try with_reducible rfl))
          (try simp only [Act.put, List.setIfInBounds_toArray, List.set_cons_zero, List.set_cons_succ])
          refine wpAnyH_take (i := 11) (oi := { dst := some 129, op := .move (.tmp 8), type := _, pos := _, after := _, guard := some (10, true) }) (v := ?_) rfl (by kernel_rfl) (by kernel_rfl) (by kernel_rfl) (fun _ _ _ h => h) ?_ hHeld ?_
          rotate_left
          · (refine Or.inl ⟨by rfl, fun w hSw => ?_⟩; (try dsimp only at hSw); go_simp; (try with_reducible rfl))
          (try simp only [Act.put, List.setIfInBounds_toArray, List.set_cons_zero, List.set_cons_succ])
          refine wpAnyH_take (i := 12) (oi := { dst := some 130, op := .call { callee := .builtin .len, args := #[(.tmp 129)], argTypes := #[24] }, type := _, pos := _, after := _, guard := some (10, true) }) (v := ?_) rfl (by kernel_rfl) (by kernel_rfl) (by kernel_rfl) (fun _ _ _ h => h) ?_ hHeld ?_
          rotate_left
          · (refine Or.inl ⟨by rfl, fun w hSw => ?_⟩; (try dsimp only at hSw); go_simp; (try with_reducible rfl))
          (try simp only [Act.put, List.setIfInBounds_toArray, List.set_cons_zero, List.set_cons_succ])
          refine wpAnyH_take (i := 13) (oi := { dst := some 131, op := .binOp .eql 3 (.tmp 130) (.const (.int .i64 0)) 3, type := _, pos := _, after := _, guard := some (10, true) }) (v := ?_) rfl (by kernel_rfl) (by kernel_rfl) (by kernel_rfl) (fun _ _ _ h => h) ?_ hHeld ?_
          rotate_left
          · (refine Or.inl ⟨by rfl, fun w hSw => ?_⟩; (try dsimp only at hSw); go_simp; (try with_reducible rfl))
          (try simp only [Act.put, List.setIfInBounds_toArray, List.set_cons_zero, List.set_cons_succ])
          refine wpAnyH_take (i := 14) (oi := { dst := some 132, op := .move (.tmp 131), type := _, pos := _, after := _, guard := some (10, true) }) (v := ?_) rfl (by kernel_rfl) (by kernel_rfl) (by kernel_rfl) (fun _ _ _ h => h) ?_ hHeld ?_
          rotate_left
          · (refine Or.inl ⟨by rfl, fun w hSw => ?_⟩; (try dsimp only at hSw); go_simp; (try with_reducible rfl))
          (try simp only [Act.put, List.setIfInBounds_toArray, List.set_cons_zero, List.set_cons_succ])
          refine wpAnyH_take (i := 15) (oi := { dst := some 133, op := .move (.tmp 19), type := _, pos := _, after := _, guard := some (14, true) }) (v := undef) rfl (by kernel_rfl) (by kernel_rfl) (by kernel_rfl) (fun _ _ _ h => h) (Or.inr ?_) hHeld ?_
          · exact ⟨by rfl, rfl⟩
          (try simp only [Act.put, List.setIfInBounds_toArray, List.set_cons_zero, List.set_cons_succ])
          refine wpAnyH_take (i := 16) (oi := { dst := some 134, op := .unOp .not 4 (.tmp 133), type := _, pos := _, after := _, guard := some (14, true) }) (v := undef) rfl (by kernel_rfl) (by kernel_rfl) (by kernel_rfl) (fun _ _ _ h => h) (Or.inr ?_) hHeld ?_
          · exact ⟨by rfl, rfl⟩
          (try simp only [Act.put, List.setIfInBounds_toArray, List.set_cons_zero, List.set_cons_succ])
          refine wpAnyH_take (i := 17) (oi := { dst := some 135, op := .pick (.tmp 132) (.tmp 134) (.const (.bool false)), type := _, pos := _, after := _, guard := some (10, true) }) (v := ?_) rfl (by kernel_rfl) (by kernel_rfl) (by kernel_rfl) (fun _ _ _ h => h) ?_ hHeld ?_
          rotate_left
          · (refine Or.inl ⟨by rfl, fun w hSw => ?_⟩; (try dsimp only at hSw); go_simp; (try with_reducible rfl))
          (try simp only [Act.put, List.setIfInBounds_toArray, List.set_cons_zero, List.set_cons_succ])
          refine wpAnyH_take (i := 18) (oi := { dst := some 136, op := .move (.tmp 135), type := _, pos := _, after := _, guard := some (10, true) }) (v := ?_) rfl (by kernel_rfl) (by kernel_rfl) (by kernel_rfl) (fun _ _ _ h => h) ?_ hHeld ?_
          rotate_left
          · (refine Or.inl ⟨by rfl, fun w hSw => ?_⟩; (try dsimp only at hSw); go_simp; (try with_reducible rfl))
          (try simp only [Act.put, List.setIfInBounds_toArray, List.set_cons_zero, List.set_cons_succ])
          refine wpAnyH_take (i := 19) (oi := { dst := some 137, op := .move (.tmp 8), type := _, pos := _, after := _, guard := some (18, false) }) (v := ?_) rfl (by kernel_rfl) (by kernel_rfl) (by kernel_rfl) (fun _ _ _ h => h) ?_ hHeld ?_
          rotate_left
          · (refine Or.inl ⟨by rfl, fun w hSw => ?_⟩; (try dsimp only at hSw); go_simp; (try with_reducible rfl))
          (try simp only [Act.put, List.setIfInBounds_toArray, List.set_cons_zero, List.set_cons_succ])
          refine wpAnyH_take (i := 20) (oi := { dst := some 138, op := .call { callee := .builtin .len, args := #[(.tmp 137)], argTypes := #[24] }, type := _, pos := _, after := _, guard := some (18, false) }) (v := ?_) rfl (by kernel_rfl) (by kernel_rfl) (by kernel_rfl) (fun _ _ _ h => h) ?_ hHeld ?_
          rotate_left
          · (refine Or.inl ⟨by rfl, fun w hSw => ?_⟩; (try dsimp only at hSw); go_simp; (try with_reducible rfl))
          (try simp only [Act.put, List.setIfInBounds_toArray, List.set_cons_zero, List.set_cons_succ])
          refine wpAnyH_take (i := 21) (oi := { dst := some 139, op := .binOp .gtr 3 (.tmp 138) (.const (.int .i64 0)) 3, type := _, pos := _, after := _, guard := some (18, false) }) (v := .bool true) rfl (by kernel_rfl) (by kernel_rfl) (by kernel_rfl) (fun _ _ _ h => h) ?_ hHeld ?_
          · (refine Or.inl ⟨by rfl, fun w hSw => ?_⟩; (try dsimp only at hSw); go_simp; (try omega))
          (try simp only [Act.put, List.setIfInBounds_toArray, List.set_cons_zero, List.set_cons_succ])
          refine wpAnyH_take (i := 22) (oi := { dst := some 140, op := .move (.tmp 139), type := _, pos := _, after := _, guard := some (18, false) }) (v := ?_) rfl (by kernel_rfl) (by kernel_rfl) (by kernel_rfl) (fun _ _ _ h => h) ?_ hHeld ?_
          rotate_left
          · (refine Or.inl ⟨by rfl, fun w hSw => ?_⟩; (try dsimp only at hSw); go_simp; (try with_reducible rfl))
          (try simp only [Act.put, List.setIfInBounds_toArray, List.set_cons_zero, List.set_cons_succ])
          refine wpAnyH_take (i := 23) (oi := { dst := some 141, op := .move (.tmp 19), type := _, pos := _, after := _, guard := some (22, true) }) (v := ?_) rfl (by kernel_rfl) (by kernel_rfl) (by kernel_rfl) (fun _ _ _ h => h) ?_ hHeld ?_
          rotate_left
          · (refine Or.inl ⟨by rfl, fun w hSw => ?_⟩; (try dsimp only at hSw); go_simp; (try with_reducible rfl))
          (try simp only [Act.put, List.setIfInBounds_toArray, List.set_cons_zero, List.set_cons_succ])
          refine wpAnyH_take (i := 24) (oi := { dst := some 142, op := .pick (.tmp 140) (.tmp 141) (.const (.bool false)), type := _, pos := _, after := _, guard := some (18, false) }) (v := ?_) rfl (by kernel_rfl) (by kernel_rfl) (by kernel_rfl) (fun _ _ _ h => h) ?_ hHeld ?_
          rotate_left
          · (refine Or.inl ⟨by rfl, fun w hSw => ?_⟩; (try dsimp only at hSw); go_simp; (try with_reducible rfl))
          (try simp only [Act.put, List.setIfInBounds_toArray, List.set_cons_zero, List.set_cons_succ])
          refine wpAnyH_take (i := 25) (oi := { dst := some 143, op := .move (.tmp 142), type := _, pos := _, after := _, guard := some (18, false) }) (v := ?_) rfl (by kernel_rfl) (by kernel_rfl) (by kernel_rfl) (fun _ _ _ h => h) ?_ hHeld ?_
          rotate_left
          · (refine Or.inl ⟨by rfl, fun w hSw => ?_⟩; (try dsimp only at hSw); go_simp; (try with_reducible rfl))
          (try simp only [Act.put, List.setIfInBounds_toArray, List.set_cons_zero, List.set_cons_succ])
          refine wpAnyH_take (i := 26) (oi := { dst := some 144, op := .move (.tmp 18), type := _, pos := _, after := _, guard := some (25, true) }) (v := ?_) rfl (by kernel_rfl) (by kernel_rfl) (by kernel_rfl) (fun _ _ _ h => h) ?_ hHeld ?_
          rotate_left
          · (refine Or.inl ⟨by rfl, fun w hSw => ?_⟩; (try dsimp only at hSw); go_simp; (try with_reducible rfl))
          (try simp only [Act.put, List.setIfInBounds_toArray, List.set_cons_zero, List.set_cons_succ])
          refine wpAnyH_take (i := 27) (oi := { dst := some 145, op := .move (.tmp 8), type := _, pos := _, after := _, guard := some (25, true) }) (v := ?_) rfl (by kernel_rfl) (by kernel_rfl) (by kernel_rfl) (fun _ _ _ h => h) ?_ hHeld ?_
          rotate_left
          · (refine Or.inl ⟨by rfl, fun w hSw => ?_⟩; (try dsimp only at hSw); go_simp; (try with_reducible rfl))
          (try simp only [Act.put, List.setIfInBounds_toArray, List.set_cons_zero, List.set_cons_succ])
          refine wpAnyH_take (i := 28) (oi := { dst := some 146, op := .indexAddr 24 (.tmp 145) (.const (.int .i64 0)), type := _, pos := _, after := _, guard := some (25, true) }) (v := ?_) rfl (by kernel_rfl) (by kernel_rfl) (by kernel_rfl) (fun _ _ _ h => h) ?_ hHeld ?_
          rotate_left
          · (refine Or.inl ⟨by rfl, fun w hSw => ?_⟩; (try dsimp only at hSw); go_simp; (try with_reducible rfl))
          (try simp only [Act.put, List.setIfInBounds_toArray, List.set_cons_zero, List.set_cons_succ])
          refine wpAnyH_take (i := 29) (oi := { dst := some 147, op := .load 3 (.tmp 146), type := _, pos := _, after := _, guard := some (25, true) }) (v := ?_) rfl (by kernel_rfl) (by kernel_rfl) (by kernel_rfl) (fun _ _ _ h => h) ?_ hHeld ?_
          rotate_left
          · (refine Or.inl ⟨by rfl, fun w hSw => ?_⟩; (try dsimp only at hSw); go_simp; (try with_reducible rfl))
          (try simp only [Act.put, List.setIfInBounds_toArray, List.set_cons_zero, List.set_cons_succ])
          refine wpAnyH_take (i := 30) (oi := { dst := some 148, op := .binOp .eql 3 (.tmp 144) (.tmp 147) 3, type := _, pos := _, after := _, guard := some (25, true) }) (v := ?_) rfl (by kernel_rfl) (by kernel_rfl) (by kernel_rfl) (fun _ _ _ h => h) ?_ hHeld ?_
          rotate_left
          · (refine Or.inl ⟨by rfl, fun w hSw => ?_⟩; (try dsimp only at hSw); go_simp; (try with_reducible rfl))
          (try simp only [Act.put, List.setIfInBounds_toArray, List.set_cons_zero, List.set_cons_succ])
          refine wpAnyH_take (i := 31) (oi := { dst := some 149, op := .pick (.tmp 143) (.tmp 148) (.const (.bool false)), type := _, pos := _, after := _, guard := some (18, false) }) (v := ?_) rfl (by kernel_rfl) (by kernel_rfl) (by kernel_rfl) (fun _ _ _ h => h) ?_ hHeld ?_
          rotate_left
          · (refine Or.inl ⟨by rfl, fun w hSw => ?_⟩; (try dsimp only at hSw); go_simp; (try with_reducible rfl))
          (try simp only [Act.put, List.setIfInBounds_toArray, List.set_cons_zero, List.set_cons_succ])
          refine wpAnyH_take (i := 32) (oi := { dst := some 150, op := .move (.tmp 149), type := _, pos := _, after := _, guard := some (18, false) }) (v := ?_) rfl (by kernel_rfl) (by kernel_rfl) (by kernel_rfl) (fun _ _ _ h => h) ?_ hHeld ?_
          rotate_left
          · (refine Or.inl ⟨by rfl, fun w hSw => ?_⟩; (try dsimp only at hSw); go_simp; (try with_reducible rfl))
          (try simp only [Act.put, List.setIfInBounds_toArray, List.set_cons_zero, List.set_cons_succ])
          refine wpAnyH_take (i := 33) (oi := { dst := some 151, op := .move (.tmp 18), type := _, pos := _, after := _, guard := some (32, true) }) (v := ?_) rfl (by kernel_rfl) (by kernel_rfl) (by kernel_rfl) (fun _ _ _ h => h) ?_ hHeld ?_
          rotate_left
          · (refine Or.inl ⟨by rfl, fun w hSw => ?_⟩; (try dsimp only at hSw); go_simp; (try with_reducible rfl))
          (try simp only [Act.put, List.setIfInBounds_toArray, List.set_cons_zero, List.set_cons_succ])
          refine wpAnyH_take (i := 35) (oi := { dst := some 153, op := .move (.tmp 9), type := _, pos := _, after := _, guard := some (32, true) }) (v := ?_) rfl (by kernel_rfl) (by kernel_rfl) (by kernel_rfl) (fun _ _ _ h => h) ?_ hHeld ?_
          rotate_left
          · (refine Or.inl ⟨by rfl, fun w hSw => ?_⟩; (try dsimp only at hSw); go_simp; (try with_reducible rfl))
          (try simp only [Act.put, List.setIfInBounds_toArray, List.set_cons_zero, List.set_cons_succ])
          refine wpAnyH_take (i := 36) (oi := { dst := some 154, op := .slice 9 (.tmp 153) none (some (.const (.int .i64 1))) none, type := _, pos := _, after := _, guard := some (32, true) }) (v := ?_) rfl (by kernel_rfl) (by kernel_rfl) (by kernel_rfl) (fun _ _ _ h => h) ?_ hHeld ?_
          rotate_left
          · (refine Or.inl ⟨by rfl, fun w hSw => ?_⟩; (try dsimp only at hSw); go_simp; (try with_reducible rfl))
          (try simp only [Act.put, List.setIfInBounds_toArray, List.set_cons_zero, List.set_cons_succ])
          refine wpAnyH_ready (rs := [34]) (by kernel_rfl) (by simp) ?_
          refine AllReadyH.cons (o := { dst := some 152, op := .call { callee := .value (.func 23), args := #[(.tmp 151)], argTypes := #[3] }, type := _, pos := _, after := _, guard := some (32, true) }) rfl (fun K hK => ?_) AllReadyH.nil
          go_simp
          (with_reducible refine (impl_encv z _).mono ?_); rintro e wC ⟨rfl, hbC⟩; have hkC := hkB.call hbC; have gC := (hkC.bel.cell (p := ⟨b, off, none⟩) (Nat.lt_of_lt_of_le hbB hs14)).trans g
          (try go_wp2_with fail)
          refine hK.out _ _ ?_ (fun hH2 => ?_)
          · exact gC
          clear hK K hHeld
          have hHeld := hH2
          clear hH2
          (try simp only [Act.put, List.setIfInBounds_toArray, List.set_cons_zero, List.set_cons_succ])
          refine wpAnyH_take (i := 37) (oi := { dst := some 155, op := .binOp .eql 9 (.tmp 152) (.tmp 154) 9, type := _, pos := _, after := _, guard := some (32, true) }) (v := ?_) rfl (by kernel_rfl) (by kernel_rfl) (by kernel_rfl) (fun _ _ _ h => h) ?_ hHeld ?_
          rotate_left
          · (refine Or.inl ⟨by rfl, fun w hSw => ?_⟩; (try dsimp only at hSw); go_simp; (try with_reducible rfl))
          (try simp only [Act.put, List.setIfInBounds_toArray, List.set_cons_zero, List.set_cons_succ])
          refine wpAnyH_take (i := 38) (oi := { dst := some 156, op := .pick (.tmp 150) (.tmp 155) (.const (.bool false)), type := _, pos := _, after := _, guard := some (18, false) }) (v := ?_) rfl (by kernel_rfl) (by kernel_rfl) (by kernel_rfl) (fun _ _ _ h => h) ?_ hHeld ?_
          rotate_left
          · (refine Or.inl ⟨by rfl, fun w hSw => ?_⟩; (try dsimp only at hSw); go_simp; (try with_reducible rfl))
          (try simp only [Act.put, List.setIfInBounds_toArray, List.set_cons_zero, List.set_cons_succ])
          refine wpAnyH_take (i := 39) (oi := { dst := some 157, op := .pick (.tmp 136) (.const (.bool true)) (.tmp 156), type := _, pos := _, after := _, guard := some (10, true) }) (v := ?_) rfl (by kernel_rfl) (by kernel_rfl) (by kernel_rfl) (fun _ _ _ h => h) ?_ hHeld ?_
          rotate_left
          · (refine Or.inl ⟨by rfl, fun w hSw => ?_⟩; (try dsimp only at hSw); go_simp; (try with_reducible rfl))
          (try simp only [Act.put, List.setIfInBounds_toArray, List.set_cons_zero, List.set_cons_succ])
          refine wpAnyH_take (i := 40) (oi := { dst := some 158, op := .pick (.tmp 128) (.tmp 157) (.const (.bool false)), type := _, pos := _, after := _, guard := none }) (v := ?_) rfl (by kernel_rfl) (by kernel_rfl) (by kernel_rfl) (fun _ _ _ h => h) ?_ hHeld ?_
          rotate_left
          · (refine Or.inl ⟨by rfl, fun w hSw => ?_⟩; (try dsimp only at hSw); go_simp; (try with_reducible rfl))
          (try simp only [Act.put, List.setIfInBounds_toArray, List.set_cons_zero, List.set_cons_succ])
          refine wpAnyH_take (i := 41) (oi := { dst := some 2, op := .assign (.tmp 158), type := _, pos := _, after := _, guard := none }) (v := ?_) rfl (by kernel_rfl) (by kernel_rfl) (by kernel_rfl) (fun _ _ _ h => h) ?_ hHeld ?_
          rotate_left
          · (refine Or.inl ⟨by rfl, fun w hSw => ?_⟩; (try dsimp only at hSw); go_simp; (try with_reducible rfl))
          (try simp only [Act.put, List.setIfInBounds_toArray, List.set_cons_zero, List.set_cons_succ])
          refine wpAnyH_done (by kernel_rfl) ?_ _
          go_wp2_with fail
          go_ret
          exact ⟨rfl, B12.out.trans (hkC.bel.mono B12.out.size)⟩

theorem walk (w : World) (sv : Value) (l : List UInt8) (hl : l.length ≤ 1048576) (hc : Cur.Code w w.heap.size sv l) :
    Calls Try.prog 3 #[sv] w fun e w' => e = .returned (.bool true) ∧ Below w.heap.size w w' :=
  core w sv (hid (Big.big_code sv l w _ hc hl)) (hid fun W hb => draw_two W sv l hl ((hc.below hb (Nat.le_refl _)).higher hb.size)) (hid fun W hb => draw_any W sv l hl ((hc.below hb (Nat.le_refl _)).higher hb.size)) (hid fun W hb => draw_code W sv l hl ((hc.below hb (Nat.le_refl _)).higher hb.size))
theorem walk_big (w : World) (a : Option Addr) (n cap : Nat) (h : 1048576 < n) (h2 : n ≤ 9223372036854775807) :
    Calls Try.prog 3 #[.slice a n cap] w fun e w' => e = .returned (.bool true) ∧ Below w.heap.size w w' := by
  have HG := hid (Big.big_yes a n cap w h h2)
  go_enter Try.func3, Try.ntmps3
  go_wp2_with fail
  refine HG.out.mono ?_
  rintro e w1 ⟨rfl, rfl⟩
  go_wp2
  go_ret
  exact ⟨rfl, Below.refl _ _⟩
end Go.Proofs.Ytnnhkghdlekanaa.RowEncodingW
