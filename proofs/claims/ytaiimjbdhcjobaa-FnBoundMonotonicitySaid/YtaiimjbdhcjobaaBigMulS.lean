/- The contract of spec.MulBigInt. -/
import Derived.Test.YtaiimjbdhcjobaaBigMul
import Derived.StillTailTactics
import Derived.Deep.QuietTactic
import Derived.BigQuiet
namespace Go.Proofs.Ytaiimjbdhcjobaa.BigMulS
open Go.RowKit
open Go.Proofs.Ytaiimjbdhcjobaa.Num Go.Proofs.Ytaiimjbdhcjobaa.IntRow Go.Proofs.Ytaiimjbdhcjobaa.IntLaw Go.Proofs.Ytaiimjbdhcjobaa.Dig Go.Proofs.Ytaiimjbdhcjobaa.BigValid Go.Proofs.Ytaiimjbdhcjobaa.BigFrom Go.Proofs.Ytaiimjbdhcjobaa.BigCols Go.Proofs.Ytaiimjbdhcjobaa.BigCarry Go.Proofs.Ytaiimjbdhcjobaa.BigMul
set_option linter.unusedVariables false

theorem grown_drew {a b : World} {row : Option Nat} (h : a.grownBy b row) : a.grownBy b.drew row := ⟨h.os, h.tape, h.output, h.size, h.block⟩

theorem valid_yes (a : Option Addr) (n cap B : Nat) (xs : List Nat) (w : World) (hx : Norm xs) (hn : xs.length = n) (hl : n ≤ 60) (h : Rd w B a (ci xs)) (hB : B ≤ w.heap.size) :
    Calls Try.prog 146 #[.agg #[.slice a n cap]] w fun e w' => e = .returned (.bool true) ∧ Below w.heap.size w w' := by
  have h := spec_valid a cap B (ci xs) w (by rw [ci_length]; omega) h hB
  rw [ci_length, hn] at h
  have e : vb (ci xs) = true := vb_mk hx (by omega)
  simpa only [e] using h

theorem spec_mul_no (a1 a2 : Option Addr) (cap1 cap2 B1 B2 : Nat) (xs ys : List Int) (w : World) (hn1 : xs.length ≤ 1048576) (hn2 : ys.length ≤ 1048576) (h1 : Rd w B1 a1 xs) (h2 : Rd w B2 a2 ys) (hB1 : B1 ≤ w.heap.size) (hB2 : B2 ≤ w.heap.size) (hv : (vb xs && vb ys) = false) :
    Calls Try.prog 102 #[.agg #[.slice a1 xs.length cap1], .agg #[.slice a2 ys.length cap2]] w fun e w' => e = .returned (.tuple #[.agg #[.slice none 0 0], .bool false]) ∧ Below w.heap.size w w' := by
  have KB := hid ((((Below.refl w.heap.size w).alloc (Nat.le_refl _) (.cells #[.slice a1 xs.length cap1] 53)).alloc (by simp) (.cells #[.slice a2 ys.length cap2] 53)).alloc (by simp; omega) (.cells #[.slice none 0 0] 53))
  have K2 := hid ((one_new (w.alloc (.cells #[.slice a1 xs.length cap1] 53)) (.slice a2 ys.length cap2) 53).alloc (.cells #[.slice none 0 0] 53))
  have K3 := hid (one_new ((w.alloc (.cells #[.slice a1 xs.length cap1] 53)).alloc (.cells #[.slice a2 ys.length cap2] 53)) (.slice none 0 0) 53)
  simp only [World.size_alloc] at K2 K3
  have V1 := hid fun W (h : Rd W B1 a1 xs) (hB : B1 ≤ W.heap.size) => spec_valid a1 cap1 B1 xs W hn1 h hB
  have V2 := hid fun W (h : Rd W B2 a2 ys) (hB : B2 ≤ W.heap.size) => spec_valid a2 cap2 B2 ys W hn2 h hB
  generalize vb xs = b1 at *
  generalize vb ys = b2 at *
  have q1 := hid (((h1.alloc hB1 (.cells #[.slice a1 xs.length cap1] 53)).alloc (by simp; omega) (.cells #[.slice a2 ys.length cap2] 53)).alloc (by simp; omega) (.cells #[.slice none 0 0] 53))
  have q2 := hid (((h2.alloc hB2 (.cells #[.slice a1 xs.length cap1] 53)).alloc (by simp; omega) (.cells #[.slice a2 ys.length cap2] 53)).alloc (by simp; omega) (.cells #[.slice none 0 0] 53))
  clear h1 h2
  cases b1 with
  | false =>
    clear hv
    go_enter Try.func102, Try.ntmps102
    go_wp2_with fail
    refine (V1.out _ q1.out (by simp; omega)).mono ?_
    rintro e w1 ⟨rfl, hb⟩
    have o3 := K3.out.below' hb
    have hr := (o3.set (.slice none 0 0)).1
    obtain ⟨c1, f1, z1⟩ := o3
    go_wp2
    refine bodyPost_ret (v := .tuple #[.agg #[.slice none 0 0], .bool false]) (by simp [results, Try.results102, go_sem, hr]) rfl ⟨rfl, ?_⟩
    exact (KB.out.trans (hb.mono (by simp; omega))).setCell (by simp; omega) _
  | true =>
    have hv2 : b2 = false := by simpa using hv
    subst hv2
    clear hv
    go_enter Try.func102, Try.ntmps102
    go_wp2_with fail
    refine (V1.out _ q1.out (by simp; omega)).mono ?_
    rintro e w1 ⟨rfl, hb⟩
    have hs := hb.size
    simp at hs
    obtain ⟨c2, f2, z2⟩ := K2.out.below' hb
    go_wp2_with fail
    refine (V2.out _ (q2.out.below (hb.mono (by simp; omega))) (by omega)).mono ?_
    rintro e w2 ⟨rfl, hb2⟩
    have o3 := (K3.out.below' hb).below' hb2
    have hr := (o3.set (.slice none 0 0)).1
    clear c2 f2 z2
    obtain ⟨c1, f1, z1⟩ := o3
    go_wp2
    refine bodyPost_ret (v := .tuple #[.agg #[.slice none 0 0], .bool false]) (by simp [results, Try.results102, go_sem, hr]) rfl ⟨rfl, ?_⟩
    exact ((KB.out.trans (hb.mono (by simp; omega))).trans (hb2.mono (by omega))).setCell (by simp; omega) _

set_option maxRecDepth 100000 in
theorem spec_mul_yes (a1 a2 : Option Addr) (n1 n2 cap1 cap2 B1 B2 : Nat) (xs ys : List Nat) (w : World) (hx : Norm xs) (hy : Norm ys) (hn1 : xs.length = n1) (hn2 : ys.length = n2) (hl1 : n1 ≤ 60) (hl2 : n2 ≤ 60) (h1 : Rd w B1 a1 (ci xs)) (h2 : Rd w B2 a2 (ci ys)) (hB1 : B1 ≤ w.heap.size) (hB2 : B2 ≤ w.heap.size) :
    Calls Try.prog 102 #[.agg #[.slice a1 n1 cap1], .agg #[.slice a2 n2 cap2]] w fun e w' => ∃ a cap', e = .returned (.tuple #[.agg #[.slice a (rx (dg (vl xs * vl ys))).length cap'], .bool (rb (dg (vl xs * vl ys)))]) ∧ Own w' w.heap.size 3 (.slice a (rx (dg (vl xs * vl ys))).length cap') (rx (dg (vl xs * vl ys))) ∧ Below w.heap.size w w' := by
  obtain ⟨i0, hi, hz0, hz1, hz2⟩ := info_parts info
  have V1 := hid fun W (h : Rd W B1 a1 (ci xs)) (hB : B1 ≤ W.heap.size) => valid_yes a1 n1 cap1 B1 xs W hx hn1 hl1 h hB
  have V2 := hid fun W (h : Rd W B2 a2 (ci ys)) (hB : B2 ≤ W.heap.size) => valid_yes a2 n2 cap2 B2 ys W hy hn2 hl2 h hB
  have N1 := hid hn1
  have N2 := hid hn2
  have HX := hid hx
  have HY := hid hy
  clear hx hy hn1 hn2
  have KB := hid ((((Below.refl w.heap.size w).alloc (Nat.le_refl _) (.cells #[.slice a1 n1 cap1] 53)).alloc (by simp) (.cells #[.slice a2 n2 cap2] 53)).alloc (by simp; omega) (.cells #[.slice none 0 0] 53))
  have K1 := hid (((one_new w (.slice a1 n1 cap1) 53).alloc (.cells #[.slice a2 n2 cap2] 53)).alloc (.cells #[.slice none 0 0] 53))
  have K2 := hid ((one_new (w.alloc (.cells #[.slice a1 n1 cap1] 53)) (.slice a2 n2 cap2) 53).alloc (.cells #[.slice none 0 0] 53))
  have K3 := hid (one_new ((w.alloc (.cells #[.slice a1 n1 cap1] 53)).alloc (.cells #[.slice a2 n2 cap2] 53)) (.slice none 0 0) 53)
  simp only [World.size_alloc] at K2 K3
  go_enter Try.func102, Try.ntmps102
  go_wp2_with fail
  refine (V1.out _ (((h1.alloc hB1 _).alloc (by simp; omega) _).alloc (by simp; omega) _) (by simp; omega)).mono ?_
  rintro e w0 ⟨rfl, hb0⟩
  have hs0 := hb0.size
  simp only [World.size_alloc] at hs0
  obtain ⟨c0, _, z0⟩ := K2.out.below' hb0
  go_wp2_with fail
  refine (V2.out _ ((((h2.alloc hB2 _).alloc (by simp; omega) _).alloc (by simp; omega) _).below (hb0.mono (by simp; omega))) (by omega)).mono ?_
  rintro e w1 ⟨rfl, hb1⟩
  have hb := hb0.trans (hb1.mono hb0.size)
  clear c0 hb0 hb1
  have hz : w.heap.size + 3 ≤ w1.heap.size := by have := hb.size; simp at this; omega
  have o1 := hid (K1.out.below' hb)
  have o2 := hid (K2.out.below' hb)
  have o3 := hid (K3.out.below' hb)
  have b1 := hid (KB.out.trans (hb.mono (by simp; omega)))
  have r1 := hid (h1.below (b1.out.mono hB1))
  have r2 := hid (h2.below (b1.out.mono hB2))
  have hmk := make_ints (P := Try.prog) w1 42 3 i0 Try.underlying42 hi hz0 hz1 hz2 (n1 + n2) (by omega)
  rw [Int.natCast_add] at hmk
  have hat0 := hid (at_made w1 3 (n1 + n2) (by omega))
  rw [ci_zeros] at hat0
  obtain ⟨c1, _, z1⟩ := o1.out
  obtain ⟨c2, _, z2⟩ := o2.out
  clear h1 h2 hb K1 K2 K3 KB V1 V2
  go_wp2
  clear hmk
  clear c1 c2
  go_loopw [7] (fun iv wr => ∃ (i : Nat) (S : List Nat), iv = .int .i64 i ∧ i ≤ n1 ∧ Hid (Acc xs ys S i 0 0) ∧ At wr w1.heap.size 3 (n1 + n2) (ci S) ∧ (w1.alloc (.cells (Array.replicate (n1 + n2) (.int .i64 0)) 3)).grownBy wr (some w1.heap.size)) (fun iv _ => n1 - (intOf iv).toNat)
  case atStart => exact ⟨0, _, rfl, Nat.zero_le _, hid (by have := acc_zero xs ys 0; rw [N1.out, N2.out] at this; exact this), hat0.out, World.grownBy.refl _ _⟩
  case round =>
    obtain ⟨i, S, rfl, hin, hA, hat, hgr⟩ := hrel
    have p1 := hid ((o1.out.alloc (.cells (Array.replicate (n1 + n2) (.int .i64 0)) 3)).grown hgr (by simp; omega))
    have p2 := hid ((o2.out.alloc (.cells (Array.replicate (n1 + n2) (.int .i64 0)) 3)).grown hgr (by simp; omega))
    have p3 := hid ((o3.out.alloc (.cells (Array.replicate (n1 + n2) (.int .i64 0)) 3)).grown hgr (by simp; omega))
    by_cases hlt : i < n1
    · have q1 := hid ((r1.out.alloc (by omega) (.cells (Array.replicate (n1 + n2) (.int .i64 0)) 3)).grown (by simp; omega) hgr (fun k hk => by simp at hk; omega))
      obtain ⟨b, off, rfl, hbB, hcell⟩ := q1.out (by rw [ci_length, N1.out]; omega)
      have g1 := hcell i (by rw [ci_length, N1.out]; exact hlt)
      rw [ci_at] at g1
      have hxi : xs[i]'(by rw [N1.out]; exact hlt) ≤ 9 := by have := HX.out.1 _ (List.getElem_mem (by rw [N1.out]; exact hlt)); omega
      obtain ⟨x, hxe⟩ : ∃ x : Nat, Hid (xs[i]'(by rw [N1.out]; exact hlt) = x) := ⟨_, hid rfl⟩
      rw [hxe.out] at g1 hxi
      have hA2 := hid (acc_x x hA.out)
      have G1 := hid g1
      obtain ⟨c1, _, z1⟩ := p1.out
      clear hcell g1
      go_wp2
      clear c1
      go_loopw [8] (fun jv wi => ∃ (j : Nat) (T : List Nat), jv = .int .i64 j ∧ j ≤ n2 ∧ Hid (Acc xs ys T i j x) ∧ At wi w1.heap.size 3 (n1 + n2) (ci T) ∧ wr.grownBy wi (some w1.heap.size)) (fun jv _ => n2 - (intOf jv).toNat)
      case atStart => exact ⟨0, S, rfl, Nat.zero_le _, hA2, hat, World.grownBy.refl _ _⟩
      case round =>
        clear hat
        obtain ⟨j, T, rfl, hjn, hT, hat, hgr2⟩ := hrel
        by_cases hjl : j < n2
        · have q2 := (((r2.out.alloc (by omega) (.cells (Array.replicate (n1 + n2) (.int .i64 0)) 3)).grown (by simp; omega) hgr (fun k hk => by simp at hk; omega)).grown (by have := hgr.size; simp at this; omega) hgr2 (fun k hk => by simp at hk; omega))
          obtain ⟨b2, off2, rfl, hbB2, hcell2⟩ := q2 (by rw [ci_length, N2.out]; omega)
          have hjy : j < ys.length := by rw [N2.out]; exact hjl
          have g2 := hcell2 j (by rw [ci_length]; exact hjy)
          rw [ci_at] at g2
          have hyj : ys[j] ≤ 9 := by have := HY.out.1 _ (List.getElem_mem hjy); omega
          have hT2 := acc_step hT.out (by rw [N1.out]; exact hlt) hjy hxi hyj
          have hTl : i + j < T.length := by rw [hT.out.1, N1.out, N2.out]; omega
          have hsb := hT.out.2.2 _ (List.getElem_mem hTl)
          have hpb : x * ys[j] ≤ 81 := Nat.mul_le_mul hxi hyj
          obtain ⟨s, hse⟩ : ∃ s : Nat, Hid (T[i + j] = s) := ⟨_, hid rfl⟩
          obtain ⟨q, hqe⟩ : ∃ q : Nat, Hid (x * ys[j] = q) := ⟨_, hid rfl⟩
          obtain ⟨y, hye⟩ : ∃ y : Nat, Hid (ys[j] = y) := ⟨_, hid rfl⟩
          rw [hye.out] at g2
          have e1 : (x : Int) * (y : Int) = (q : Int) := by rw [← hqe.out, ← hye.out]; simp
          rw [hqe.out] at hT2 hpb
          rw [hse.out] at hsb
          have g3 := hat.cell (i + j) (by rw [ci_length]; exact hTl)
          rw [ci_at, hse.out] at g3
          have g4 := hat.free (i + j)
          have hset := hid (hat.set (i + j) ((s : Int) + (q : Int)))
          rw [ci_up T (i + j) q _ hTl (by rw [hse.out]; simp)] at hset
          have hgs := hid (grown_trans hgr2 (hat.set_grown (i + j) (.int .i64 ((s : Int) + (q : Int)))))
          have hT3 := hid hT2
          have t1 : (i : Int) ≤ 60 := by omega
          have t2 : (j : Int) ≤ 60 := by omega
          have t3 : (0 : Int) ≤ (i : Int) + (j : Int) := by omega
          have t4 : ((i : Int) + (j : Int)).toNat = i + j := by omega
          have t5 : (i : Int) + (j : Int) < (n1 : Int) + (n2 : Int) := by omega
          have t6 : (s : Int) ≤ 400000 := by omega
          have t7 : (q : Int) ≤ 81 := by omega
          have g1 := hgr2.cell G1.out (show some b ≠ some w1.heap.size by simp; omega)
          obtain ⟨c1, _, z1⟩ := p1.out.grown hgr2 (by simp; omega)
          obtain ⟨c2, _, z2⟩ := p2.out.grown hgr2 (by simp; omega)
          clear hcell2 hT2 hat hyj hsb q2
          go_wp2
          have v1 : IntKind.i64.wrap ((i : Int) + (j : Int)) = (i : Int) + (j : Int) := IntWalk.i64_in _ (by omega)
          have v2 : IntKind.i64.wrap ((s : Int) + (q : Int)) = (s : Int) + (q : Int) := IntWalk.i64_in _ (by omega)
          have v3 : IntKind.i64.wrap ((x : Int) * (y : Int)) = (q : Int) := by rw [e1]; exact IntWalk.i64_in _ (by omega)
          go_still_tail 23, (by kernel_rfl)
          change wpList _ _ _ _ _ wr.drew
          clear v1 v2 v3
          go_wp2
          go_roundw
          case rel => exact ⟨j + 1, _, by go_num, by omega, hT3, hset.out.drew, grown_drew hgs.out⟩
          case measure => simp [intOf]; omega
        · have e : j = n2 := by omega
          subst e
          have hT4 : Hid (Acc xs ys T (i + 1) 0 0) := by
            have h := hT.out
            have h60 : ys.length ≤ 60 := by rw [N2.out]; exact hl2
            rw [← N2.out, ← hxe.out] at h
            exact hid (acc_row 0 (by rw [N1.out]; exact hlt) h60 h)
          have hgg := hid (grown_trans hgr hgr2)
          obtain ⟨c2, _, z2⟩ := p2.out.grown hgr2 (by simp; omega)
          go_wp2
          go_roundw
          case rel => exact ⟨i + 1, T, by go_num, by omega, hT4, hat, hgg.out⟩
          case measure => simp [intOf]; omega
    · have e : i = n1 := by omega
      subst e
      have hA1 : Acc xs ys S xs.length 0 0 := by rw [N1.out]; exact hA.out
      have hvS := hid (acc_end hA1)
      have hSl : S.length = i + n2 := by rw [hA1.1, N1.out, N2.out]
      have hlt2 := acc_lt hA1 HX.out.1 HY.out.1
      rw [N1.out, N2.out] at hlt2
      have hlt3 : vl S < 10 ^ 122 := Nat.lt_of_lt_of_le hlt2 (Nat.pow_le_pow_right (by omega) (by omega))
      have hC := hid fun W (h : Rd W (w1.heap.size + 1) (some ⟨w1.heap.size, 0, none⟩) (ci S)) (hB : w1.heap.size + 1 ≤ W.heap.size) => spec_carry (some ⟨w1.heap.size, 0, none⟩) (i + n2) (w1.heap.size + 1) (i + n2) S W hSl (by omega) (fun d hd => by have := hA.out.2.2 d hd; omega) hlt3 h hB
      rw [hvS.out] at hC
      clear hA1 hSl hlt2 hlt3
      obtain ⟨c1, _, z1⟩ := p1.out
      go_wp2_with fail
      refine (hC.out _ hat.rd hat.lt).mono ?_
      rintro e w3 ⟨a3, cap3, rfl, hown, hb3⟩
      have p4 := ((p3.out.below' hb3).set (.slice a3 (rx (dg (vl xs * vl ys))).length cap3)).alloc (.cells #[(.slice a3 (rx (dg (vl xs * vl ys))).length cap3)] 53)
      have hr := p4.1
      have hzr : w.heap.size + 3 ≤ wr.heap.size := by have := hgr.size; simp at this; omega
      have bf : Below w.heap.size w w3 := ((b1.out.alloc (by omega) _).grown hgr (by simp; omega) (fun k hk => by simp at hk; omega)).trans (hb3.mono (by omega))
      have bf2 := bf.setCell (p := ⟨w.heap.size + 1 + 1, 0, none⟩) (by simp; omega) (.slice a3 (rx (dg (vl xs * vl ys))).length cap3)
      have bf3 := hid (bf2.alloc bf2.size (.cells #[(.slice a3 (rx (dg (vl xs * vl ys))).length cap3)] 53))
      have hown2 := hid (((own_far hown (p := ⟨w.heap.size + 1 + 1, 0, none⟩) (by simp; omega) (.slice a3 (rx (dg (vl xs * vl ys))).length cap3)).alloc (.cells #[(.slice a3 (rx (dg (vl xs * vl ys))).length cap3)] 53)).mono (show w.heap.size ≤ wr.heap.size by omega))
      obtain ⟨c3, f3, z3⟩ := p3.out.below' hb3
      clear bf bf2 hown hgr hb3 hat p4
      go_wp2
      exact bodyPost_ret (v := .tuple #[.agg #[.slice a3 (rx (dg (vl xs * vl ys))).length cap3], .bool (rb (dg (vl xs * vl ys)))]) (by simp [results, Try.results102, go_sem, hr]) rfl ⟨a3, cap3, rfl, hown2.out, bf3.out⟩
end Go.Proofs.Ytaiimjbdhcjobaa.BigMulS
