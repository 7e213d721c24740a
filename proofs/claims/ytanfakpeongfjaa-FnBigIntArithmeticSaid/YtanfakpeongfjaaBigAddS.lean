/- The contract of spec.AddBigInt. -/
import Derived.Test.YtanfakpeongfjaaBigAdd
import Derived.Test.YtanfakpeongfjaaBigMulS
import Derived.StillTailTactics
namespace Go.Proofs.Ytanfakpeongfjaa.BigAddS
open Go.RowKit
open Go.Proofs.Ytanfakpeongfjaa.Num Go.Proofs.Ytanfakpeongfjaa.IntRow Go.Proofs.Ytanfakpeongfjaa.IntLaw Go.Proofs.Ytanfakpeongfjaa.Dig Go.Proofs.Ytanfakpeongfjaa.BigValid Go.Proofs.Ytanfakpeongfjaa.BigFrom Go.Proofs.Ytanfakpeongfjaa.BigCols Go.Proofs.Ytanfakpeongfjaa.BigCarry Go.Proofs.Ytanfakpeongfjaa.BigMul Go.Proofs.Ytanfakpeongfjaa.BigMulS Go.Proofs.Ytanfakpeongfjaa.BigAdd
set_option linter.unusedVariables false

/-- The columns of a sum behind i digits of both. -/
def Sum2 (xs ys S : List Nat) (m i : Nat) : Prop := S.length = m ∧ vl S = vl (xs.take i) + vl (ys.take i) ∧ (∀ d ∈ S, d ≤ 10000 * i) ∧ ∀ j (h : j < S.length), i ≤ j → S[j] = 0
theorem sum2_zero (xs ys : List Nat) (m : Nat) : Sum2 xs ys (List.replicate m 0) m 0 :=
  ⟨by simp, by simp [vl_replicate, vl], fun d hd => by have := List.eq_of_mem_replicate hd; omega, fun j hj _ => by simp⟩
theorem vl_take (l : List Nat) (i : Nat) : vl (l.take (i + 1)) = vl (l.take i) + 10 ^ i * l.getD i 0 := by
  by_cases h : i < l.length
  · rw [Dig.take_snoc l i h, List.getD_eq_getElem?_getD, List.getElem?_eq_getElem h]; rfl
  · rw [List.take_of_length_le (by omega), List.take_of_length_le (by omega), List.getD_eq_getElem?_getD, List.getElem?_eq_none (by omega)]; simp
theorem ci_set (S : List Nat) (i v : Nat) : (ci S).set i (v : Int) = ci (S.set i v) := by simp [ci]
theorem sum2_step {xs ys S : List Nat} {m i : Nat} (h : Sum2 xs ys S m i) (hi : i < m) (hx : xs.getD i 0 ≤ 9) (hy : ys.getD i 0 ≤ 9) : Sum2 xs ys (S.set i (xs.getD i 0 + ys.getD i 0)) m (i + 1) := by
  have hl : i < S.length := by rw [h.1]; exact hi
  have e : S.set i (xs.getD i 0 + ys.getD i 0) = up S i (xs.getD i 0 + ys.getD i 0) := by
    unfold up
    rw [List.getD_eq_getElem?_getD (l := S), List.getElem?_eq_getElem hl, h.2.2.2 i hl (Nat.le_refl _)]
    simp
  refine ⟨by simp [h.1], ?_, fun d hd => ?_, fun j hj hij => ?_⟩
  · rw [e, vl_up S i _ hl, h.2.1, vl_take xs, vl_take ys, Nat.mul_add]; omega
  · rcases List.mem_or_eq_of_mem_set hd with h1 | h1
    · have := h.2.2.1 d h1; omega
    · omega
  · rw [List.getElem_set_ne (by omega)]
    exact h.2.2.2 j (by simpa using hj) (by omega)
theorem getD9 {l : List Nat} (h : Small l) (i : Nat) : l.getD i 0 ≤ 9 := by
  by_cases hi : i < l.length
  · have := h _ (List.getElem_mem hi)
    rw [List.getD_eq_getElem?_getD, List.getElem?_eq_getElem hi]
    show l[i] ≤ 9
    omega
  · rw [List.getD_eq_getElem?_getD, List.getElem?_eq_none (by omega)]; simp
theorem sum2_end {xs ys S : List Nat} {m i : Nat} (h : Sum2 xs ys S m i) (h1 : xs.length ≤ i) (h2 : ys.length ≤ i) : vl S = vl xs + vl ys := by
  rw [h.2.1, List.take_of_length_le h1, List.take_of_length_le h2]

theorem spec_add_no (a1 a2 : Option Addr) (cap1 cap2 B1 B2 : Nat) (xs ys : List Int) (w : World) (hn1 : xs.length ≤ 1048576) (hn2 : ys.length ≤ 1048576) (h1 : Rd w B1 a1 xs) (h2 : Rd w B2 a2 ys) (hB1 : B1 ≤ w.heap.size) (hB2 : B2 ≤ w.heap.size) (hv : (vb xs && vb ys) = false) :
    Calls Try.prog 28 #[.agg #[.slice a1 xs.length cap1], .agg #[.slice a2 ys.length cap2]] w fun e w' => e = .returned (.tuple #[.agg #[.slice none 0 0], .bool false]) ∧ Below w.heap.size w w' := by
  have KB := hid ((((Below.refl w.heap.size w).alloc (Nat.le_refl _) (.cells #[.slice a1 xs.length cap1] 34)).alloc (by simp) (.cells #[.slice a2 ys.length cap2] 34)).alloc (by simp; omega) (.cells #[.slice none 0 0] 34))
  have K2 := hid ((one_new (w.alloc (.cells #[.slice a1 xs.length cap1] 34)) (.slice a2 ys.length cap2) 34).alloc (.cells #[.slice none 0 0] 34))
  have K3 := hid (one_new ((w.alloc (.cells #[.slice a1 xs.length cap1] 34)).alloc (.cells #[.slice a2 ys.length cap2] 34)) (.slice none 0 0) 34)
  simp only [World.size_alloc] at K2 K3
  have V1 := hid fun W (h : Rd W B1 a1 xs) (hB : B1 ≤ W.heap.size) => spec_valid a1 cap1 B1 xs W hn1 h hB
  have V2 := hid fun W (h : Rd W B2 a2 ys) (hB : B2 ≤ W.heap.size) => spec_valid a2 cap2 B2 ys W hn2 h hB
  generalize vb xs = b1 at *
  generalize vb ys = b2 at *
  have q1 := hid (((h1.alloc hB1 (.cells #[.slice a1 xs.length cap1] 34)).alloc (by simp; omega) (.cells #[.slice a2 ys.length cap2] 34)).alloc (by simp; omega) (.cells #[.slice none 0 0] 34))
  have q2 := hid (((h2.alloc hB2 (.cells #[.slice a1 xs.length cap1] 34)).alloc (by simp; omega) (.cells #[.slice a2 ys.length cap2] 34)).alloc (by simp; omega) (.cells #[.slice none 0 0] 34))
  clear h1 h2
  cases b1 with
  | false =>
    clear hv
    go_enter Try.func28, Try.ntmps28
    go_wp2_with fail
    refine (V1.out _ q1.out (by simp; omega)).mono ?_
    rintro e w1 ⟨rfl, hb⟩
    have o3 := K3.out.below' hb
    have hr := (o3.set (.slice none 0 0)).1
    obtain ⟨c1, f1, z1⟩ := o3
    go_wp2
    refine bodyPost_ret (v := .tuple #[.agg #[.slice none 0 0], .bool false]) (by simp [results, Try.results28, go_sem, hr]) rfl ⟨rfl, ?_⟩
    exact (KB.out.trans (hb.mono (by simp; omega))).setCell (by simp; omega) _
  | true =>
    have hv2 : b2 = false := by simpa using hv
    subst hv2
    clear hv
    go_enter Try.func28, Try.ntmps28
    go_wp2_with fail
    refine (V1.out _ q1.out (by simp; omega)).mono ?_
    rintro e w1 ⟨rfl, hb⟩
    have hs := hb.size
    simp at hs
    obtain ⟨c2, f2, z2⟩ := K2.out.below' hb
    go_wp2_with fail
    refine (V2.out _ (q2.out.below (hb.mono (by simp; omega))) (by omega)).mono ?_
    rintro e w2 ⟨rfl, hb2⟩
    have o3 := (K3.out.below' hb).below' hb2
    have hr := (o3.set (.slice none 0 0)).1
    clear c2 f2 z2
    obtain ⟨c1, f1, z1⟩ := o3
    go_wp2
    refine bodyPost_ret (v := .tuple #[.agg #[.slice none 0 0], .bool false]) (by simp [results, Try.results28, go_sem, hr]) rfl ⟨rfl, ?_⟩
    exact ((KB.out.trans (hb.mono (by simp; omega))).trans (hb2.mono (by omega))).setCell (by simp; omega) _

set_option maxHeartbeats 2000000 in
theorem spec_add_yes (a1 a2 : Option Addr) (n1 n2 cap1 cap2 B1 B2 : Nat) (xs ys : List Nat) (w : World) (hx : Norm xs) (hy : Norm ys) (hn1 : xs.length = n1) (hn2 : ys.length = n2) (hl1 : n1 ≤ 60) (hl2 : n2 ≤ 60) (h1 : Rd w B1 a1 (ci xs)) (h2 : Rd w B2 a2 (ci ys)) (hB1 : B1 ≤ w.heap.size) (hB2 : B2 ≤ w.heap.size) :
    Calls Try.prog 28 #[.agg #[.slice a1 n1 cap1], .agg #[.slice a2 n2 cap2]] w fun e w' => ∃ a cap', e = .returned (.tuple #[.agg #[.slice a (rx (dg (vl xs + vl ys))).length cap'], .bool (rb (dg (vl xs + vl ys)))]) ∧ Own w' w.heap.size 3 (.slice a (rx (dg (vl xs + vl ys))).length cap') (rx (dg (vl xs + vl ys))) ∧ Below w.heap.size w w' := by
  obtain ⟨i0, hi, hz0, hz1, hz2⟩ := info_parts info
  have V1 := hid fun W (h : Rd W B1 a1 (ci xs)) (hB : B1 ≤ W.heap.size) => valid_yes a1 n1 cap1 B1 xs W hx hn1 hl1 h hB
  have V2 := hid fun W (h : Rd W B2 a2 (ci ys)) (hB : B2 ≤ W.heap.size) => valid_yes a2 n2 cap2 B2 ys W hy hn2 hl2 h hB
  have N1 := hid hn1
  have N2 := hid hn2
  have HX := hid hx
  have HY := hid hy
  clear hx hy hn1 hn2
  have KB := hid ((((Below.refl w.heap.size w).alloc (Nat.le_refl _) (.cells #[.slice a1 n1 cap1] 34)).alloc (by simp) (.cells #[.slice a2 n2 cap2] 34)).alloc (by simp; omega) (.cells #[.slice none 0 0] 34))
  have K1 := hid (((one_new w (.slice a1 n1 cap1) 34).alloc (.cells #[.slice a2 n2 cap2] 34)).alloc (.cells #[.slice none 0 0] 34))
  have K2 := hid ((one_new (w.alloc (.cells #[.slice a1 n1 cap1] 34)) (.slice a2 n2 cap2) 34).alloc (.cells #[.slice none 0 0] 34))
  have K3 := hid (one_new ((w.alloc (.cells #[.slice a1 n1 cap1] 34)).alloc (.cells #[.slice a2 n2 cap2] 34)) (.slice none 0 0) 34)
  simp only [World.size_alloc] at K2 K3
  go_enter Try.func28, Try.ntmps28
  go_wp2_with fail
  refine (V1.out _ (((h1.alloc hB1 _).alloc (by simp; omega) _).alloc (by simp; omega) _) (by simp; omega)).mono ?_
  rintro e w0 ⟨rfl, hb0⟩
  have hs0 := hb0.size
  simp only [World.size_alloc] at hs0
  obtain ⟨c0, _, z0⟩ := K2.out.below' hb0
  go_wp2_with fail
  refine (V2.out _ ((((h2.alloc hB2 _).alloc (by simp; omega) _).alloc (by simp; omega) _).below (hb0.mono (by simp; omega))) (by omega)).mono ?_
  rintro e w1 ⟨rfl, hb1⟩
  have hb := hb0.trans (hb1.mono hb0.size)
  clear c0 hb0 hb1
  have hz : w.heap.size + 3 ≤ w1.heap.size := by have := hb.size; simp at this; omega
  have o1 := hid (K1.out.below' hb)
  have o2 := hid (K2.out.below' hb)
  have o3 := hid (K3.out.below' hb)
  have b1 := hid (KB.out.trans (hb.mono (by simp; omega)))
  have r1 := hid (h1.below (b1.out.mono hB1))
  have r2 := hid (h2.below (b1.out.mono hB2))
  clear h1 h2 hb K1 K2 K3 KB V1 V2
  by_cases hlt : (n1 : Int) < (n2 : Int)
  · have hle1 : n1 ≤ n2 := by omega
    have hle2 : n2 ≤ n2 := by omega
    have hM60 : n2 ≤ 60 := by omega
    have hmk := make_ints (P := Try.prog) w1 32 3 i0 Try.underlying32 hi hz0 hz1 hz2 n2 (by omega)
    have hat0 := hid (at_made w1 3 n2 (by omega))
    rw [ci_zeros] at hat0
    obtain ⟨c1, _, z1⟩ := o1.out
    obtain ⟨c2, _, z2⟩ := o2.out
    go_wp2
    clear hmk c1 c2
    have rx1 := hid (r1.out.alloc (by omega) (.cells (Array.replicate n2 (.int .i64 0)) 3))
    have ry1 := hid (r2.out.alloc (by omega) (.cells (Array.replicate n2 (.int .i64 0)) 3))
    go_loopw [7] (fun iv wr => ∃ (i : Nat) (S : List Nat), iv = .int .i64 i ∧ i ≤ n2 ∧ Hid (Sum2 xs ys S n2 i) ∧ At wr w1.heap.size 3 n2 (ci S) ∧ (w1.alloc (.cells (Array.replicate n2 (.int .i64 0)) 3)).grownBy wr (some w1.heap.size)) (fun iv _ => n2 - (intOf iv).toNat)
    case atStart => exact ⟨0, _, rfl, Nat.zero_le _, hid (sum2_zero xs ys n2), hat0.out, World.grownBy.refl _ _⟩
    case round =>
      clear hat0
      obtain ⟨i, S, rfl, hin, hS, hat, hgr⟩ := hrel
      have p1 := hid ((o1.out.alloc (.cells (Array.replicate n2 (.int .i64 0)) 3)).grown hgr (by simp; omega))
      have p2 := hid ((o2.out.alloc (.cells (Array.replicate n2 (.int .i64 0)) 3)).grown hgr (by simp; omega))
      have p3 := hid ((o3.out.alloc (.cells (Array.replicate n2 (.int .i64 0)) 3)).grown hgr (by simp; omega))
      by_cases hil : i < n2
      · by_cases h1 : i < n1
        · have hS2 := hid (sum2_step hS.out (by omega) (getD9 HX.out.1 i) (getD9 HY.out.1 i))
          obtain ⟨b, off, rfl, hbB, hcell⟩ := (rx1.out.grown (by simp; omega) hgr (fun k hk => by simp at hk; omega)) (by rw [ci_length, N1.out]; omega)
          have g1 := hcell i (by rw [ci_length, N1.out]; omega)
          rw [ci_at] at g1
          have hx9 : xs[i]'(by rw [N1.out]; omega) ≤ 9 := by have := HX.out.1 _ (List.getElem_mem (by rw [N1.out]; omega)); omega
          have ex := hid (show xs.getD i 0 = xs[i]'(by rw [N1.out]; omega) by rw [List.getD_eq_getElem?_getD, List.getElem?_eq_getElem (by rw [N1.out]; omega)]; rfl)
          obtain ⟨x, hxe⟩ : ∃ x : Nat, Hid (xs[i]'(by rw [N1.out]; omega) = x) := ⟨_, hid rfl⟩
          rw [hxe.out] at g1 hx9
          rw [ex.out, hxe.out] at hS2
          have t8 : (i : Int) < (n1 : Int) := by omega
          obtain ⟨b2, off2, rfl, hbB2, hcell2⟩ := (ry1.out.grown (by simp; omega) hgr (fun k hk => by simp at hk; omega)) (by rw [ci_length, N2.out]; omega)
          have g2 := hcell2 i (by rw [ci_length, N2.out]; omega)
          rw [ci_at] at g2
          have hy9 : ys[i]'(by rw [N2.out]; omega) ≤ 9 := by have := HY.out.1 _ (List.getElem_mem (by rw [N2.out]; omega)); omega
          have ey := hid (show ys.getD i 0 = ys[i]'(by rw [N2.out]; omega) by rw [List.getD_eq_getElem?_getD, List.getElem?_eq_getElem (by rw [N2.out]; omega)]; rfl)
          obtain ⟨y, hye⟩ : ∃ y : Nat, Hid (ys[i]'(by rw [N2.out]; omega) = y) := ⟨_, hid rfl⟩
          rw [hye.out] at g2 hy9
          rw [ey.out, hye.out] at hS2
          have t9 : (i : Int) < (n2 : Int) := by omega
          have hSl : i < S.length := by rw [hS.out.1]; omega
          have h0 := hS.out.2.2.2 i hSl (Nat.le_refl _)
          have g3 := hat.cell i (by rw [ci_length]; exact hSl)
          rw [ci_at, h0] at g3
          have g4 := hat.free i
          have t2 : (i : Int) ≤ 60 := by omega
          have t5 : (i : Int) < (n2 : Int) := by omega
          obtain ⟨c1, _, z1⟩ := p1.out
          obtain ⟨c2, _, z2⟩ := p2.out
          have hat1 := hat.set i (x : Int)
          rw [ci_set S i x] at hat1
          have hset := hid (hat1.set i ((x : Int) + (y : Int)))
          rw [← Int.natCast_add, ci_set (S.set i x) i (x + y), List.set_set, Int.natCast_add] at hset
          have hgs := hid (grown_drew (grown_trans (grown_trans hgr (hat.set_grown i (.int .i64 (x : Int)))) (hat1.set_grown i (.int .i64 ((x : Int) + (y : Int))))))
          have k1 := World.cell?_setCell_same wr ⟨w1.heap.size, i, none⟩ (.int .i64 (x : Int)) g3
          have k2 : (wr.setCell ⟨w1.heap.size, i, none⟩ (.int .i64 (x : Int))).cell? ⟨b2, off2 + i, none⟩ = some (.int .i64 (y : Int)) := by rw [World.cell?_setCell_other _ _ _ _ (fun e => by have e2 : w1.heap.size = b2 := congrArg Addr.block e; omega)]; exact g2
          have k3 : (wr.setCell ⟨w1.heap.size, i, none⟩ (.int .i64 (x : Int))).cell? ⟨w.heap.size + 1, 0, none⟩ = some (.slice (some ⟨b2, off2, none⟩) n2 cap2) := by rw [World.cell?_setCell_other _ _ _ _ (fun e => by have e2 : w1.heap.size = w.heap.size + 1 := congrArg Addr.block e; omega)]; exact c2
          have k4 : (wr.setCell ⟨w1.heap.size, i, none⟩ (.int .i64 (x : Int))).frozen? ⟨w1.heap.size, i, none⟩ = false := by rw [World.frozen?_setCell]; exact g4
          have v2 : IntKind.i64.wrap ((x : Int) + (y : Int)) = (x : Int) + (y : Int) := IntWalk.i64_in _ (by omega)
          clear hcell hcell2 hat hat1 hgr h0 hS
          go_wp2
          generalize wr.setCell ⟨w1.heap.size, i, none⟩ (.int .i64 (x : Int)) = wq at k1 k2 k3 k4 hset hgs ⊢
          clear g1 g2 g3 g4 c1 c2
          go_still_tail 13, (by kernel_rfl)
          change wpList _ _ _ _ _ wq.drew
          clear v2
          go_wp2
          go_roundw
          case rel => exact ⟨i + 1, _, by go_num, by omega, hS2, hset.out.drew, hgs.out⟩
          case measure => simp [intOf]; omega
        · have hS2 := hid (sum2_step hS.out (by omega) (getD9 HX.out.1 i) (getD9 HY.out.1 i))
          have ex := hid (show xs.getD i 0 = 0 by rw [List.getD_eq_getElem?_getD, List.getElem?_eq_none (by rw [N1.out]; omega)]; rfl)
          rw [ex.out] at hS2
          have t8 : ¬ (i : Int) < (n1 : Int) := by omega
          obtain ⟨b2, off2, rfl, hbB2, hcell2⟩ := (ry1.out.grown (by simp; omega) hgr (fun k hk => by simp at hk; omega)) (by rw [ci_length, N2.out]; omega)
          have g2 := hcell2 i (by rw [ci_length, N2.out]; omega)
          rw [ci_at] at g2
          have hy9 : ys[i]'(by rw [N2.out]; omega) ≤ 9 := by have := HY.out.1 _ (List.getElem_mem (by rw [N2.out]; omega)); omega
          have ey := hid (show ys.getD i 0 = ys[i]'(by rw [N2.out]; omega) by rw [List.getD_eq_getElem?_getD, List.getElem?_eq_getElem (by rw [N2.out]; omega)]; rfl)
          obtain ⟨y, hye⟩ : ∃ y : Nat, Hid (ys[i]'(by rw [N2.out]; omega) = y) := ⟨_, hid rfl⟩
          rw [hye.out] at g2 hy9
          rw [ey.out, hye.out] at hS2
          have t9 : (i : Int) < (n2 : Int) := by omega
          have hSl : i < S.length := by rw [hS.out.1]; omega
          have h0 := hS.out.2.2.2 i hSl (Nat.le_refl _)
          have g3 := hat.cell i (by rw [ci_length]; exact hSl)
          rw [ci_at, h0] at g3
          have g4 := hat.free i
          have t2 : (i : Int) ≤ 60 := by omega
          have t5 : (i : Int) < (n2 : Int) := by omega
          obtain ⟨c1, _, z1⟩ := p1.out
          obtain ⟨c2, _, z2⟩ := p2.out
          have hset := hid (hat.set i (y : Int))
          rw [ci_set S i y] at hset
          have hgs := hid (grown_drew (grown_trans hgr (hat.set_grown i (.int .i64 (y : Int)))))
          have v2 : IntKind.i64.wrap ((0 : Int) + (y : Int)) = (y : Int) := by rw [Int.zero_add]; exact IntWalk.i64_in _ (by omega)
          have v3 : IntKind.i64.wrap (y : Int) = (y : Int) := IntWalk.i64_in _ (by omega)
          clear hcell2 hat hgr h0 hS
          go_wp2
          go_still_tail 13, (by kernel_rfl)
          change wpList _ _ _ _ _ wr.drew
          clear v2 v3
          go_wp2
          go_roundw
          case rel => exact ⟨i + 1, _, by go_num, by omega, hS2, by rw [Nat.zero_add]; exact hset.out.drew, hgs.out⟩
          case measure => simp [intOf]; omega
      · have hiM : i = n2 := by omega
        have hvS := hid (sum2_end hS.out (by rw [N1.out]; omega) (by rw [N2.out]; omega))
        have hSl := hS.out.1
        have hlt3 : vl S < 10 ^ 122 := by
          rw [hvS.out]
          exact Nat.lt_of_lt_of_le (sum_lt HX.out.1 HY.out.1 (show xs.length ≤ 60 by rw [N1.out]; omega) (show ys.length ≤ 60 by rw [N2.out]; omega)) (Nat.pow_le_pow_right (by omega) (by omega))
        have hC := hid fun W (h : Rd W (w1.heap.size + 1) (some ⟨w1.heap.size, 0, none⟩) (ci S)) (hB : w1.heap.size + 1 ≤ W.heap.size) => spec_carry (some ⟨w1.heap.size, 0, none⟩) n2 (w1.heap.size + 1) n2 S W hSl (by omega) (fun d hd => by have := hS.out.2.2.1 d hd; omega) hlt3 h hB
        rw [hvS.out] at hC
        have t5 : ¬ (i : Int) < (n2 : Int) := by omega
        clear hSl hlt3 hiM
        go_wp2_with fail
        refine (hC.out _ hat.rd hat.lt).mono ?_
        rintro e w3 ⟨a3, cap3, rfl, hown, hb3⟩
        have p4 := ((p3.out.below' hb3).set (.slice a3 (rx (dg (vl xs + vl ys))).length cap3)).alloc (.cells #[(.slice a3 (rx (dg (vl xs + vl ys))).length cap3)] 34)
        have hr := p4.1
        have hzr : w.heap.size + 3 ≤ wr.heap.size := by have := hgr.size; simp at this; omega
        have bf : Below w.heap.size w w3 := ((b1.out.alloc (by omega) (.cells (Array.replicate n2 (.int .i64 0)) 3)).grown hgr (by simp; omega) (fun k hk => by simp at hk; omega)).trans (hb3.mono (by omega))
        have bf2 := bf.setCell (p := ⟨w.heap.size + 1 + 1, 0, none⟩) (by simp; omega) (.slice a3 (rx (dg (vl xs + vl ys))).length cap3)
        have bf3 := hid (bf2.alloc bf2.size (.cells #[(.slice a3 (rx (dg (vl xs + vl ys))).length cap3)] 34))
        have hown2 := hid (((own_far hown (p := ⟨w.heap.size + 1 + 1, 0, none⟩) (by simp; omega) (.slice a3 (rx (dg (vl xs + vl ys))).length cap3)).alloc (.cells #[(.slice a3 (rx (dg (vl xs + vl ys))).length cap3)] 34)).mono (show w.heap.size ≤ wr.heap.size by omega))
        obtain ⟨c3, f3, z3⟩ := p3.out.below' hb3
        clear bf bf2 hown hgr hb3 hat p4
        go_wp2
        exact bodyPost_ret (v := .tuple #[.agg #[(.slice a3 (rx (dg (vl xs + vl ys))).length cap3)], .bool (rb (dg (vl xs + vl ys)))]) (by simp [results, Try.results28, go_sem, hr]) rfl ⟨a3, cap3, rfl, hown2.out, bf3.out⟩
  · have hle1 : n1 ≤ n1 := by omega
    have hle2 : n2 ≤ n1 := by omega
    have hM60 : n1 ≤ 60 := by omega
    have hmk := make_ints (P := Try.prog) w1 32 3 i0 Try.underlying32 hi hz0 hz1 hz2 n1 (by omega)
    have hat0 := hid (at_made w1 3 n1 (by omega))
    rw [ci_zeros] at hat0
    obtain ⟨c1, _, z1⟩ := o1.out
    obtain ⟨c2, _, z2⟩ := o2.out
    go_wp2
    clear hmk c1 c2
    have rx1 := hid (r1.out.alloc (by omega) (.cells (Array.replicate n1 (.int .i64 0)) 3))
    have ry1 := hid (r2.out.alloc (by omega) (.cells (Array.replicate n1 (.int .i64 0)) 3))
    go_loopw [7] (fun iv wr => ∃ (i : Nat) (S : List Nat), iv = .int .i64 i ∧ i ≤ n1 ∧ Hid (Sum2 xs ys S n1 i) ∧ At wr w1.heap.size 3 n1 (ci S) ∧ (w1.alloc (.cells (Array.replicate n1 (.int .i64 0)) 3)).grownBy wr (some w1.heap.size)) (fun iv _ => n1 - (intOf iv).toNat)
    case atStart => exact ⟨0, _, rfl, Nat.zero_le _, hid (sum2_zero xs ys n1), hat0.out, World.grownBy.refl _ _⟩
    case round =>
      clear hat0
      obtain ⟨i, S, rfl, hin, hS, hat, hgr⟩ := hrel
      have p1 := hid ((o1.out.alloc (.cells (Array.replicate n1 (.int .i64 0)) 3)).grown hgr (by simp; omega))
      have p2 := hid ((o2.out.alloc (.cells (Array.replicate n1 (.int .i64 0)) 3)).grown hgr (by simp; omega))
      have p3 := hid ((o3.out.alloc (.cells (Array.replicate n1 (.int .i64 0)) 3)).grown hgr (by simp; omega))
      by_cases hil : i < n1
      · by_cases h1 : i < n2
        · have hS2 := hid (sum2_step hS.out (by omega) (getD9 HX.out.1 i) (getD9 HY.out.1 i))
          obtain ⟨b, off, rfl, hbB, hcell⟩ := (rx1.out.grown (by simp; omega) hgr (fun k hk => by simp at hk; omega)) (by rw [ci_length, N1.out]; omega)
          have g1 := hcell i (by rw [ci_length, N1.out]; omega)
          rw [ci_at] at g1
          have hx9 : xs[i]'(by rw [N1.out]; omega) ≤ 9 := by have := HX.out.1 _ (List.getElem_mem (by rw [N1.out]; omega)); omega
          have ex := hid (show xs.getD i 0 = xs[i]'(by rw [N1.out]; omega) by rw [List.getD_eq_getElem?_getD, List.getElem?_eq_getElem (by rw [N1.out]; omega)]; rfl)
          obtain ⟨x, hxe⟩ : ∃ x : Nat, Hid (xs[i]'(by rw [N1.out]; omega) = x) := ⟨_, hid rfl⟩
          rw [hxe.out] at g1 hx9
          rw [ex.out, hxe.out] at hS2
          have t8 : (i : Int) < (n1 : Int) := by omega
          obtain ⟨b2, off2, rfl, hbB2, hcell2⟩ := (ry1.out.grown (by simp; omega) hgr (fun k hk => by simp at hk; omega)) (by rw [ci_length, N2.out]; omega)
          have g2 := hcell2 i (by rw [ci_length, N2.out]; omega)
          rw [ci_at] at g2
          have hy9 : ys[i]'(by rw [N2.out]; omega) ≤ 9 := by have := HY.out.1 _ (List.getElem_mem (by rw [N2.out]; omega)); omega
          have ey := hid (show ys.getD i 0 = ys[i]'(by rw [N2.out]; omega) by rw [List.getD_eq_getElem?_getD, List.getElem?_eq_getElem (by rw [N2.out]; omega)]; rfl)
          obtain ⟨y, hye⟩ : ∃ y : Nat, Hid (ys[i]'(by rw [N2.out]; omega) = y) := ⟨_, hid rfl⟩
          rw [hye.out] at g2 hy9
          rw [ey.out, hye.out] at hS2
          have t9 : (i : Int) < (n2 : Int) := by omega
          have hSl : i < S.length := by rw [hS.out.1]; omega
          have h0 := hS.out.2.2.2 i hSl (Nat.le_refl _)
          have g3 := hat.cell i (by rw [ci_length]; exact hSl)
          rw [ci_at, h0] at g3
          have g4 := hat.free i
          have t2 : (i : Int) ≤ 60 := by omega
          have t5 : (i : Int) < (n1 : Int) := by omega
          obtain ⟨c1, _, z1⟩ := p1.out
          obtain ⟨c2, _, z2⟩ := p2.out
          have hat1 := hat.set i (x : Int)
          rw [ci_set S i x] at hat1
          have hset := hid (hat1.set i ((x : Int) + (y : Int)))
          rw [← Int.natCast_add, ci_set (S.set i x) i (x + y), List.set_set, Int.natCast_add] at hset
          have hgs := hid (grown_drew (grown_trans (grown_trans hgr (hat.set_grown i (.int .i64 (x : Int)))) (hat1.set_grown i (.int .i64 ((x : Int) + (y : Int))))))
          have k1 := World.cell?_setCell_same wr ⟨w1.heap.size, i, none⟩ (.int .i64 (x : Int)) g3
          have k2 : (wr.setCell ⟨w1.heap.size, i, none⟩ (.int .i64 (x : Int))).cell? ⟨b2, off2 + i, none⟩ = some (.int .i64 (y : Int)) := by rw [World.cell?_setCell_other _ _ _ _ (fun e => by have e2 : w1.heap.size = b2 := congrArg Addr.block e; omega)]; exact g2
          have k3 : (wr.setCell ⟨w1.heap.size, i, none⟩ (.int .i64 (x : Int))).cell? ⟨w.heap.size + 1, 0, none⟩ = some (.slice (some ⟨b2, off2, none⟩) n2 cap2) := by rw [World.cell?_setCell_other _ _ _ _ (fun e => by have e2 : w1.heap.size = w.heap.size + 1 := congrArg Addr.block e; omega)]; exact c2
          have k4 : (wr.setCell ⟨w1.heap.size, i, none⟩ (.int .i64 (x : Int))).frozen? ⟨w1.heap.size, i, none⟩ = false := by rw [World.frozen?_setCell]; exact g4
          have v2 : IntKind.i64.wrap ((x : Int) + (y : Int)) = (x : Int) + (y : Int) := IntWalk.i64_in _ (by omega)
          clear hcell hcell2 hat hat1 hgr h0 hS
          go_wp2
          generalize wr.setCell ⟨w1.heap.size, i, none⟩ (.int .i64 (x : Int)) = wq at k1 k2 k3 k4 hset hgs ⊢
          clear g1 g2 g3 g4 c1 c2
          go_still_tail 13, (by kernel_rfl)
          change wpList _ _ _ _ _ wq.drew
          clear v2
          go_wp2
          go_roundw
          case rel => exact ⟨i + 1, _, by go_num, by omega, hS2, hset.out.drew, hgs.out⟩
          case measure => simp [intOf]; omega
        · have hS2 := hid (sum2_step hS.out (by omega) (getD9 HX.out.1 i) (getD9 HY.out.1 i))
          obtain ⟨b, off, rfl, hbB, hcell⟩ := (rx1.out.grown (by simp; omega) hgr (fun k hk => by simp at hk; omega)) (by rw [ci_length, N1.out]; omega)
          have g1 := hcell i (by rw [ci_length, N1.out]; omega)
          rw [ci_at] at g1
          have hx9 : xs[i]'(by rw [N1.out]; omega) ≤ 9 := by have := HX.out.1 _ (List.getElem_mem (by rw [N1.out]; omega)); omega
          have ex := hid (show xs.getD i 0 = xs[i]'(by rw [N1.out]; omega) by rw [List.getD_eq_getElem?_getD, List.getElem?_eq_getElem (by rw [N1.out]; omega)]; rfl)
          obtain ⟨x, hxe⟩ : ∃ x : Nat, Hid (xs[i]'(by rw [N1.out]; omega) = x) := ⟨_, hid rfl⟩
          rw [hxe.out] at g1 hx9
          rw [ex.out, hxe.out] at hS2
          have t8 : (i : Int) < (n1 : Int) := by omega
          have ey := hid (show ys.getD i 0 = 0 by rw [List.getD_eq_getElem?_getD, List.getElem?_eq_none (by rw [N2.out]; omega)]; rfl)
          rw [ey.out] at hS2
          have t9 : ¬ (i : Int) < (n2 : Int) := by omega
          have hSl : i < S.length := by rw [hS.out.1]; omega
          have h0 := hS.out.2.2.2 i hSl (Nat.le_refl _)
          have g3 := hat.cell i (by rw [ci_length]; exact hSl)
          rw [ci_at, h0] at g3
          have g4 := hat.free i
          have t2 : (i : Int) ≤ 60 := by omega
          have t5 : (i : Int) < (n1 : Int) := by omega
          obtain ⟨c1, _, z1⟩ := p1.out
          obtain ⟨c2, _, z2⟩ := p2.out
          have hset := hid (hat.set i (x : Int))
          rw [ci_set S i x] at hset
          have hgs := hid (grown_trans hgr (hat.set_grown i (.int .i64 (x : Int))))
          clear hcell hat hgr h0 hS
          go_wp2
          go_roundw
          case rel => exact ⟨i + 1, _, by go_num, by omega, hS2, by rw [Nat.add_zero]; exact hset.out, hgs.out⟩
          case measure => simp [intOf]; omega
      · have hiM : i = n1 := by omega
        have hvS := hid (sum2_end hS.out (by rw [N1.out]; omega) (by rw [N2.out]; omega))
        have hSl := hS.out.1
        have hlt3 : vl S < 10 ^ 122 := by
          rw [hvS.out]
          exact Nat.lt_of_lt_of_le (sum_lt HX.out.1 HY.out.1 (show xs.length ≤ 60 by rw [N1.out]; omega) (show ys.length ≤ 60 by rw [N2.out]; omega)) (Nat.pow_le_pow_right (by omega) (by omega))
        have hC := hid fun W (h : Rd W (w1.heap.size + 1) (some ⟨w1.heap.size, 0, none⟩) (ci S)) (hB : w1.heap.size + 1 ≤ W.heap.size) => spec_carry (some ⟨w1.heap.size, 0, none⟩) n1 (w1.heap.size + 1) n1 S W hSl (by omega) (fun d hd => by have := hS.out.2.2.1 d hd; omega) hlt3 h hB
        rw [hvS.out] at hC
        have t5 : ¬ (i : Int) < (n1 : Int) := by omega
        clear hSl hlt3 hiM
        go_wp2_with fail
        refine (hC.out _ hat.rd hat.lt).mono ?_
        rintro e w3 ⟨a3, cap3, rfl, hown, hb3⟩
        have p4 := ((p3.out.below' hb3).set (.slice a3 (rx (dg (vl xs + vl ys))).length cap3)).alloc (.cells #[(.slice a3 (rx (dg (vl xs + vl ys))).length cap3)] 34)
        have hr := p4.1
        have hzr : w.heap.size + 3 ≤ wr.heap.size := by have := hgr.size; simp at this; omega
        have bf : Below w.heap.size w w3 := ((b1.out.alloc (by omega) (.cells (Array.replicate n1 (.int .i64 0)) 3)).grown hgr (by simp; omega) (fun k hk => by simp at hk; omega)).trans (hb3.mono (by omega))
        have bf2 := bf.setCell (p := ⟨w.heap.size + 1 + 1, 0, none⟩) (by simp; omega) (.slice a3 (rx (dg (vl xs + vl ys))).length cap3)
        have bf3 := hid (bf2.alloc bf2.size (.cells #[(.slice a3 (rx (dg (vl xs + vl ys))).length cap3)] 34))
        have hown2 := hid (((own_far hown (p := ⟨w.heap.size + 1 + 1, 0, none⟩) (by simp; omega) (.slice a3 (rx (dg (vl xs + vl ys))).length cap3)).alloc (.cells #[(.slice a3 (rx (dg (vl xs + vl ys))).length cap3)] 34)).mono (show w.heap.size ≤ wr.heap.size by omega))
        obtain ⟨c3, f3, z3⟩ := p3.out.below' hb3
        clear bf bf2 hown hgr hb3 hat p4
        go_wp2
        exact bodyPost_ret (v := .tuple #[.agg #[(.slice a3 (rx (dg (vl xs + vl ys))).length cap3)], .bool (rb (dg (vl xs + vl ys)))]) (by simp [results, Try.results28, go_sem, hr]) rfl ⟨a3, cap3, rfl, hown2.out, bf3.out⟩
end Go.Proofs.Ytanfakpeongfjaa.BigAddS
