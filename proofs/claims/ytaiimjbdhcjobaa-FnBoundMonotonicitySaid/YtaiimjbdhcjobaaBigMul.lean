/- Products: plain lemmas, the test of two arguments, and the contract of impl.MulBigInt. -/
import Derived.Test.YtaiimjbdhcjobaaBigCarry
import Derived.Deep.RegionLaw
namespace Go.Proofs.Ytaiimjbdhcjobaa.BigMul
open Go.RowKit
open Go.Proofs.Ytaiimjbdhcjobaa.Num Go.Proofs.Ytaiimjbdhcjobaa.IntRow Go.Proofs.Ytaiimjbdhcjobaa.IntLaw Go.Proofs.Ytaiimjbdhcjobaa.Dig Go.Proofs.Ytaiimjbdhcjobaa.BigValid Go.Proofs.Ytaiimjbdhcjobaa.BigFrom Go.Proofs.Ytaiimjbdhcjobaa.BigCols Go.Proofs.Ytaiimjbdhcjobaa.BigCarry
set_option linter.unusedVariables false

/-- The columns behind i digits of xs and j of ys. -/
def Acc (xs ys S : List Nat) (i j x : Nat) : Prop :=
  S.length = xs.length + ys.length ∧ vl S = vl (xs.take i) * vl ys + 10 ^ i * (x * vl (ys.take j)) ∧ ∀ d ∈ S, d ≤ 100 * (60 * i + j)
theorem acc_zero (xs ys : List Nat) (x : Nat) : Acc xs ys (List.replicate (xs.length + ys.length) 0) 0 0 x :=
  ⟨by simp, by simp [vl_replicate, vl], fun d hd => by have := List.eq_of_mem_replicate hd; omega⟩
theorem acc_step {xs ys S : List Nat} {i j x : Nat} (h : Acc xs ys S i j x) (hi : i < xs.length) (hj : j < ys.length) (hx : x ≤ 9) (hy : ys[j] ≤ 9) : Acc xs ys (up S (i + j) (x * ys[j])) i (j + 1) x := by
  have hp : x * ys[j] ≤ 81 := Nat.mul_le_mul hx hy
  refine ⟨by rw [up_length]; exact h.1, ?_, fun d hd => by have := up_le S (i + j) (x * ys[j]) _ h.2.2 d hd; omega⟩
  rw [vl_up S (i + j) _ (by rw [h.1]; omega), h.2.1, Dig.take_snoc ys j hj, Nat.add_assoc, Nat.pow_add]
  congr 1
  rw [Nat.mul_add, Nat.mul_add, Nat.mul_assoc, Nat.mul_left_comm x]
theorem acc_row {xs ys S : List Nat} {i : Nat} (x : Nat) (hi : i < xs.length) (hy : ys.length ≤ 60) (h : Acc xs ys S i ys.length xs[i]) : Acc xs ys S (i + 1) 0 x := by
  refine ⟨h.1, ?_, fun d hd => by have := h.2.2 d hd; omega⟩
  rw [h.2.1, Dig.take_snoc xs i hi, List.take_length, Nat.add_mul, List.take_zero, vl, Nat.mul_assoc, Nat.mul_zero, Nat.mul_zero, Nat.add_zero]
theorem acc_x {xs ys S : List Nat} {i x : Nat} (y : Nat) (h : Acc xs ys S i 0 x) : Acc xs ys S i 0 y := by
  refine ⟨h.1, ?_, h.2.2⟩
  have := h.2.1
  rw [List.take_zero, vl, Nat.mul_zero, Nat.mul_zero] at this
  rw [List.take_zero, vl, Nat.mul_zero, Nat.mul_zero]
  exact this
theorem acc_end {xs ys S : List Nat} {x : Nat} (h : Acc xs ys S xs.length 0 x) : vl S = vl xs * vl ys := by
  rw [h.2.1, List.take_length, List.take_zero, vl]; simp
theorem acc_lt {xs ys S : List Nat} {x : Nat} (h : Acc xs ys S xs.length 0 x) (h1 : Small xs) (h2 : Small ys) : vl S < 10 ^ (xs.length + ys.length) := by
  rw [acc_end h, Nat.pow_add]
  exact Nat.mul_lt_mul_of_lt_of_le (vl_lt xs h1) (Nat.le_of_lt (vl_lt ys h2)) (Nat.pow_pos (by omega))
theorem ci_up (S : List Nat) (p v : Nat) (z : Int) (hp : p < S.length) (hz : z = ((S[p] + v : Nat) : Int)) : (ci S).set p z = ci (up S p v) := by
  subst hz
  unfold ci up
  rw [List.getD_eq_getElem?_getD, List.getElem?_eq_getElem hp, ← List.map_set]
  rfl
theorem ci_zeros (n : Nat) : List.replicate n (0 : Int) = ci (List.replicate n 0) := by simp [ci]

theorem are_valid (a1 a2 : Option Addr) (cap1 cap2 B1 B2 : Nat) (xs ys : List Int) (w : World) (hn1 : xs.length ≤ 1048576) (hn2 : ys.length ≤ 1048576) (h1 : Rd w B1 a1 xs) (h2 : Rd w B2 a2 ys) (hB1 : B1 ≤ w.heap.size) (hB2 : B2 ≤ w.heap.size) :
    Calls Try.prog 103 #[.agg #[.slice a1 xs.length cap1], .agg #[.slice a2 ys.length cap2]] w fun e w' => e = .returned (.bool (vb xs && vb ys)) ∧ Below w.heap.size w w' := by
  have K2 := hid (one_new (w.alloc (.cells #[.slice a1 xs.length cap1] 53)) (.slice a2 ys.length cap2) 53)
  simp only [World.size_alloc] at K2
  have KB := hid (((Below.refl w.heap.size w).alloc (Nat.le_refl _) (.cells #[.slice a1 xs.length cap1] 53)).alloc (by simp) (.cells #[.slice a2 ys.length cap2] 53))
  have V1 := hid fun W (h : Rd W B1 a1 xs) (hB : B1 ≤ W.heap.size) => impl_valid a1 cap1 B1 xs W hn1 h hB
  have V2 := hid fun W (h : Rd W B2 a2 ys) (hB : B2 ≤ W.heap.size) => impl_valid a2 cap2 B2 ys W hn2 h hB
  have R1 := hid ((h1.alloc hB1 (.cells #[.slice a1 xs.length cap1] 53)).alloc (by simp; omega) (.cells #[.slice a2 ys.length cap2] 53))
  have R2 := hid ((h2.alloc hB2 (.cells #[.slice a1 xs.length cap1] 53)).alloc (by simp; omega) (.cells #[.slice a2 ys.length cap2] 53))
  clear h1 h2
  generalize vb xs = b1 at *
  generalize vb ys = b2 at *
  cases b1 with
  | false =>
    go_enter Try.func103, Try.ntmps103
    go_wp2_with fail
    refine (V1.out _ R1.out (by simp; omega)).mono ?_
    rintro e w1 ⟨rfl, hb⟩
    go_wp2
    go_ret
    exact ⟨rfl, KB.out.trans (hb.mono (by simp; omega))⟩
  | true =>
    go_enter Try.func103, Try.ntmps103
    go_wp2_with fail
    refine (V1.out _ R1.out (by simp; omega)).mono ?_
    rintro e w1 ⟨rfl, hb⟩
    obtain ⟨c1, f1, z1⟩ := K2.out.below' hb
    go_wp2_with fail
    refine (V2.out _ (R2.out.below (hb.mono (by simp; omega))) (by have := hb.size; simp at this; omega)).mono ?_
    rintro e w2 ⟨rfl, hb2⟩
    go_wp2
    go_ret
    exact ⟨rfl, (KB.out.trans (hb.mono (by simp; omega))).trans (hb2.mono (by have := hb.size; simp at this; omega))⟩

theorem are_valid_yes (a1 a2 : Option Addr) (n1 n2 cap1 cap2 B1 B2 : Nat) (xs ys : List Nat) (w : World) (hx : Norm xs) (hy : Norm ys) (hn1 : xs.length = n1) (hn2 : ys.length = n2) (hl1 : n1 ≤ 60) (hl2 : n2 ≤ 60) (h1 : Rd w B1 a1 (ci xs)) (h2 : Rd w B2 a2 (ci ys)) (hB1 : B1 ≤ w.heap.size) (hB2 : B2 ≤ w.heap.size) :
    Calls Try.prog 103 #[.agg #[.slice a1 n1 cap1], .agg #[.slice a2 n2 cap2]] w fun e w' => e = .returned (.bool true) ∧ Below w.heap.size w w' := by
  have h := are_valid a1 a2 cap1 cap2 B1 B2 (ci xs) (ci ys) w (by rw [ci_length]; omega) (by rw [ci_length]; omega) h1 h2 hB1 hB2
  rw [ci_length, ci_length, hn1, hn2] at h
  have e : (vb (ci xs) && vb (ci ys)) = true := by rw [vb_mk hx (by omega), vb_mk hy (by omega)]; rfl
  simpa only [e] using h

theorem impl_mul_no (a1 a2 : Option Addr) (cap1 cap2 B1 B2 : Nat) (xs ys : List Int) (w : World) (hn1 : xs.length ≤ 1048576) (hn2 : ys.length ≤ 1048576) (h1 : Rd w B1 a1 xs) (h2 : Rd w B2 a2 ys) (hB1 : B1 ≤ w.heap.size) (hB2 : B2 ≤ w.heap.size) (hv : (vb xs && vb ys) = false) :
    Calls Try.prog 99 #[.agg #[.slice a1 xs.length cap1], .agg #[.slice a2 ys.length cap2]] w fun e w' => e = .returned (.tuple #[.agg #[.slice none 0 0], .bool false]) ∧ Below w.heap.size w w' := by
  have KB := hid ((((Below.refl w.heap.size w).alloc (Nat.le_refl _) (.cells #[.slice a1 xs.length cap1] 53)).alloc (by simp) (.cells #[.slice a2 ys.length cap2] 53)).alloc (by simp; omega) (.cells #[.slice none 0 0] 53))
  have K3 := hid (one_new ((w.alloc (.cells #[.slice a1 xs.length cap1] 53)).alloc (.cells #[.slice a2 ys.length cap2] 53)) (.slice none 0 0) 53)
  simp only [World.size_alloc] at K3
  have V := hid fun W (h1 : Rd W B1 a1 xs) (h2 : Rd W B2 a2 ys) (hB1 : B1 ≤ W.heap.size) (hB2 : B2 ≤ W.heap.size) => are_valid a1 a2 cap1 cap2 B1 B2 xs ys W hn1 hn2 h1 h2 hB1 hB2
  rw [hv] at V
  clear hv
  go_enter Try.func99, Try.ntmps99
  go_wp2_with fail
  refine (V.out _ (((h1.alloc hB1 _).alloc (by simp; omega) _).alloc (by simp; omega) _) (((h2.alloc hB2 _).alloc (by simp; omega) _).alloc (by simp; omega) _) (by simp; omega) (by simp; omega)).mono ?_
  rintro e w1 ⟨rfl, hb⟩
  have o3 := K3.out.below' hb
  have hr := (o3.set (.slice none 0 0)).1
  obtain ⟨c1, f1, z1⟩ := o3
  go_wp2
  refine bodyPost_ret (v := .tuple #[.agg #[.slice none 0 0], .bool false]) (by simp [results, Try.results99, go_sem, hr]) rfl ⟨rfl, ?_⟩
  exact (KB.out.trans (hb.mono (by simp; omega))).setCell (by simp; omega) _


theorem impl_mul_yes (a1 a2 : Option Addr) (n1 n2 cap1 cap2 B1 B2 : Nat) (xs ys : List Nat) (w : World) (hx : Norm xs) (hy : Norm ys) (hn1 : xs.length = n1) (hn2 : ys.length = n2) (hl1 : n1 ≤ 60) (hl2 : n2 ≤ 60) (h1 : Rd w B1 a1 (ci xs)) (h2 : Rd w B2 a2 (ci ys)) (hB1 : B1 ≤ w.heap.size) (hB2 : B2 ≤ w.heap.size) :
    Calls Try.prog 99 #[.agg #[.slice a1 n1 cap1], .agg #[.slice a2 n2 cap2]] w fun e w' => ∃ a cap', e = .returned (.tuple #[.agg #[.slice a (rx (dg (vl xs * vl ys))).length cap'], .bool (rb (dg (vl xs * vl ys)))]) ∧ Own w' w.heap.size 3 (.slice a (rx (dg (vl xs * vl ys))).length cap') (rx (dg (vl xs * vl ys))) ∧ Below w.heap.size w w' := by
  obtain ⟨i0, hi, hz0, hz1, hz2⟩ := info_parts info
  have V := hid fun W (h1 : Rd W B1 a1 (ci xs)) (h2 : Rd W B2 a2 (ci ys)) (hB1 : B1 ≤ W.heap.size) (hB2 : B2 ≤ W.heap.size) => are_valid_yes a1 a2 n1 n2 cap1 cap2 B1 B2 xs ys W hx hy hn1 hn2 hl1 hl2 h1 h2 hB1 hB2
  have N1 := hid hn1
  have N2 := hid hn2
  have HX := hid hx
  have HY := hid hy
  clear hx hy hn1 hn2
  have KB := hid ((((Below.refl w.heap.size w).alloc (Nat.le_refl _) (.cells #[.slice a1 n1 cap1] 53)).alloc (by simp) (.cells #[.slice a2 n2 cap2] 53)).alloc (by simp; omega) (.cells #[.slice none 0 0] 53))
  have K1 := hid (((one_new w (.slice a1 n1 cap1) 53).alloc (.cells #[.slice a2 n2 cap2] 53)).alloc (.cells #[.slice none 0 0] 53))
  have K2 := hid ((one_new (w.alloc (.cells #[.slice a1 n1 cap1] 53)) (.slice a2 n2 cap2) 53).alloc (.cells #[.slice none 0 0] 53))
  have K3 := hid (one_new ((w.alloc (.cells #[.slice a1 n1 cap1] 53)).alloc (.cells #[.slice a2 n2 cap2] 53)) (.slice none 0 0) 53)
  simp only [World.size_alloc] at K2 K3
  go_enter Try.func99, Try.ntmps99
  go_wp2_with fail
  refine (V.out _ (((h1.alloc hB1 _).alloc (by simp; omega) _).alloc (by simp; omega) _) (((h2.alloc hB2 _).alloc (by simp; omega) _).alloc (by simp; omega) _) (by simp; omega) (by simp; omega)).mono ?_
  rintro e w1 ⟨rfl, hb⟩
  have hz : w.heap.size + 3 ≤ w1.heap.size := by have := hb.size; simp at this; omega
  have o1 := hid (K1.out.below' hb)
  have o2 := hid (K2.out.below' hb)
  have o3 := hid (K3.out.below' hb)
  have b1 := hid (KB.out.trans (hb.mono (by simp; omega)))
  have r1 := hid (h1.below (b1.out.mono hB1))
  have r2 := hid (h2.below (b1.out.mono hB2))
  have hmk := make_ints (P := Try.prog) w1 42 3 i0 Try.underlying42 hi hz0 hz1 hz2 (n1 + n2) (by omega)
  rw [Int.natCast_add] at hmk
  have hat0 := hid (at_made w1 3 (n1 + n2) (by omega))
  rw [ci_zeros] at hat0
  obtain ⟨c1, _, z1⟩ := o1.out
  obtain ⟨c2, _, z2⟩ := o2.out
  clear h1 h2 hb K1 K2 K3 KB V
  go_wp2
  clear hmk
  clear c1 c2
  go_loopw [27] (fun iv wr => ∃ (i : Nat) (S : List Nat), iv = .int .i64 i ∧ i ≤ n1 ∧ Hid (Acc xs ys S i 0 0) ∧ At wr w1.heap.size 3 (n1 + n2) (ci S) ∧ (w1.alloc (.cells (Array.replicate (n1 + n2) (.int .i64 0)) 3)).grownBy wr (some w1.heap.size)) (fun iv _ => n1 - (intOf iv).toNat)
  case atStart => exact ⟨0, _, rfl, Nat.zero_le _, hid (by have := acc_zero xs ys 0; rw [N1.out, N2.out] at this; exact this), hat0.out, World.grownBy.refl _ _⟩
  case round =>
    obtain ⟨i, S, rfl, hin, hA, hat, hgr⟩ := hrel
    have p1 := hid ((o1.out.alloc (.cells (Array.replicate (n1 + n2) (.int .i64 0)) 3)).grown hgr (by simp; omega))
    have p2 := hid ((o2.out.alloc (.cells (Array.replicate (n1 + n2) (.int .i64 0)) 3)).grown hgr (by simp; omega))
    have p3 := hid ((o3.out.alloc (.cells (Array.replicate (n1 + n2) (.int .i64 0)) 3)).grown hgr (by simp; omega))
    by_cases hlt : i < n1
    · have q1 := hid ((r1.out.alloc (by omega) (.cells (Array.replicate (n1 + n2) (.int .i64 0)) 3)).grown (by simp; omega) hgr (fun k hk => by simp at hk; omega))
      obtain ⟨b, off, rfl, hbB, hcell⟩ := q1.out (by rw [ci_length, N1.out]; omega)
      have g1 := hcell i (by rw [ci_length, N1.out]; exact hlt)
      rw [ci_at] at g1
      have hxi : xs[i]'(by rw [N1.out]; exact hlt) ≤ 9 := by have := HX.out.1 _ (List.getElem_mem (by rw [N1.out]; exact hlt)); omega
      obtain ⟨x, hxe⟩ : ∃ x : Nat, Hid (xs[i]'(by rw [N1.out]; exact hlt) = x) := ⟨_, hid rfl⟩
      rw [hxe.out] at g1 hxi
      have hA2 := hid (acc_x x hA.out)
      obtain ⟨c2, _, z2⟩ := p2.out
      clear hcell
      go_wp2
      clear g1 c2
      go_loopw [35] (fun jv wi => ∃ (j : Nat) (T : List Nat), jv = .int .i64 j ∧ j ≤ n2 ∧ Hid (Acc xs ys T i j x) ∧ At wi w1.heap.size 3 (n1 + n2) (ci T) ∧ wr.grownBy wi (some w1.heap.size)) (fun jv _ => n2 - (intOf jv).toNat)
      case atStart => exact ⟨0, S, rfl, Nat.zero_le _, hA2, hat, World.grownBy.refl _ _⟩
      case round =>
        clear hat
        obtain ⟨j, T, rfl, hjn, hT, hat, hgr2⟩ := hrel
        by_cases hjl : j < n2
        · have q2 := (((r2.out.alloc (by omega) (.cells (Array.replicate (n1 + n2) (.int .i64 0)) 3)).grown (by simp; omega) hgr (fun k hk => by simp at hk; omega)).grown (by have := hgr.size; simp at this; omega) hgr2 (fun k hk => by simp at hk; omega))
          obtain ⟨b2, off2, rfl, hbB2, hcell2⟩ := q2 (by rw [ci_length, N2.out]; omega)
          have hjy : j < ys.length := by rw [N2.out]; exact hjl
          have g2 := hcell2 j (by rw [ci_length]; exact hjy)
          rw [ci_at] at g2
          have hyj : ys[j] ≤ 9 := by have := HY.out.1 _ (List.getElem_mem hjy); omega
          have hT2 := acc_step hT.out (by rw [N1.out]; exact hlt) hjy hxi hyj
          have hTl : i + j < T.length := by rw [hT.out.1, N1.out, N2.out]; omega
          have hsb := hT.out.2.2 _ (List.getElem_mem hTl)
          have hpb : x * ys[j] ≤ 81 := Nat.mul_le_mul hxi hyj
          obtain ⟨s, hse⟩ : ∃ s : Nat, Hid (T[i + j] = s) := ⟨_, hid rfl⟩
          obtain ⟨q, hqe⟩ : ∃ q : Nat, Hid (x * ys[j] = q) := ⟨_, hid rfl⟩
          obtain ⟨y, hye⟩ : ∃ y : Nat, Hid (ys[j] = y) := ⟨_, hid rfl⟩
          rw [hye.out] at g2
          have e1 : (x : Int) * (y : Int) = (q : Int) := by rw [← hqe.out, ← hye.out]; simp
          rw [hqe.out] at hT2 hpb
          rw [hse.out] at hsb
          have g3 := hat.cell (i + j) (by rw [ci_length]; exact hTl)
          rw [ci_at, hse.out] at g3
          have g4 := hat.free (i + j)
          have hset := hid (hat.set (i + j) ((s : Int) + (q : Int)))
          rw [ci_up T (i + j) q _ hTl (by rw [hse.out]; simp)] at hset
          have hgs := hid (grown_trans hgr2 (hat.set_grown (i + j) (.int .i64 ((s : Int) + (q : Int)))))
          have hT3 := hid hT2
          have t1 : (i : Int) ≤ 60 := by omega
          have t2 : (j : Int) ≤ 60 := by omega
          have t3 : (0 : Int) ≤ (i : Int) + (j : Int) := by omega
          have t4 : ((i : Int) + (j : Int)).toNat = i + j := by omega
          have t5 : (i : Int) + (j : Int) < (n1 : Int) + (n2 : Int) := by omega
          have t6 : (s : Int) ≤ 400000 := by omega
          have t7 : (q : Int) ≤ 81 := by omega
          clear hcell2 hT2 hat hyj hsb q2
          go_wp2
          go_roundw
          case rel => exact ⟨j + 1, _, by go_num, by omega, hT3, hset.out, hgs.out⟩
          case measure => simp [intOf]; omega
        · have e : j = n2 := by omega
          subst e
          have hT4 : Hid (Acc xs ys T (i + 1) 0 0) := by
            have h := hT.out
            have h60 : ys.length ≤ 60 := by rw [N2.out]; exact hl2
            rw [← N2.out, ← hxe.out] at h
            exact hid (acc_row 0 (by rw [N1.out]; exact hlt) h60 h)
          have hgg := hid (grown_trans hgr hgr2)
          go_wp2
          go_roundw
          case rel => exact ⟨i + 1, T, by go_num, by omega, hT4, hat, hgg.out⟩
          case measure => simp [intOf]; omega
    · have e : i = n1 := by omega
      subst e
      have hA1 : Acc xs ys S xs.length 0 0 := by rw [N1.out]; exact hA.out
      have hvS := hid (acc_end hA1)
      have hSl : S.length = i + n2 := by rw [hA1.1, N1.out, N2.out]
      have hlt2 := acc_lt hA1 HX.out.1 HY.out.1
      rw [N1.out, N2.out] at hlt2
      have hC := hid fun W (h : At W w1.heap.size 3 (i + n2) (ci S)) => impl_cols w1.heap.size (i + n2) (i + n2) S W hSl (by omega) (by omega) (by omega) (fun d hd => by have := hA.out.2.2 d hd; omega) hlt2 h
      rw [hvS.out] at hC
      clear hA1 hSl hlt2
      go_wp2_with fail
      refine (hC.out _ hat).mono ?_
      rintro e w3 ⟨a3, cap3, rfl, hown, hgr3⟩
      have p4 := p3.out.grown hgr3 (by simp; omega)
      have hr := (p4.set (.slice a3 (rx (dg (vl xs * vl ys))).length cap3)).1
      have bf : Below w.heap.size w w3 := ((b1.out.alloc (by omega) _).grown hgr (by simp; omega) (fun k hk => by simp at hk; omega)).grown hgr3 (by have := hgr.size; simp at this; omega) (fun k hk => by simp at hk; omega)
      have bf2 := hid (bf.setCell (p := ⟨w.heap.size + 1 + 1, 0, none⟩) (by simp; omega) (.slice a3 (rx (dg (vl xs * vl ys))).length cap3))
      have hown2 := hid ((own_far hown (p := ⟨w.heap.size + 1 + 1, 0, none⟩) (by simp; omega) (.slice a3 (rx (dg (vl xs * vl ys))).length cap3)).mono (show w.heap.size ≤ w1.heap.size by omega))
      obtain ⟨c3, f3, z3⟩ := p4
      clear bf hown hgr hgr3 hat
      go_wp2
      exact bodyPost_ret (v := .tuple #[.agg #[.slice a3 (rx (dg (vl xs * vl ys))).length cap3], .bool (rb (dg (vl xs * vl ys)))]) (by simp [results, Try.results99, go_sem, hr]) rfl ⟨a3, cap3, rfl, hown2.out, bf2.out⟩
end Go.Proofs.Ytaiimjbdhcjobaa.BigMul
