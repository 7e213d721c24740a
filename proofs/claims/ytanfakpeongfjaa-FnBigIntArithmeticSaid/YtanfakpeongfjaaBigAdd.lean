/- Sums: the contract of impl.AddBigInt. -/
import Derived.Test.YtanfakpeongfjaaBigMul
import Derived.Laws.CopyOwn
namespace Go.Proofs.Ytanfakpeongfjaa.BigAdd
open Go.RowKit
open Go.Proofs.Ytanfakpeongfjaa.Num Go.Proofs.Ytanfakpeongfjaa.IntRow Go.Proofs.Ytanfakpeongfjaa.IntLaw Go.Proofs.Ytanfakpeongfjaa.Dig Go.Proofs.Ytanfakpeongfjaa.BigValid Go.Proofs.Ytanfakpeongfjaa.BigFrom Go.Proofs.Ytanfakpeongfjaa.BigCols Go.Proofs.Ytanfakpeongfjaa.BigCarry Go.Proofs.Ytanfakpeongfjaa.BigMul
set_option linter.unusedVariables false

/-- The columns of a sum behind j digits of ys. -/
def Sum (xs ys S : List Nat) (m j : Nat) : Prop := S.length = m + 1 ∧ vl S = vl xs + vl (ys.take j) ∧ ∀ d ∈ S, d ≤ 9 + 9 * j
theorem sum_zero (xs ys : List Nat) (m : Nat) (hm : xs.length ≤ m) (hx : Small xs) : Sum xs ys (xs ++ List.replicate (m + 1 - xs.length) 0) m 0 := by
  refine ⟨by simp; omega, by rw [vl_append, vl_replicate]; simp [vl], fun d hd => ?_⟩
  rcases List.mem_append.1 hd with h | h
  · have := hx d h; omega
  · have := List.eq_of_mem_replicate h; omega
theorem sum_step {xs ys S : List Nat} {m j : Nat} (h : Sum xs ys S m j) (hj : j < ys.length) (hm : ys.length ≤ m) (hy : ys[j] ≤ 9) : Sum xs ys (up S j ys[j]) m (j + 1) := by
  refine ⟨by rw [up_length]; exact h.1, ?_, fun d hd => by have := up_le S j ys[j] _ h.2.2 d hd; omega⟩
  rw [vl_up S j _ (by rw [h.1]; omega), h.2.1, Dig.take_snoc ys j hj, Nat.add_assoc]
theorem sum_end {xs ys S : List Nat} {m : Nat} (h : Sum xs ys S m ys.length) : vl S = vl xs + vl ys := by rw [h.2.1, List.take_length]
theorem sum_lt {xs ys : List Nat} {m : Nat} (h1 : Small xs) (h2 : Small ys) (hm1 : xs.length ≤ m) (hm2 : ys.length ≤ m) : vl xs + vl ys < 10 ^ (m + 1) := by
  have a := Nat.lt_of_lt_of_le (vl_lt xs h1) (Nat.pow_le_pow_right (show 10 > 0 by omega) hm1)
  have b := Nat.lt_of_lt_of_le (vl_lt ys h2) (Nat.pow_le_pow_right (show 10 > 0 by omega) hm2)
  rw [Nat.pow_succ]
  omega
theorem at_of_block {w : World} {g n : Nat} {e : TypeId} {cur : List Value} {xs : List Int} (h : w.heap[g]? = some (.cells cur.toArray e (0, 0))) (hx : cur = ic xs) (hn : xs.length = n) (hm : n ≤ maxLen) : At w g e n xs := by
  subst hx hn
  exact ⟨by simp [ic], .inr ⟨g, xs.length, _, rfl, Nat.le_refl _, h, Nat.le_refl _, hm, by simp [ic], by rw [List.take_of_length_le (by simp [ic])]⟩⟩
theorem splice_row (m : Nat) (xs : List Nat) (h : xs.length ≤ m + 1) : splice (List.replicate (m + 1) (Value.int .i64 0)) 0 (ic (ci xs)) = ic (ci (xs ++ List.replicate (m + 1 - xs.length) 0)) := by
  simp [splice, ic, ci]
theorem intSize : (Try.prog.info? 3).map (·.size) = some 1 := by kernel_rfl

theorem impl_add_no (a1 a2 : Option Addr) (cap1 cap2 B1 B2 : Nat) (xs ys : List Int) (w : World) (hn1 : xs.length ≤ 1048576) (hn2 : ys.length ≤ 1048576) (h1 : Rd w B1 a1 xs) (h2 : Rd w B2 a2 ys) (hB1 : B1 ≤ w.heap.size) (hB2 : B2 ≤ w.heap.size) (hv : (vb xs && vb ys) = false) :
    Calls Try.prog 26 #[.agg #[.slice a1 xs.length cap1], .agg #[.slice a2 ys.length cap2]] w fun e w' => e = .returned (.tuple #[.agg #[.slice none 0 0], .bool false]) ∧ Below w.heap.size w w' := by
  have KB := hid ((((Below.refl w.heap.size w).alloc (Nat.le_refl _) (.cells #[.slice a1 xs.length cap1] 34)).alloc (by simp) (.cells #[.slice a2 ys.length cap2] 34)).alloc (by simp; omega) (.cells #[.slice none 0 0] 34))
  have K3 := hid (one_new ((w.alloc (.cells #[.slice a1 xs.length cap1] 34)).alloc (.cells #[.slice a2 ys.length cap2] 34)) (.slice none 0 0) 34)
  simp only [World.size_alloc] at K3
  have V := hid fun W (h1 : Rd W B1 a1 xs) (h2 : Rd W B2 a2 ys) (hB1 : B1 ≤ W.heap.size) (hB2 : B2 ≤ W.heap.size) => are_valid a1 a2 cap1 cap2 B1 B2 xs ys W hn1 hn2 h1 h2 hB1 hB2
  rw [hv] at V
  clear hv
  go_enter Try.func26, Try.ntmps26
  go_wp2_with fail
  refine (V.out _ (((h1.alloc hB1 _).alloc (by simp; omega) _).alloc (by simp; omega) _) (((h2.alloc hB2 _).alloc (by simp; omega) _).alloc (by simp; omega) _) (by simp; omega) (by simp; omega)).mono ?_
  rintro e w1 ⟨rfl, hb⟩
  have o3 := K3.out.below' hb
  have hr := (o3.set (.slice none 0 0)).1
  obtain ⟨c1, f1, z1⟩ := o3
  go_wp2
  refine bodyPost_ret (v := .tuple #[.agg #[.slice none 0 0], .bool false]) (by simp [results, Try.results26, go_sem, hr]) rfl ⟨rfl, ?_⟩
  exact (KB.out.trans (hb.mono (by simp; omega))).setCell (by simp; omega) _

theorem impl_add_yes (a1 a2 : Option Addr) (n1 n2 cap1 cap2 B1 B2 : Nat) (xs ys : List Nat) (w : World) (hx : Norm xs) (hy : Norm ys) (hn1 : xs.length = n1) (hn2 : ys.length = n2) (hl1 : n1 ≤ 60) (hl2 : n2 ≤ 60) (h1 : Rd w B1 a1 (ci xs)) (h2 : Rd w B2 a2 (ci ys)) (hB1 : B1 ≤ w.heap.size) (hB2 : B2 ≤ w.heap.size) :
    Calls Try.prog 26 #[.agg #[.slice a1 n1 cap1], .agg #[.slice a2 n2 cap2]] w fun e w' => ∃ a cap', e = .returned (.tuple #[.agg #[.slice a (rx (dg (vl xs + vl ys))).length cap'], .bool (rb (dg (vl xs + vl ys)))]) ∧ Own w' w.heap.size 3 (.slice a (rx (dg (vl xs + vl ys))).length cap') (rx (dg (vl xs + vl ys))) ∧ Below w.heap.size w w' := by
  obtain ⟨i0, hi, hz0, hz1, hz2⟩ := info_parts info
  have V := hid fun W (h1 : Rd W B1 a1 (ci xs)) (h2 : Rd W B2 a2 (ci ys)) (hB1 : B1 ≤ W.heap.size) (hB2 : B2 ≤ W.heap.size) => are_valid_yes a1 a2 n1 n2 cap1 cap2 B1 B2 xs ys W hx hy hn1 hn2 hl1 hl2 h1 h2 hB1 hB2
  have N1 := hid hn1
  have N2 := hid hn2
  have HX := hid hx
  have HY := hid hy
  clear hx hy hn1 hn2
  have KB := hid ((((Below.refl w.heap.size w).alloc (Nat.le_refl _) (.cells #[.slice a1 n1 cap1] 34)).alloc (by simp) (.cells #[.slice a2 n2 cap2] 34)).alloc (by simp; omega) (.cells #[.slice none 0 0] 34))
  have K1 := hid (((one_new w (.slice a1 n1 cap1) 34).alloc (.cells #[.slice a2 n2 cap2] 34)).alloc (.cells #[.slice none 0 0] 34))
  have K2 := hid ((one_new (w.alloc (.cells #[.slice a1 n1 cap1] 34)) (.slice a2 n2 cap2) 34).alloc (.cells #[.slice none 0 0] 34))
  have K3 := hid (one_new ((w.alloc (.cells #[.slice a1 n1 cap1] 34)).alloc (.cells #[.slice a2 n2 cap2] 34)) (.slice none 0 0) 34)
  simp only [World.size_alloc] at K2 K3
  go_enter Try.func26, Try.ntmps26
  go_wp2_with fail
  refine (V.out _ (((h1.alloc hB1 _).alloc (by simp; omega) _).alloc (by simp; omega) _) (((h2.alloc hB2 _).alloc (by simp; omega) _).alloc (by simp; omega) _) (by simp; omega) (by simp; omega)).mono ?_
  rintro e w1 ⟨rfl, hb⟩
  have hz : w.heap.size + 3 ≤ w1.heap.size := by have := hb.size; simp at this; omega
  have o1 := hid (K1.out.below' hb)
  have o2 := hid (K2.out.below' hb)
  have o3 := hid (K3.out.below' hb)
  have b1 := hid (KB.out.trans (hb.mono (by simp; omega)))
  have r1 := hid (h1.below (b1.out.mono hB1))
  have r2 := hid (h2.below (b1.out.mono hB2))
  obtain ⟨c1, _, z1⟩ := o1.out
  obtain ⟨c2, _, z2⟩ := o2.out
  clear h1 h2 hb K1 K2 K3 KB V
  by_cases hlt : (n1 : Int) < (n2 : Int)
  · have hmk := make_ints (P := Try.prog) w1 32 3 i0 Try.underlying32 hi hz0 hz1 hz2 (n2 + 1) (by omega)
    rw [Int.natCast_add, Int.natCast_one] at hmk
    have hblk := hid (show (w1.alloc (.cells (Array.replicate (n2 + 1) (.int .i64 0)) 3)).heap[w1.heap.size]? = some (.cells (List.replicate (n2 + 1) (Value.int .i64 0)).toArray 3 (0, 0)) by rw [heap_alloc_new]; simp)
    obtain ⟨cs, hcs⟩ : ∃ cs : List Value, Hid (cs = ic (ci xs)) := ⟨_, hid rfl⟩
    have hcl : cs.length = n1 := by rw [hcs.out, ic_length, ci_length, N1.out]
    have HCL := hid hcl
    obtain ⟨cur, hcur⟩ : ∃ cur : List Value, Hid (cur = List.replicate (n2 + 1) (Value.int .i64 0)) := ⟨_, hid rfl⟩
    have hcrl := hid (show cur.length = n2 + 1 by rw [hcur.out]; simp)
    have H1 := hid (show ∀ v ∈ cs, v.oneCell' = true by rw [hcs.out]; exact ints_oneCell .i64 _)
    have HP := hid (show 0 < cs.length → ∃ ad, a1 = some ad ∧ ∀ j v, cs[j]? = some v → (w1.alloc (.cells (Array.replicate (n2 + 1) (.int .i64 0)) 3)).cell? (ad.add j) = some v from fun h0 => by
      obtain ⟨b, off, e, hbB, hc⟩ := (r1.out.alloc (by omega) (.cells (Array.replicate (n2 + 1) (.int .i64 0)) 3)) (by rw [ci_length, N1.out]; omega)
      refine ⟨_, e, fun j v hv => ?_⟩
      rw [hcs.out] at hv
      have hj : j < (ci xs).length := by
        rcases Nat.lt_or_ge j (ci xs).length with h | h
        · exact h
        · rw [List.getElem?_eq_none (by rw [ic_length]; exact h)] at hv; cases hv
      rw [ic_at _ j hj] at hv
      injection hv with hv
      subst hv
      rw [Go.WideShapes.add_plain]
      exact hc j hj)
    rw [← hcur.out] at hblk
    have hle : n1 ≤ n2 := by omega
    have hle2 : n2 ≤ n2 := by omega
    have HN := hid (show cs.length = Nat.min n1 (n2 + 1) by rw [hcl]; exact (Nat.min_eq_left (by omega)).symm)
    have BB := hid (Below.refl w1.heap.size (w1.alloc (.cells (Array.replicate (n2 + 1) (.int .i64 0)) 3)))
    clear hcl
    go_wp2_with (with_reducible refine wpList_copy_splice rfl (.tmp 23) (.tmp 25) 32 32 rfl 3 Try.underlying32 intSize _ _ _ _ _ _ rfl rfl w1.heap.size 0 cur 3 hblk.out cs HN.out (fun h0 => ⟨rfl, HP.out h0⟩) (by rw [hcrl.out, HCL.out]; omega) H1.out w1.heap.size _ BB.out (Nat.le_refl _) ?_)
    intro w3 hw3 hb3
    have q2 := hid ((o2.out.alloc (.cells (Array.replicate (n2 + 1) (.int .i64 0)) 3)).below hb3 (by omega))
    obtain ⟨c3, _, z3⟩ := q2.out
    clear hmk c1 c2
    go_wp2
    clear c3
    have q3 := hid ((o3.out.alloc (.cells (Array.replicate (n2 + 1) (.int .i64 0)) 3)).below hb3 (by omega))
    have hz3 := hb3.size
    simp only [World.size_alloc] at hz3
    have bw := hid ((b1.out.alloc (by omega) (.cells (Array.replicate (n2 + 1) (.int .i64 0)) 3)).trans (hb3.mono (by omega)))
    have ry := hid ((r2.out.alloc (by omega) (.cells (Array.replicate (n2 + 1) (.int .i64 0)) 3)).below (hb3.mono (by omega)))
    have hat0 : RowKit.Hid (At w3 w1.heap.size 3 (n2 + 1) (ci (xs ++ List.replicate (n2 + 1 - n1) 0))) := hid (at_of_block hw3.out (by rw [hcur.out, hcs.out, splice_row n2 xs (by rw [N1.out]; omega), N1.out]) (by rw [ci_length]; have := N1.out; simp; omega) (by unfold maxLen; omega))
    have S0 : RowKit.Hid (Sum xs ys (xs ++ List.replicate (n2 + 1 - n1) 0) n2 0) := by
      have h := sum_zero xs ys n2 (by rw [N1.out]; exact hle) HX.out.1
      rw [N1.out] at h
      exact hid h
    have hM60 : n2 ≤ 60 := by omega
    clear hw3 hb3 hblk BB
    go_loopw [30] (fun jv wr => ∃ (j : Nat) (S : List Nat), jv = .int .i64 j ∧ j ≤ n2 ∧ Hid (Sum xs ys S n2 j) ∧ At wr w1.heap.size 3 (n2 + 1) (ci S) ∧ w3.grownBy wr (some w1.heap.size)) (fun jv _ => n2 - (intOf jv).toNat)
    case atStart => exact ⟨0, _, rfl, Nat.zero_le _, S0, hat0.out, World.grownBy.refl _ _⟩
    case round =>
      clear S0 hat0
      obtain ⟨j, S, rfl, hjn, hS, hat, hgr⟩ := hrel
      by_cases hjl : j < n2
      · obtain ⟨b2, off2, rfl, hbB2, hcell2⟩ := (ry.out.grown (by omega) hgr (fun k hk => by simp at hk; omega)) (by rw [ci_length, N2.out]; omega)
        have hjy : j < ys.length := by rw [N2.out]; exact hjl
        have g2 := hcell2 j (by rw [ci_length]; exact hjy)
        rw [ci_at] at g2
        have hyj : ys[j] ≤ 9 := by have := HY.out.1 _ (List.getElem_mem hjy); omega
        have hS2 := sum_step hS.out hjy (by rw [N2.out]; exact hle2) hyj
        have hSl : j < S.length := by rw [hS.out.1]; omega
        have hsb := hS.out.2.2 _ (List.getElem_mem hSl)
        obtain ⟨s, hse⟩ : ∃ s : Nat, Hid (S[j] = s) := ⟨_, hid rfl⟩
        obtain ⟨y, hye⟩ : ∃ y : Nat, Hid (ys[j] = y) := ⟨_, hid rfl⟩
        rw [hye.out] at g2 hyj hS2
        rw [hse.out] at hsb
        have g3 := hat.cell j (by rw [ci_length]; exact hSl)
        rw [ci_at, hse.out] at g3
        have g4 := hat.free j
        have hset := hid (hat.set j ((s : Int) + (y : Int)))
        rw [ci_up S j y _ hSl (by rw [hse.out]; simp)] at hset
        have hgs := hid (grown_trans hgr (hat.set_grown j (.int .i64 ((s : Int) + (y : Int)))))
        have hS3 := hid hS2
        have t2 : (j : Int) ≤ 60 := by omega
        have t6 : (s : Int) ≤ 1000 := by omega
        have t7 : (y : Int) ≤ 9 := by omega
        have t5 : (j : Int) < (n2 : Int) + 1 := by omega
        clear hcell2 hS2 hat hyj hsb hgr
        go_wp2
        go_roundw
        case rel => exact ⟨j + 1, _, by go_num, by omega, hS3, hset.out, hgs.out⟩
        case measure => simp [intOf]; omega
      · have hjn2 : j = n2 := by omega
        have hS1 : Sum xs ys S n2 ys.length := by rw [show ys.length = j by rw [N2.out, hjn2]]; exact hS.out
        have hvS := hid (sum_end hS1)
        have hlt2 : vl S < 10 ^ (n2 + 1) := by rw [hvS.out]; exact sum_lt HX.out.1 HY.out.1 (by rw [N1.out]; exact hle) (by rw [N2.out]; exact hle2)
        have hSl := hS1.1
        have hC := hid fun W (h : At W w1.heap.size 3 (n2 + 1) (ci S)) => impl_cols w1.heap.size (n2 + 1) (n2 + 1) S W hSl (by omega) (by omega) (by omega) (fun d hd => by have := hS.out.2.2 d hd; omega) hlt2 h
        rw [hvS.out] at hC
        clear hS1 hSl hlt2 hjn2
        go_wp2_with fail
        refine (hC.out _ hat).mono ?_
        rintro e w4 ⟨a3, cap3, rfl, hown, hgr3⟩
        have p4 := (q3.out.grown hgr (by simp; omega)).grown hgr3 (by simp; omega)
        have hr := (p4.set (.slice a3 (rx (dg (vl xs + vl ys))).length cap3)).1
        have bf : Below w.heap.size w w4 := (bw.out.grown hgr (by omega) (fun k hk => by simp at hk; omega)).grown hgr3 (by have := hgr.size; omega) (fun k hk => by simp at hk; omega)
        have bf2 := hid (bf.setCell (p := ⟨w.heap.size + 1 + 1, 0, none⟩) (by simp; omega) (.slice a3 (rx (dg (vl xs + vl ys))).length cap3))
        have hown2 := hid ((own_far hown (p := ⟨w.heap.size + 1 + 1, 0, none⟩) (by simp; omega) (.slice a3 (rx (dg (vl xs + vl ys))).length cap3)).mono (show w.heap.size ≤ w1.heap.size by omega))
        obtain ⟨c5, f5, z5⟩ := p4
        clear bf hown hgr hgr3 hat
        go_wp2
        exact bodyPost_ret (v := .tuple #[.agg #[.slice a3 (rx (dg (vl xs + vl ys))).length cap3], .bool (rb (dg (vl xs + vl ys)))]) (by simp [results, Try.results26, go_sem, hr]) rfl ⟨a3, cap3, rfl, hown2.out, bf2.out⟩
  · have hmk := make_ints (P := Try.prog) w1 32 3 i0 Try.underlying32 hi hz0 hz1 hz2 (n1 + 1) (by omega)
    rw [Int.natCast_add, Int.natCast_one] at hmk
    have hblk := hid (show (w1.alloc (.cells (Array.replicate (n1 + 1) (.int .i64 0)) 3)).heap[w1.heap.size]? = some (.cells (List.replicate (n1 + 1) (Value.int .i64 0)).toArray 3 (0, 0)) by rw [heap_alloc_new]; simp)
    obtain ⟨cs, hcs⟩ : ∃ cs : List Value, Hid (cs = ic (ci xs)) := ⟨_, hid rfl⟩
    have hcl : cs.length = n1 := by rw [hcs.out, ic_length, ci_length, N1.out]
    have HCL := hid hcl
    obtain ⟨cur, hcur⟩ : ∃ cur : List Value, Hid (cur = List.replicate (n1 + 1) (Value.int .i64 0)) := ⟨_, hid rfl⟩
    have hcrl := hid (show cur.length = n1 + 1 by rw [hcur.out]; simp)
    have H1 := hid (show ∀ v ∈ cs, v.oneCell' = true by rw [hcs.out]; exact ints_oneCell .i64 _)
    have HP := hid (show 0 < cs.length → ∃ ad, a1 = some ad ∧ ∀ j v, cs[j]? = some v → (w1.alloc (.cells (Array.replicate (n1 + 1) (.int .i64 0)) 3)).cell? (ad.add j) = some v from fun h0 => by
      obtain ⟨b, off, e, hbB, hc⟩ := (r1.out.alloc (by omega) (.cells (Array.replicate (n1 + 1) (.int .i64 0)) 3)) (by rw [ci_length, N1.out]; omega)
      refine ⟨_, e, fun j v hv => ?_⟩
      rw [hcs.out] at hv
      have hj : j < (ci xs).length := by
        rcases Nat.lt_or_ge j (ci xs).length with h | h
        · exact h
        · rw [List.getElem?_eq_none (by rw [ic_length]; exact h)] at hv; cases hv
      rw [ic_at _ j hj] at hv
      injection hv with hv
      subst hv
      rw [Go.WideShapes.add_plain]
      exact hc j hj)
    rw [← hcur.out] at hblk
    have hle : n1 ≤ n1 := by omega
    have hle2 : n2 ≤ n1 := by omega
    have HN := hid (show cs.length = Nat.min n1 (n1 + 1) by rw [hcl]; exact (Nat.min_eq_left (by omega)).symm)
    have BB := hid (Below.refl w1.heap.size (w1.alloc (.cells (Array.replicate (n1 + 1) (.int .i64 0)) 3)))
    clear hcl
    go_wp2_with (with_reducible refine wpList_copy_splice rfl (.tmp 23) (.tmp 25) 32 32 rfl 3 Try.underlying32 intSize _ _ _ _ _ _ rfl rfl w1.heap.size 0 cur 3 hblk.out cs HN.out (fun h0 => ⟨rfl, HP.out h0⟩) (by rw [hcrl.out, HCL.out]; omega) H1.out w1.heap.size _ BB.out (Nat.le_refl _) ?_)
    intro w3 hw3 hb3
    have q2 := hid ((o2.out.alloc (.cells (Array.replicate (n1 + 1) (.int .i64 0)) 3)).below hb3 (by omega))
    obtain ⟨c3, _, z3⟩ := q2.out
    clear hmk c1 c2
    go_wp2
    clear c3
    have q3 := hid ((o3.out.alloc (.cells (Array.replicate (n1 + 1) (.int .i64 0)) 3)).below hb3 (by omega))
    have hz3 := hb3.size
    simp only [World.size_alloc] at hz3
    have bw := hid ((b1.out.alloc (by omega) (.cells (Array.replicate (n1 + 1) (.int .i64 0)) 3)).trans (hb3.mono (by omega)))
    have ry := hid ((r2.out.alloc (by omega) (.cells (Array.replicate (n1 + 1) (.int .i64 0)) 3)).below (hb3.mono (by omega)))
    have hat0 : RowKit.Hid (At w3 w1.heap.size 3 (n1 + 1) (ci (xs ++ List.replicate (n1 + 1 - n1) 0))) := hid (at_of_block hw3.out (by rw [hcur.out, hcs.out, splice_row n1 xs (by rw [N1.out]; omega), N1.out]) (by rw [ci_length]; have := N1.out; simp; omega) (by unfold maxLen; omega))
    have S0 : RowKit.Hid (Sum xs ys (xs ++ List.replicate (n1 + 1 - n1) 0) n1 0) := by
      have h := sum_zero xs ys n1 (by rw [N1.out]; exact hle) HX.out.1
      rw [N1.out] at h
      exact hid h
    have hM60 : n1 ≤ 60 := by omega
    clear hw3 hb3 hblk BB
    go_loopw [30] (fun jv wr => ∃ (j : Nat) (S : List Nat), jv = .int .i64 j ∧ j ≤ n2 ∧ Hid (Sum xs ys S n1 j) ∧ At wr w1.heap.size 3 (n1 + 1) (ci S) ∧ w3.grownBy wr (some w1.heap.size)) (fun jv _ => n2 - (intOf jv).toNat)
    case atStart => exact ⟨0, _, rfl, Nat.zero_le _, S0, hat0.out, World.grownBy.refl _ _⟩
    case round =>
      clear S0 hat0
      obtain ⟨j, S, rfl, hjn, hS, hat, hgr⟩ := hrel
      by_cases hjl : j < n2
      · obtain ⟨b2, off2, rfl, hbB2, hcell2⟩ := (ry.out.grown (by omega) hgr (fun k hk => by simp at hk; omega)) (by rw [ci_length, N2.out]; omega)
        have hjy : j < ys.length := by rw [N2.out]; exact hjl
        have g2 := hcell2 j (by rw [ci_length]; exact hjy)
        rw [ci_at] at g2
        have hyj : ys[j] ≤ 9 := by have := HY.out.1 _ (List.getElem_mem hjy); omega
        have hS2 := sum_step hS.out hjy (by rw [N2.out]; exact hle2) hyj
        have hSl : j < S.length := by rw [hS.out.1]; omega
        have hsb := hS.out.2.2 _ (List.getElem_mem hSl)
        obtain ⟨s, hse⟩ : ∃ s : Nat, Hid (S[j] = s) := ⟨_, hid rfl⟩
        obtain ⟨y, hye⟩ : ∃ y : Nat, Hid (ys[j] = y) := ⟨_, hid rfl⟩
        rw [hye.out] at g2 hyj hS2
        rw [hse.out] at hsb
        have g3 := hat.cell j (by rw [ci_length]; exact hSl)
        rw [ci_at, hse.out] at g3
        have g4 := hat.free j
        have hset := hid (hat.set j ((s : Int) + (y : Int)))
        rw [ci_up S j y _ hSl (by rw [hse.out]; simp)] at hset
        have hgs := hid (grown_trans hgr (hat.set_grown j (.int .i64 ((s : Int) + (y : Int)))))
        have hS3 := hid hS2
        have t2 : (j : Int) ≤ 60 := by omega
        have t6 : (s : Int) ≤ 1000 := by omega
        have t7 : (y : Int) ≤ 9 := by omega
        have t5 : (j : Int) < (n1 : Int) + 1 := by omega
        clear hcell2 hS2 hat hyj hsb hgr
        go_wp2
        go_roundw
        case rel => exact ⟨j + 1, _, by go_num, by omega, hS3, hset.out, hgs.out⟩
        case measure => simp [intOf]; omega
      · have hjn2 : j = n2 := by omega
        have hS1 : Sum xs ys S n1 ys.length := by rw [show ys.length = j by rw [N2.out, hjn2]]; exact hS.out
        have hvS := hid (sum_end hS1)
        have hlt2 : vl S < 10 ^ (n1 + 1) := by rw [hvS.out]; exact sum_lt HX.out.1 HY.out.1 (by rw [N1.out]; exact hle) (by rw [N2.out]; exact hle2)
        have hSl := hS1.1
        have hC := hid fun W (h : At W w1.heap.size 3 (n1 + 1) (ci S)) => impl_cols w1.heap.size (n1 + 1) (n1 + 1) S W hSl (by omega) (by omega) (by omega) (fun d hd => by have := hS.out.2.2 d hd; omega) hlt2 h
        rw [hvS.out] at hC
        clear hS1 hSl hlt2 hjn2
        go_wp2_with fail
        refine (hC.out _ hat).mono ?_
        rintro e w4 ⟨a3, cap3, rfl, hown, hgr3⟩
        have p4 := (q3.out.grown hgr (by simp; omega)).grown hgr3 (by simp; omega)
        have hr := (p4.set (.slice a3 (rx (dg (vl xs + vl ys))).length cap3)).1
        have bf : Below w.heap.size w w4 := (bw.out.grown hgr (by omega) (fun k hk => by simp at hk; omega)).grown hgr3 (by have := hgr.size; omega) (fun k hk => by simp at hk; omega)
        have bf2 := hid (bf.setCell (p := ⟨w.heap.size + 1 + 1, 0, none⟩) (by simp; omega) (.slice a3 (rx (dg (vl xs + vl ys))).length cap3))
        have hown2 := hid ((own_far hown (p := ⟨w.heap.size + 1 + 1, 0, none⟩) (by simp; omega) (.slice a3 (rx (dg (vl xs + vl ys))).length cap3)).mono (show w.heap.size ≤ w1.heap.size by omega))
        obtain ⟨c5, f5, z5⟩ := p4
        clear bf hown hgr hgr3 hat
        go_wp2
        exact bodyPost_ret (v := .tuple #[.agg #[.slice a3 (rx (dg (vl xs + vl ys))).length cap3], .bool (rb (dg (vl xs + vl ys)))]) (by simp [results, Try.results26, go_sem, hr]) rfl ⟨a3, cap3, rfl, hown2.out, bf2.out⟩
end Go.Proofs.Ytanfakpeongfjaa.BigAdd
