/- The walk of law FnBigIntArithmetic. -/
import Derived.Test.YtanfakpeongfjaaBigArithP
import Derived.Test.YtanfakpeongfjaaBigAdd
import Derived.Test.YtanfakpeongfjaaBigAddS
import Derived.Test.YtanfakpeongfjaaBigMulS
import Derived.Test.YtanfakpeongfjaaBigFmt
import Derived.Test.YtanfakpeongfjaaBigCmp
import Derived.Test.YtanfakpeongfjaaDrawMul
import Derived.Test.YtanfakpeongfjaaBig
import Derived.Test.YtanfakpeongfjaaKept
import Derived.Deep.RegionHeld3
import Derived.Deep.DeepCutAuto
namespace Go.Proofs.Ytanfakpeongfjaa.BigArithC
open Go.RowKit
open Go.Proofs.Ytanfakpeongfjaa.Num Go.Proofs.Ytanfakpeongfjaa.IntRow Go.Proofs.Ytanfakpeongfjaa.IntLaw Go.Proofs.Ytanfakpeongfjaa.Dig Go.Proofs.Ytanfakpeongfjaa.BigValid Go.Proofs.Ytanfakpeongfjaa.BigFrom Go.Proofs.Ytanfakpeongfjaa.BigCols Go.Proofs.Ytanfakpeongfjaa.BigMul Go.Proofs.Ytanfakpeongfjaa.BigMulS Go.Proofs.Ytanfakpeongfjaa.BigAdd Go.Proofs.Ytanfakpeongfjaa.BigAddS Go.Proofs.Ytanfakpeongfjaa.BigFmt Go.Proofs.Ytanfakpeongfjaa.BigCmp Go.Proofs.Ytanfakpeongfjaa.DrawMul Go.Proofs.Ytanfakpeongfjaa.Keep Go.Proofs.Ytanfakpeongfjaa.Kept Go.Proofs.Ytanfakpeongfjaa.BigArithP
set_option linter.unusedVariables false

set_option maxRecDepth 100000 in
set_option maxHeartbeats 8000000 in
theorem core (w : World) (sv : Value) (l : List UInt8) (hl : l.length ≤ 1048576) (HCode : RowKit.Hid (Cur.Code w w.heap.size sv l)) (HG : RowKit.Hid (Calls Try.prog 13 #[sv] w fun e w' => e = .returned (.bool false) ∧ w = w'))
    (HD : RowKit.Hid (Calls Try.prog 24 #[sv] w (TwoBigs w))) :
    Calls Try.prog 4 #[sv] w fun e w' => e = .returned (.bool true) ∧ Below w.heap.size w w' := by
  go_enter Try.func4, Try.ntmps4
  go_wp2_with fail
  refine HG.out.mono ?_
  rintro e w0 ⟨rfl, rfl⟩
  go_wp2_with fail
  refine HD.out.mono ?_
  rintro e w1 ⟨xs, ys, aa, ab, capa, capb, rfl, hxl, hyl, Va0, Vb0, hb0⟩
  obtain ⟨P, S, ok, od, hP, hPl, hS, hSl, M1, M2, A1, MS, AS, hrest⟩ := setup xs ys hxl hyl
  have HR := hid hrest
  clear hrest HG HD
  have FIP := hid fun W (a : Option Addr) (cap B : Nat) (h : Rd W B a (ci P)) (hB : B ≤ W.heap.size) => impl_fmt_yes a (ci P).length cap B P W hP (ci_length P).symm (by rw [ci_length]; exact hPl) h hB
  have FSP := hid fun W (a : Option Addr) (cap B : Nat) (h : Rd W B a (ci P)) (hB : B ≤ W.heap.size) => spec_fmt_yes a (ci P).length cap B P W hP (ci_length P).symm (by rw [ci_length]; exact hPl) h hB
  have FIS := hid fun W (a : Option Addr) (cap B : Nat) (h : Rd W B a (ci S)) (hB : B ≤ W.heap.size) => impl_fmt_yes a (ci S).length cap B S W hS (ci_length S).symm (by rw [ci_length]; exact hSl) h hB
  have FSS := hid fun W (a : Option Addr) (cap B : Nat) (h : Rd W B a (ci S)) (hB : B ≤ W.heap.size) => spec_fmt_yes a (ci S).length cap B S W hS (ci_length S).symm (by rw [ci_length]; exact hSl) h hB
  have CP := hid fun W (a a' : Option Addr) (cap cap' B B' : Nat) (h1 : Rd W B a (ci P)) (h2 : Rd W B' a' (ci P)) (hB : B ≤ W.heap.size) (hB' : B' ≤ W.heap.size) => cmp_self P hP hPl W a a' cap cap' B B' h1 h2 hB hB'
  generalize hfp : (⟨(fm P).toArray⟩ : ByteArray) = tp at FIP FSP
  generalize hfs : (⟨(fm S).toArray⟩ : ByteArray) = ts at FIS FSS
  clear hfp hfs hP hPl hS hSl
  have hnb : (ok != ok) = false := by simp
  have hnd : (od != od) = false := by simp
  have B := hid hb0
  have Va := hid Va0
  have Vb := hid Vb0
  clear hb0 Va0 Vb0
  have hz1 := B.out.size
  have O3 := hid ((one_new w1 (.slice aa xs.length capa) 34).alloc (.cells #[(.slice ab ys.length capb)] 34))
  have O4 := hid (one_new (w1.alloc (.cells #[(.slice aa xs.length capa)] 34)) (.slice ab ys.length capb) 34)
  simp only [World.size_alloc] at O4
  replace Va := hid ((Va.out.alloc (.cells #[(.slice aa xs.length capa)] 34)).alloc (.cells #[(.slice ab ys.length capb)] 34))
  replace Vb := hid ((Vb.out.alloc (.cells #[(.slice aa xs.length capa)] 34)).alloc (.cells #[(.slice ab ys.length capb)] 34))
  replace B := hid ((B.out.alloc B.out.size (.cells #[(.slice aa xs.length capa)] 34)).alloc (by simp; omega) (.cells #[(.slice ab ys.length capb)] 34))
  go_wp2_with fail
  refine (M1.out _ _ _ _ _ (own_rd Va.out) (own_rd Vb.out)).mono ?_
  rintro e w2 ⟨ap, cp, rfl, Vp0, hb⟩
  have hsw2 := hb.size
  (try simp only [World.size_alloc] at hsw2)
  replace O3 := hid (O3.out.below' hb)
  replace O4 := hid (O4.out.below' hb)
  replace Va := hid (Va.out.below' hb)
  replace Vb := hid (Vb.out.below' hb)
  replace B := hid (B.out.trans (hb.mono B.out.size))
  clear hb
  have Vp := hid Vp0
  clear Vp0
  obtain ⟨cO3_1, _, zO3_1⟩ := O3.out
  obtain ⟨cO4_1, _, zO4_1⟩ := O4.out
  go_wp2_with fail
  clear cO3_1 zO3_1 cO4_1 zO4_1
  have O5 := hid (one_new w2 (.slice ap (ci P).length cp) 34)
  replace O3 := hid (O3.out.alloc (.cells #[(.slice ap (ci P).length cp)] 34))
  replace O4 := hid (O4.out.alloc (.cells #[(.slice ap (ci P).length cp)] 34))
  replace Va := hid (Va.out.alloc (.cells #[(.slice ap (ci P).length cp)] 34))
  replace Vb := hid (Vb.out.alloc (.cells #[(.slice ap (ci P).length cp)] 34))
  replace Vp := hid (Vp.out.alloc (.cells #[(.slice ap (ci P).length cp)] 34))
  replace B := hid (B.out.alloc B.out.size (.cells #[(.slice ap (ci P).length cp)] 34))
  refine (M2.out _ _ _ _ _ (own_rd Vb.out) (own_rd Va.out)).mono ?_
  rintro e w3 ⟨aq, cq, rfl, Vq0, hb⟩
  have hsw3 := hb.size
  (try simp only [World.size_alloc] at hsw3)
  replace O3 := hid (O3.out.below' hb)
  replace O4 := hid (O4.out.below' hb)
  replace O5 := hid (O5.out.below' hb)
  replace Va := hid (Va.out.below' hb)
  replace Vb := hid (Vb.out.below' hb)
  replace Vp := hid (Vp.out.below' hb)
  replace B := hid (B.out.trans (hb.mono B.out.size))
  clear hb
  have Vq := hid Vq0
  clear Vq0
  obtain ⟨cO3_2, _, zO3_2⟩ := O3.out
  obtain ⟨cO4_2, _, zO4_2⟩ := O4.out
  go_wp2_with fail
  clear cO3_2 zO3_2 cO4_2 zO4_2
  have O7 := hid (one_new w3 (.slice aq (ci P).length cq) 34)
  replace O3 := hid (O3.out.alloc (.cells #[(.slice aq (ci P).length cq)] 34))
  replace O4 := hid (O4.out.alloc (.cells #[(.slice aq (ci P).length cq)] 34))
  replace O5 := hid (O5.out.alloc (.cells #[(.slice aq (ci P).length cq)] 34))
  replace Va := hid (Va.out.alloc (.cells #[(.slice aq (ci P).length cq)] 34))
  replace Vb := hid (Vb.out.alloc (.cells #[(.slice aq (ci P).length cq)] 34))
  replace Vp := hid (Vp.out.alloc (.cells #[(.slice aq (ci P).length cq)] 34))
  replace Vq := hid (Vq.out.alloc (.cells #[(.slice aq (ci P).length cq)] 34))
  replace B := hid (B.out.alloc B.out.size (.cells #[(.slice aq (ci P).length cq)] 34))
  refine (A1.out _ _ _ _ _ (own_rd Va.out) (own_rd Vb.out)).mono ?_
  rintro e w4 ⟨asu, csu, rfl, Vs0, hb⟩
  have hsw4 := hb.size
  (try simp only [World.size_alloc] at hsw4)
  replace O3 := hid (O3.out.below' hb)
  replace O4 := hid (O4.out.below' hb)
  replace O5 := hid (O5.out.below' hb)
  replace O7 := hid (O7.out.below' hb)
  replace Va := hid (Va.out.below' hb)
  replace Vb := hid (Vb.out.below' hb)
  replace Vp := hid (Vp.out.below' hb)
  replace Vq := hid (Vq.out.below' hb)
  replace B := hid (B.out.trans (hb.mono B.out.size))
  clear hb
  have Vs := hid Vs0
  clear Vs0
  obtain ⟨cO3_3, _, zO3_3⟩ := O3.out
  obtain ⟨cO4_3, _, zO4_3⟩ := O4.out
  go_wp2_with fail
  clear cO3_3 zO3_3 cO4_3 zO4_3
  have O9 := hid (one_new w4 (.slice asu (ci S).length csu) 34)
  replace O3 := hid (O3.out.alloc (.cells #[(.slice asu (ci S).length csu)] 34))
  replace O4 := hid (O4.out.alloc (.cells #[(.slice asu (ci S).length csu)] 34))
  replace O5 := hid (O5.out.alloc (.cells #[(.slice asu (ci S).length csu)] 34))
  replace O7 := hid (O7.out.alloc (.cells #[(.slice asu (ci S).length csu)] 34))
  replace Va := hid (Va.out.alloc (.cells #[(.slice asu (ci S).length csu)] 34))
  replace Vb := hid (Vb.out.alloc (.cells #[(.slice asu (ci S).length csu)] 34))
  replace Vp := hid (Vp.out.alloc (.cells #[(.slice asu (ci S).length csu)] 34))
  replace Vq := hid (Vq.out.alloc (.cells #[(.slice asu (ci S).length csu)] 34))
  replace Vs := hid (Vs.out.alloc (.cells #[(.slice asu (ci S).length csu)] 34))
  replace B := hid (B.out.alloc B.out.size (.cells #[(.slice asu (ci S).length csu)] 34))
  refine (MS.out _ _ _ _ _ (own_rd Va.out) (own_rd Vb.out)).mono ?_
  rintro e w5 ⟨ax, cx, rfl, Vx0, hb⟩
  have hsw5 := hb.size
  (try simp only [World.size_alloc] at hsw5)
  replace O3 := hid (O3.out.below' hb)
  replace O4 := hid (O4.out.below' hb)
  replace O5 := hid (O5.out.below' hb)
  replace O7 := hid (O7.out.below' hb)
  replace O9 := hid (O9.out.below' hb)
  replace Va := hid (Va.out.below' hb)
  replace Vb := hid (Vb.out.below' hb)
  replace Vp := hid (Vp.out.below' hb)
  replace Vq := hid (Vq.out.below' hb)
  replace Vs := hid (Vs.out.below' hb)
  replace B := hid (B.out.trans (hb.mono B.out.size))
  clear hb
  have Vx := hid Vx0
  clear Vx0
  obtain ⟨cO3_4, _, zO3_4⟩ := O3.out
  obtain ⟨cO4_4, _, zO4_4⟩ := O4.out
  go_wp2_with fail
  clear cO3_4 zO3_4 cO4_4 zO4_4
  have O11 := hid (one_new w5 (.slice ax (ci P).length cx) 34)
  replace O3 := hid (O3.out.alloc (.cells #[(.slice ax (ci P).length cx)] 34))
  replace O4 := hid (O4.out.alloc (.cells #[(.slice ax (ci P).length cx)] 34))
  replace O5 := hid (O5.out.alloc (.cells #[(.slice ax (ci P).length cx)] 34))
  replace O7 := hid (O7.out.alloc (.cells #[(.slice ax (ci P).length cx)] 34))
  replace O9 := hid (O9.out.alloc (.cells #[(.slice ax (ci P).length cx)] 34))
  replace Va := hid (Va.out.alloc (.cells #[(.slice ax (ci P).length cx)] 34))
  replace Vb := hid (Vb.out.alloc (.cells #[(.slice ax (ci P).length cx)] 34))
  replace Vp := hid (Vp.out.alloc (.cells #[(.slice ax (ci P).length cx)] 34))
  replace Vq := hid (Vq.out.alloc (.cells #[(.slice ax (ci P).length cx)] 34))
  replace Vs := hid (Vs.out.alloc (.cells #[(.slice ax (ci P).length cx)] 34))
  replace Vx := hid (Vx.out.alloc (.cells #[(.slice ax (ci P).length cx)] 34))
  replace B := hid (B.out.alloc B.out.size (.cells #[(.slice ax (ci P).length cx)] 34))
  refine (AS.out _ _ _ _ _ (own_rd Va.out) (own_rd Vb.out)).mono ?_
  rintro e w6 ⟨ay, cy, rfl, Vy0, hb⟩
  have hsw6 := hb.size
  (try simp only [World.size_alloc] at hsw6)
  replace O3 := hid (O3.out.below' hb)
  replace O4 := hid (O4.out.below' hb)
  replace O5 := hid (O5.out.below' hb)
  replace O7 := hid (O7.out.below' hb)
  replace O9 := hid (O9.out.below' hb)
  replace O11 := hid (O11.out.below' hb)
  replace Va := hid (Va.out.below' hb)
  replace Vb := hid (Vb.out.below' hb)
  replace Vp := hid (Vp.out.below' hb)
  replace Vq := hid (Vq.out.below' hb)
  replace Vs := hid (Vs.out.below' hb)
  replace Vx := hid (Vx.out.below' hb)
  replace B := hid (B.out.trans (hb.mono B.out.size))
  clear hb
  have Vy := hid Vy0
  clear Vy0
  have Rp := hid (own_rd Vp.out)
  have Rq := hid (own_rd Vq.out)
  have Rs := hid (own_rd Vs.out)
  have Rx := hid (own_rd Vx.out)
  have Ry := hid (own_rd Vy.out)
  have q5 := (O5.out.alloc (.cells #[(.slice ay (ci S).length cy)] 34)).1
  have zq5 := O5.out.2.2
  have q7 := (O7.out.alloc (.cells #[(.slice ay (ci S).length cy)] 34)).1
  have zq7 := O7.out.2.2
  have q9 := (O9.out.alloc (.cells #[(.slice ay (ci S).length cy)] 34)).1
  have zq9 := O9.out.2.2
  have q11 := (O11.out.alloc (.cells #[(.slice ay (ci S).length cy)] 34)).1
  have zq11 := O11.out.2.2
  obtain ⟨cO5_5, _, zO5_5⟩ := O5.out
  obtain ⟨cO7_5, _, zO7_5⟩ := O7.out
  obtain ⟨cO9_5, _, zO9_5⟩ := O9.out
  obtain ⟨cO11_5, _, zO11_5⟩ := O11.out
  have q13 := (one_new w6 (.slice ay (ci S).length cy) 34).1
  have hk6 : Kp w6 1 (w6.alloc (.cells #[(.slice ay (ci S).length cy)] 34)) := ⟨by simp, (Below.refl _ _).alloc (Nat.le_refl _) _⟩
  go_upto_region 9 with fail
  go_cut [90] (fun s wx => s = .bool false ∧ Kp w6 1 wx)
  case first =>
    go_region_held3 (fun w' => w'.cell? ⟨w2.heap.size, 0, none⟩ = some (.slice ap (ci P).length cp) ∧ w'.cell? ⟨w3.heap.size, 0, none⟩ = some (.slice aq (ci P).length cq) ∧ w'.cell? ⟨w4.heap.size, 0, none⟩ = some (.slice asu (ci S).length csu) ∧ w'.cell? ⟨w5.heap.size, 0, none⟩ = some (.slice ax (ci P).length cx) ∧ w'.cell? ⟨w6.heap.size, 0, none⟩ = some (.slice ay (ci S).length cy) ∧ Kp w6 1 w')
      (first
        | (go_split_ands
           repeat' apply And.intro
           all_goals (first | (with_reducible assumption) | (with_reducible exact cell_drew (by assumption)) | (with_reducible exact Kp.drew (by assumption)) | (with_reducible exact Kp.cell (by assumption) hb1 (by omega) (by assumption)) | (with_reducible exact Kp.call (by assumption) hb1) | (with_reducible exact Kp.cell_alloc (by assumption) _ (by omega) (by assumption)) | (with_reducible exact Kp.alloc (by assumption) _) | (with_reducible exact Kp.cell_alloc_drew (by assumption) _ (by omega) (by assumption)) | (with_reducible exact Kp.alloc_drew (by assumption) _) | (with_reducible exact Kp.reall (by assumption) (by omega) _) | (with_reducible exact cell_realloc (by omega) (by assumption) _) | (with_reducible exact cell_set1 (by assumption) (by omega)) | (with_reducible exact Kept.Kp.set1 (by assumption) (by omega) _))))
      (first | (go_split_ands; go_at_call 29; (with_reducible refine (CP.out _ ap aq cp cq w6.heap.size w6.heap.size (rd_kp Rp.out (by with_reducible assumption) (Nat.le_refl _)) (rd_kp Rq.out (by with_reducible assumption) (Nat.le_refl _)) (kp_le (by with_reducible assumption) (Nat.le_refl _)) (kp_le (by with_reducible assumption) (Nat.le_refl _))).mono ?_); rintro e wF ⟨rfl, hb1⟩) | (go_split_ands; go_at_call 30; (with_reducible refine (FIP.out _ ap cp w6.heap.size (rd_kp Rp.out (by with_reducible assumption) (Nat.le_refl _)) (kp_le (by with_reducible assumption) (Nat.le_refl _))).mono ?_); rintro e wF ⟨rfl, hb1⟩) | (go_split_ands; go_at_call 30; (with_reducible refine (FIS.out _ asu csu w6.heap.size (rd_kp Rs.out (by with_reducible assumption) (Nat.le_refl _)) (kp_le (by with_reducible assumption) (Nat.le_refl _))).mono ?_); rintro e wF ⟨rfl, hb1⟩) | (go_split_ands; go_at_call 31; (with_reducible refine (FSP.out _ ax cx w6.heap.size (rd_kp Rx.out (by with_reducible assumption) (Nat.le_refl _)) (kp_le (by with_reducible assumption) (Nat.le_refl _))).mono ?_); rintro e wF ⟨rfl, hb1⟩) | (go_split_ands; go_at_call 31; (with_reducible refine (FSS.out _ ay cy w6.heap.size (rd_kp Ry.out (by with_reducible assumption) (Nat.le_refl _)) (kp_le (by with_reducible assumption) (Nat.le_refl _))).mono ?_); rintro e wF ⟨rfl, hb1⟩))
    all_goals
      go_wp2_with fail
      go_meet
      go_split_ands
      exact ⟨rfl, by with_reducible assumption⟩
  case rest =>
    obtain ⟨rfl, hk⟩ := hcut
    obtain ⟨w7, rfl⟩ : ∃ wo : World, wo = wc := ⟨_, rfl⟩
    have hb := hk.bel
    clear hk hk6 q5 q7 q9 q11 q13 FIP FSP FIS FSS CP Rp Rq Rs Rx Ry hnb hnd M1 M2 A1 MS AS O4 O5 O7 O11 Vb Vp Vq Vx Vy
    replace O3 := hid (O3.out.below' hb)
    replace O9 := hid (O9.out.below' hb)
    replace Va := hid (Va.out.below' hb)
    replace Vs := hid (Vs.out.below' hb)
    replace B := hid (B.out.trans (hb.mono B.out.size))
    clear hb
    have HC7 := hid (HCode.out.below B.out (Nat.le_refl _))
    go_wp2_with fail
    refine (at_any 0 (by omega) sv l _ _ hl HC7.out).mono ?_
    rintro e wz ⟨m, hm, rfl, rfl⟩
    go_wp2_with fail
    refine (at_any 1 (by omega) sv l _ _ hl HC7.out).mono ?_
    rintro e wz ⟨x1, hx1, rfl, rfl⟩
    obtain ⟨n, hne⟩ : ∃ n : Nat, Hid (x1 * 77 = n) := ⟨_, hid rfl⟩
    have hn : n ≤ 20000 := by have := hne.out; omega
    have e1 : (x1 : Int) * 77 = (n : Int) := by have := hne.out; omega
    have hx1i : (x1 : Int) ≤ 255 := by omega
    obtain ⟨mn, hmn⟩ : ∃ q : Nat, Hid (m * n = q) := ⟨_, hid rfl⟩
    have hmn2 : mn ≤ 5100000 := by rw [← hmn.out]; exact Nat.mul_le_mul hm hn
    have e2 : (m : Int) * (n : Int) = (mn : Int) := by rw [← hmn.out]; simp
    have dm : (dg m).length ≤ 60 := by have := dg_len m (by omega); omega
    have dn : (dg n).length ≤ 60 := by have := dg_len n (by omega); omega
    have dmn : (dg mn).length ≤ 60 := by have := dg_len mn (by omega); omega
    have ds : (dg (m + n)).length ≤ 60 := by have := dg_len (m + n) (by omega); omega
    have Fm := hid fun W => impl_from (m : Int) W (by omega)
    rw [show ((m : Int)).toNat = m by omega] at Fm
    have Fn := hid fun W => impl_from (n : Int) W (by omega)
    rw [show ((n : Int)).toNat = n by omega] at Fn
    have Gmn := hid fun W => spec_from (mn : Int) W (by omega)
    rw [show ((mn : Int)).toNat = mn by omega] at Gmn
    have Gs := hid fun W => spec_from ((m : Int) + (n : Int)) W (by omega)
    rw [show (((m : Int) + (n : Int))).toNat = m + n by omega] at Gs
    have U := hid fun W (a a' : Option Addr) (cap cap' : Nat) (h1 : Rd W W.heap.size a (ci (dg m))) (h2 : Rd W W.heap.size a' (ci (dg n))) => mul_small a a' cap cap' m n mn W hmn.out dm dn dmn h1 h2
    have A := hid fun W (a a' : Option Addr) (cap cap' : Nat) (h1 : Rd W W.heap.size a (ci (dg m))) (h2 : Rd W W.heap.size a' (ci (dg n))) => add_small a a' cap cap' m n W dm dn ds h1 h2
    have I1 := hid fun W (a : Option Addr) (cap : Nat) (h : Rd W W.heap.size a (ci (dg mn))) => impl_fmt_yes a (ci (dg mn)).length cap _ (dg mn) W (norm_dg _) (ci_length _).symm (by rw [ci_length]; exact dmn) h (Nat.le_refl _)
    have I2 := hid fun W (a : Option Addr) (cap : Nat) (h : Rd W W.heap.size a (ci (dg (m + n)))) => impl_fmt_yes a (ci (dg (m + n))).length cap _ (dg (m + n)) W (norm_dg _) (ci_length _).symm (by rw [ci_length]; exact ds) h (Nat.le_refl _)
    have S1 := hid fun W (a : Option Addr) (cap : Nat) (h : Rd W W.heap.size a (ci (dg mn))) => spec_fmt_yes a (ci (dg mn)).length cap _ (dg mn) W (norm_dg _) (ci_length _).symm (by rw [ci_length]; exact dmn) h (Nat.le_refl _)
    have S2 := hid fun W (a : Option Addr) (cap : Nat) (h : Rd W W.heap.size a (ci (dg (m + n)))) => spec_fmt_yes a (ci (dg (m + n))).length cap _ (dg (m + n)) W (norm_dg _) (ci_length _).symm (by rw [ci_length]; exact ds) h (Nat.le_refl _)
    generalize h1g : (⟨(fm (dg mn)).toArray⟩ : ByteArray) = t1 at I1 S1
    generalize h2g : (⟨(fm (dg (m + n))).toArray⟩ : ByteArray) = t2 at I2 S2
    obtain ⟨cc, hcc⟩ : ∃ cc : Int, Hid (sg (m : Int) (n : Int) = cc) := ⟨_, hid rfl⟩
    have CM := hid fun W (a a' : Option Addr) (cap cap' : Nat) (h1 : Rd W W.heap.size a (ci (dg m))) (h2 : Rd W W.heap.size a' (ci (dg n))) => cmp_dg a a' cap cap' m n cc W dm dn hcc.out h1 h2
    have hmi : (m : Int) ≤ 255 := by omega
    have hni : (n : Int) ≤ 20000 := by omega
    clear h1g h2g
    go_wp2_with fail
    refine (Fm.out _).mono ?_
    rintro e w8 ⟨a1, c1, rfl, F10, hb⟩
    replace O3 := hid (O3.out.below' hb)
    replace O9 := hid (O9.out.below' hb)
    replace Va := hid (Va.out.below' hb)
    replace Vs := hid (Vs.out.below' hb)
    replace B := hid (B.out.trans (hb.mono B.out.size))
    clear hb
    have F1 := hid F10
    clear F10
    go_wp2_with fail
    refine (Fn.out _).mono ?_
    rintro e w9 ⟨a2, c2, rfl, F20, hb⟩
    replace O3 := hid (O3.out.below' hb)
    replace O9 := hid (O9.out.below' hb)
    replace Va := hid (Va.out.below' hb)
    replace Vs := hid (Vs.out.below' hb)
    replace F1 := hid (F1.out.below' hb)
    replace B := hid (B.out.trans (hb.mono B.out.size))
    clear hb
    have F2 := hid F20
    clear F20
    go_wp2_with fail
    refine (U.out _ _ _ _ _ (own_rd F1.out) (own_rd F2.out)).mono ?_
    rintro e w10 ⟨au, cu, rfl, U0, hb⟩
    clear F1 F2
    replace O3 := hid (O3.out.below' hb)
    replace O9 := hid (O9.out.below' hb)
    replace Va := hid (Va.out.below' hb)
    replace Vs := hid (Vs.out.below' hb)
    replace B := hid (B.out.trans (hb.mono B.out.size))
    clear hb
    have Vu := hid U0
    clear U0
    go_wp2_with fail
    have O17 := hid (one_new w10 (.slice au (ci (dg mn)).length cu) 34)
    replace O3 := hid (O3.out.alloc (.cells #[(.slice au (ci (dg mn)).length cu)] 34))
    replace O9 := hid (O9.out.alloc (.cells #[(.slice au (ci (dg mn)).length cu)] 34))
    replace Va := hid (Va.out.alloc (.cells #[(.slice au (ci (dg mn)).length cu)] 34))
    replace Vs := hid (Vs.out.alloc (.cells #[(.slice au (ci (dg mn)).length cu)] 34))
    replace Vu := hid (Vu.out.alloc (.cells #[(.slice au (ci (dg mn)).length cu)] 34))
    replace B := hid (B.out.alloc B.out.size (.cells #[(.slice au (ci (dg mn)).length cu)] 34))
    refine (Fm.out _).mono ?_
    rintro e w11 ⟨a1, c1, rfl, F10, hb⟩
    replace O3 := hid (O3.out.below' hb)
    replace O9 := hid (O9.out.below' hb)
    replace O17 := hid (O17.out.below' hb)
    replace Va := hid (Va.out.below' hb)
    replace Vs := hid (Vs.out.below' hb)
    replace Vu := hid (Vu.out.below' hb)
    replace B := hid (B.out.trans (hb.mono B.out.size))
    clear hb
    have F1 := hid F10
    clear F10
    go_wp2_with fail
    refine (Fn.out _).mono ?_
    rintro e w12 ⟨a2, c2, rfl, F20, hb⟩
    replace O3 := hid (O3.out.below' hb)
    replace O9 := hid (O9.out.below' hb)
    replace O17 := hid (O17.out.below' hb)
    replace Va := hid (Va.out.below' hb)
    replace Vs := hid (Vs.out.below' hb)
    replace Vu := hid (Vu.out.below' hb)
    replace F1 := hid (F1.out.below' hb)
    replace B := hid (B.out.trans (hb.mono B.out.size))
    clear hb
    have F2 := hid F20
    clear F20
    go_wp2_with fail
    refine (A.out _ _ _ _ _ (own_rd F1.out) (own_rd F2.out)).mono ?_
    rintro e w13 ⟨av, cv, rfl, U0, hb⟩
    clear F1 F2
    replace O3 := hid (O3.out.below' hb)
    replace O9 := hid (O9.out.below' hb)
    replace O17 := hid (O17.out.below' hb)
    replace Va := hid (Va.out.below' hb)
    replace Vs := hid (Vs.out.below' hb)
    replace Vu := hid (Vu.out.below' hb)
    replace B := hid (B.out.trans (hb.mono B.out.size))
    clear hb
    have Vv := hid U0
    clear U0
    obtain ⟨cO17_6, _, zO17_6⟩ := O17.out
    go_wp2_with fail
    clear cO17_6 zO17_6
    have O19 := hid (one_new w13 (.slice av (ci (dg (m + n))).length cv) 34)
    replace O3 := hid (O3.out.alloc (.cells #[(.slice av (ci (dg (m + n))).length cv)] 34))
    replace O9 := hid (O9.out.alloc (.cells #[(.slice av (ci (dg (m + n))).length cv)] 34))
    replace O17 := hid (O17.out.alloc (.cells #[(.slice av (ci (dg (m + n))).length cv)] 34))
    replace Va := hid (Va.out.alloc (.cells #[(.slice av (ci (dg (m + n))).length cv)] 34))
    replace Vs := hid (Vs.out.alloc (.cells #[(.slice av (ci (dg (m + n))).length cv)] 34))
    replace Vu := hid (Vu.out.alloc (.cells #[(.slice av (ci (dg (m + n))).length cv)] 34))
    replace Vv := hid (Vv.out.alloc (.cells #[(.slice av (ci (dg (m + n))).length cv)] 34))
    replace B := hid (B.out.alloc B.out.size (.cells #[(.slice av (ci (dg (m + n))).length cv)] 34))
    refine (I1.out _ _ _ (own_rd Vu.out)).mono ?_
    rintro e w14 ⟨rfl, hb⟩
    replace O3 := hid (O3.out.below' hb)
    replace O9 := hid (O9.out.below' hb)
    replace O17 := hid (O17.out.below' hb)
    replace O19 := hid (O19.out.below' hb)
    replace Va := hid (Va.out.below' hb)
    replace Vs := hid (Vs.out.below' hb)
    replace Vu := hid (Vu.out.below' hb)
    replace Vv := hid (Vv.out.below' hb)
    replace B := hid (B.out.trans (hb.mono B.out.size))
    clear hb
    go_wp2_with fail
    refine (Gmn.out _).mono ?_
    rintro e w15 ⟨a1, c1, rfl, F10, hb⟩
    replace O3 := hid (O3.out.below' hb)
    replace O9 := hid (O9.out.below' hb)
    replace O17 := hid (O17.out.below' hb)
    replace O19 := hid (O19.out.below' hb)
    replace Va := hid (Va.out.below' hb)
    replace Vs := hid (Vs.out.below' hb)
    replace Vu := hid (Vu.out.below' hb)
    replace Vv := hid (Vv.out.below' hb)
    replace B := hid (B.out.trans (hb.mono B.out.size))
    clear hb
    have F1 := hid F10
    clear F10
    go_wp2_with fail
    refine (S1.out _ _ _ (own_rd F1.out)).mono ?_
    rintro e w16 ⟨rfl, hb⟩
    clear F1
    replace O3 := hid (O3.out.below' hb)
    replace O9 := hid (O9.out.below' hb)
    replace O17 := hid (O17.out.below' hb)
    replace O19 := hid (O19.out.below' hb)
    replace Va := hid (Va.out.below' hb)
    replace Vs := hid (Vs.out.below' hb)
    replace Vu := hid (Vu.out.below' hb)
    replace Vv := hid (Vv.out.below' hb)
    replace B := hid (B.out.trans (hb.mono B.out.size))
    clear hb
    obtain ⟨cO19_7, _, zO19_7⟩ := O19.out
    go_wp2_with fail
    refine (I2.out _ _ _ (own_rd Vv.out)).mono ?_
    rintro e w17 ⟨rfl, hb⟩
    clear cO19_7 zO19_7
    replace O3 := hid (O3.out.below' hb)
    replace O9 := hid (O9.out.below' hb)
    replace O17 := hid (O17.out.below' hb)
    replace O19 := hid (O19.out.below' hb)
    replace Va := hid (Va.out.below' hb)
    replace Vs := hid (Vs.out.below' hb)
    replace Vu := hid (Vu.out.below' hb)
    replace Vv := hid (Vv.out.below' hb)
    replace B := hid (B.out.trans (hb.mono B.out.size))
    clear hb
    go_wp2_with fail
    refine (Gs.out _).mono ?_
    rintro e w18 ⟨a1, c1, rfl, F10, hb⟩
    replace O3 := hid (O3.out.below' hb)
    replace O9 := hid (O9.out.below' hb)
    replace O17 := hid (O17.out.below' hb)
    replace O19 := hid (O19.out.below' hb)
    replace Va := hid (Va.out.below' hb)
    replace Vs := hid (Vs.out.below' hb)
    replace Vu := hid (Vu.out.below' hb)
    replace Vv := hid (Vv.out.below' hb)
    replace B := hid (B.out.trans (hb.mono B.out.size))
    clear hb
    have F1 := hid F10
    clear F10
    go_wp2_with fail
    refine (S2.out _ _ _ (own_rd F1.out)).mono ?_
    rintro e w19 ⟨rfl, hb⟩
    clear F1
    replace O3 := hid (O3.out.below' hb)
    replace O9 := hid (O9.out.below' hb)
    replace O17 := hid (O17.out.below' hb)
    replace O19 := hid (O19.out.below' hb)
    replace Va := hid (Va.out.below' hb)
    replace Vs := hid (Vs.out.below' hb)
    replace Vu := hid (Vu.out.below' hb)
    replace Vv := hid (Vv.out.below' hb)
    replace B := hid (B.out.trans (hb.mono B.out.size))
    clear hb
    go_wp2_with fail
    refine (Fm.out _).mono ?_
    rintro e w20 ⟨a1, c1, rfl, F10, hb⟩
    replace O3 := hid (O3.out.below' hb)
    replace O9 := hid (O9.out.below' hb)
    replace O17 := hid (O17.out.below' hb)
    replace O19 := hid (O19.out.below' hb)
    replace Va := hid (Va.out.below' hb)
    replace Vs := hid (Vs.out.below' hb)
    replace Vu := hid (Vu.out.below' hb)
    replace Vv := hid (Vv.out.below' hb)
    replace B := hid (B.out.trans (hb.mono B.out.size))
    clear hb
    have F1 := hid F10
    clear F10
    go_wp2_with fail
    refine (Fn.out _).mono ?_
    rintro e w21 ⟨a2, c2, rfl, F20, hb⟩
    replace O3 := hid (O3.out.below' hb)
    replace O9 := hid (O9.out.below' hb)
    replace O17 := hid (O17.out.below' hb)
    replace O19 := hid (O19.out.below' hb)
    replace Va := hid (Va.out.below' hb)
    replace Vs := hid (Vs.out.below' hb)
    replace Vu := hid (Vu.out.below' hb)
    replace Vv := hid (Vv.out.below' hb)
    replace F1 := hid (F1.out.below' hb)
    replace B := hid (B.out.trans (hb.mono B.out.size))
    clear hb
    have F2 := hid F20
    clear F20
    go_wp2_with fail
    refine (CM.out _ _ _ _ _ (own_rd F1.out) (own_rd F2.out)).mono ?_
    rintro e w22 ⟨rfl, hb⟩
    clear F1 F2
    replace O3 := hid (O3.out.below' hb)
    replace O9 := hid (O9.out.below' hb)
    replace O17 := hid (O17.out.below' hb)
    replace O19 := hid (O19.out.below' hb)
    replace Va := hid (Va.out.below' hb)
    replace Vs := hid (Vs.out.below' hb)
    replace Vu := hid (Vu.out.below' hb)
    replace Vv := hid (Vv.out.below' hb)
    replace B := hid (B.out.trans (hb.mono B.out.size))
    clear hb
    by_cases hlt : (m : Int) < (n : Int)
    · have hc1 : cc < 0 := by rw [← hcc.out, sg_lt hlt]; decide
      rcases HR.out with hod | ⟨hod, ⟨c, hc0, HCC⟩, HVV⟩
      · subst hod
        go_wp2_with fail
        go_ret
        exact ⟨rfl, B.out⟩
      · subst hod
        obtain ⟨cO3_8, _, zO3_8⟩ := O3.out
        go_wp2_with fail
        refine (HVV.out _ _ _ (own_rd Va.out)).mono ?_
        rintro e w23 ⟨rfl, hb⟩
        clear cO3_8 zO3_8
        replace O3 := hid (O3.out.below' hb)
        replace O9 := hid (O9.out.below' hb)
        replace O17 := hid (O17.out.below' hb)
        replace O19 := hid (O19.out.below' hb)
        replace Va := hid (Va.out.below' hb)
        replace Vs := hid (Vs.out.below' hb)
        replace Vu := hid (Vu.out.below' hb)
        replace Vv := hid (Vv.out.below' hb)
        replace B := hid (B.out.trans (hb.mono B.out.size))
        clear hb
        obtain ⟨cO3_9, _, zO3_9⟩ := O3.out
        obtain ⟨cO9_9, _, zO9_9⟩ := O9.out
        go_wp2_with fail
        refine (HCC.out _ _ _ _ _ (own_rd Vs.out) (own_rd Va.out)).mono ?_
        rintro e w24 ⟨rfl, hb⟩
        clear cO3_9 zO3_9 cO9_9 zO9_9
        replace O3 := hid (O3.out.below' hb)
        replace O9 := hid (O9.out.below' hb)
        replace O17 := hid (O17.out.below' hb)
        replace O19 := hid (O19.out.below' hb)
        replace Va := hid (Va.out.below' hb)
        replace Vs := hid (Vs.out.below' hb)
        replace Vu := hid (Vu.out.below' hb)
        replace Vv := hid (Vv.out.below' hb)
        replace B := hid (B.out.trans (hb.mono B.out.size))
        clear hb
        go_wp2_with fail
        go_ret
        exact ⟨rfl, B.out⟩
    · have hc1 : ¬ cc < 0 := by have h := sg_neg (m : Int) (n : Int); rw [hcc.out, decide_eq_false hlt] at h; exact of_decide_eq_false h.symm
      rcases HR.out with hod | ⟨hod, ⟨c, hc0, HCC⟩, HVV⟩
      · subst hod
        go_wp2_with fail
        go_ret
        exact ⟨rfl, B.out⟩
      · subst hod
        obtain ⟨cO3_10, _, zO3_10⟩ := O3.out
        go_wp2_with fail
        refine (HVV.out _ _ _ (own_rd Va.out)).mono ?_
        rintro e w23 ⟨rfl, hb⟩
        clear cO3_10 zO3_10
        replace O3 := hid (O3.out.below' hb)
        replace O9 := hid (O9.out.below' hb)
        replace O17 := hid (O17.out.below' hb)
        replace O19 := hid (O19.out.below' hb)
        replace Va := hid (Va.out.below' hb)
        replace Vs := hid (Vs.out.below' hb)
        replace Vu := hid (Vu.out.below' hb)
        replace Vv := hid (Vv.out.below' hb)
        replace B := hid (B.out.trans (hb.mono B.out.size))
        clear hb
        obtain ⟨cO3_11, _, zO3_11⟩ := O3.out
        obtain ⟨cO9_11, _, zO9_11⟩ := O9.out
        go_wp2_with fail
        refine (HCC.out _ _ _ _ _ (own_rd Vs.out) (own_rd Va.out)).mono ?_
        rintro e w24 ⟨rfl, hb⟩
        clear cO3_11 zO3_11 cO9_11 zO9_11
        replace O3 := hid (O3.out.below' hb)
        replace O9 := hid (O9.out.below' hb)
        replace O17 := hid (O17.out.below' hb)
        replace O19 := hid (O19.out.below' hb)
        replace Va := hid (Va.out.below' hb)
        replace Vs := hid (Vs.out.below' hb)
        replace Vu := hid (Vu.out.below' hb)
        replace Vv := hid (Vv.out.below' hb)
        replace B := hid (B.out.trans (hb.mono B.out.size))
        clear hb
        go_wp2_with fail
        go_ret
        exact ⟨rfl, B.out⟩
end Go.Proofs.Ytanfakpeongfjaa.BigArithC
