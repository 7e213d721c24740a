/- Products of a matrix and a vector: the program's function and the model's. -/
import Derived.Test.YtjnphlgmmjdeiaaDot
import Derived.Test.YtjnphlgmmjdeiaaRatsSS
namespace Go.Proofs.Ytjnphlgmmjdeiaa.Mvp
open Go.RowKit
open Go.Proofs.Ytjnphlgmmjdeiaa.Num Go.Proofs.Ytjnphlgmmjdeiaa.IntRow Go.Proofs.Ytjnphlgmmjdeiaa.GridMore Go.Proofs.Ytjnphlgmmjdeiaa.Rdr Go.Proofs.Ytjnphlgmmjdeiaa.HasL Go.Proofs.Ytjnphlgmmjdeiaa.Rat Go.Proofs.Ytjnphlgmmjdeiaa.RatLaw Go.Proofs.Ytjnphlgmmjdeiaa.Rats Go.Proofs.Ytjnphlgmmjdeiaa.RatRow Go.Proofs.Ytjnphlgmmjdeiaa.RatOwn Go.Proofs.Ytjnphlgmmjdeiaa.GridQ Go.Proofs.Ytjnphlgmmjdeiaa.RatsSS Go.Proofs.Ytjnphlgmmjdeiaa.Smq Go.Proofs.Ytjnphlgmmjdeiaa.SmqI Go.Proofs.Ytjnphlgmmjdeiaa.Qops Go.Proofs.Ytjnphlgmmjdeiaa.LinP Go.Proofs.Ytjnphlgmmjdeiaa.Dot Go.Proofs.Ytjnphlgmmjdeiaa.Keep Go.Proofs.Ytjnphlgmmjdeiaa.Kept Go.Proofs.Ytjnphlgmmjdeiaa.Cells
set_option linter.unusedVariables false

/-- A list of n, the first of which are o. -/
def padQ (n : Nat) (o : List RatD) : List RatD := o ++ List.replicate (n - o.length) (0, 0)
theorem padQ_nil (n : Nat) : padQ n [] = List.replicate n (0, 0) := by simp [padQ]
theorem padQ_len {n : Nat} {o : List RatD} (h : o.length ≤ n) : (padQ n o).length = n := by simp [padQ]; omega
theorem padQ_step {n : Nat} {o : List RatD} (h : o.length < n) (r : RatD) : (padQ n o).set o.length r = padQ n (o ++ [r]) := by
  unfold padQ
  rw [List.set_append_right _ _ (Nat.le_refl _), Nat.sub_self, List.length_append, List.length_singleton, show n - o.length = (n - (o.length + 1)) + 1 by omega, List.replicate_succ, List.set_cons_zero, List.append_assoc]
  rfl
theorem padQ_all {n : Nat} {o : List RatD} (h : o.length = n) : padQ n o = o := by simp [padQ, h]

set_option maxRecDepth 100000 in
set_option maxHeartbeats 1000000 in
theorem impl_mv (a b : Option Addr) (cap capv : Nat) (xss : MatD) (v : List RatD) (lo hi lo' hi' : Nat) (w : World) (hn : xss.length ≤ 1048576) (hR : Hid (∀ j (hj : j < xss.length), xss[j].length ≤ 1048576)) (h : Els 1 rRow2 w lo hi a xss) (h' : Els 2 rRat w lo' hi' b v) (hh : hi ≤ w.heap.size) (hh' : hi' ≤ w.heap.size) :
    Calls Try.prog 19 #[.slice a xss.length cap, .slice b v.length capv] w fun e w' => ∃ a0 c0, e = .returned (.tuple #[.slice a0 (lstO (mvQ xss v)).length c0, .bool (okO (mvQ xss v))]) ∧ OwnQ w' w.heap.size tR (.slice a0 (lstO (mvQ xss v)).length c0) (lstO (mvQ xss v)) ∧ Below w.heap.size w w' := by
  obtain ⟨i0, hi0, hz0, hz1, hz2⟩ := info_parts infoRat
  have hmk := make_k (P := Try.prog) w 25 35 i0 _ 2 16 Try.underlying25 hi0 hz0 hz1 hz2 (by omega) xss.length hn
  have hat0 := hid (ownq_made w 35 xss.length hn)
  have HB0 := hid ((Below.refl w.heap.size w).alloc (Nat.le_refl _) (.cells (madeCells (Value.cells (.agg #[.int .i64 0, .int .i64 0])) (xss.length * 2)) 35))
  go_enter Try.func19, Try.ntmps19
  go_wp2_with fail
  go_loopw [7, 8, 9, 10, 16] (fun _ _ _ _ i wr => ∃ (k : Nat) (o : List RatD), k ≤ xss.length ∧ i = .int .i64 k ∧ Hid (mv xss v k = some o) ∧ Hid (OwnQ wr w.heap.size 35 (.slice (some ⟨w.heap.size, 0, none⟩) xss.length xss.length) (padQ xss.length o)) ∧ Hid (Below w.heap.size w wr) ∧ w.heap.size < wr.heap.size) (fun _ _ _ _ i _ => xss.length - (intOf i).toNat)
  case atStart => exact ⟨0, [], Nat.zero_le _, rfl, hid rfl, hid (by rw [padQ_nil]; exact hat0.out), HB0, by simp⟩
  case round =>
    obtain ⟨k, o, hk, rfl, hmv, hown, hb, hwl⟩ := hrel
    clear hmk hat0 HB0
    have hol := hid (mv_len hmv.out)
    by_cases hlt : k < xss.length
    · obtain ⟨b1, off, aj, capj, rfl, _, hbB, g, rx, _, _⟩ := mat_at (h.grow good_row2 hb.out hh) k hlt
      have hrow := hR.out k hlt
      have rv := h'.grow good_rat hb.out hh'
      have hsz := hb.out.size
      have A := hid (impl_dot aj b capj capv xss[k] v lo hi lo' hi' wr (by omega) rx rv (by omega) (by omega))
      have hst := mv_step hmv.out hlt
      have HO1 := hid hst.1
      have HO0 := hid hst.2
      have hib := hid (dotQ_ib xss[k] v)
      simp only [endQ_any] at A
      generalize fstQ (dotQ xss[k] v) = X at A HO1 HO0 hib
      generalize sndQ (dotQ xss[k] v) = Y at A HO1 HO0 hib
      generalize okQ (dotQ xss[k] v) = ok at A HO1 HO0
      have hlt' : (k : Int) < (xss.length : Int) := by omega
      have h0' : (0 : Int) ≤ (k : Int) := by omega
      clear h h' rx rv hst hrow
      go_wp2_with fail
      with_reducible refine A.out.mono ?_
      rintro e w1 ⟨rfl, hb1⟩
      have s1 := hb1.size
      have N1 := hid (hasl_new w1 [.int .i64 X, .int .i64 Y] 35)
      have B1 := hid ((hb.out.trans (hb1.mono (Nat.le_of_lt hwl))).alloc (by omega) (.cells #[.int .i64 X, .int .i64 Y] 35))
      have O1 := hid ((hown.out.below' hb1).alloc (.cells #[.int .i64 X, .int .i64 Y] 35))
      obtain ⟨n0, n1, n2, n3, n4⟩ := N1.out.two
      clear hb1 hown hb A
      cases ok with
      | false =>
        have HN := hid (show mvQ xss v = none from mv_none (HO0.out (by first | rfl | trivial)) (show k + 1 ≤ xss.length by omega))
        clear HO0 HO1 hmv hol
        go_wp2_with fail
        go_ret2
        exact ⟨none, 0, by rw [HN.out]; rfl, by rw [HN.out]; exact OwnQ.nil _ _ _, B1.out⟩
      | true =>
        have HM := hid (HO1.out (by first | rfl | trivial))
        have hpl := hid (padQ_len (n := xss.length) (o := o) (by rw [hol.out]; omega))
        have hce := ownr_at hpl.out.symm (show (w1.alloc (.cells #[.int .i64 X, .int .i64 Y] 35)).ownsRow w.heap.size 35 2 (.slice (some ⟨w.heap.size, 0, none⟩) xss.length xss.length) xss.length (fr (padQ xss.length o)) by have := O1.out.1; unfold OwnR at this; rw [hpl.out] at this; exact this) k (by rw [hpl.out]; exact hlt)
        obtain ⟨u0, e0⟩ : ∃ u, (w1.alloc (.cells #[.int .i64 X, .int .i64 Y] 35)).cell? ⟨w.heap.size, k * 2, none⟩ = some u := ⟨_, hce.1⟩
        obtain ⟨u1, e1⟩ : ∃ u, (w1.alloc (.cells #[.int .i64 X, .int .i64 Y] 35)).cell? ⟨w.heap.size, k * 2 + 1, none⟩ = some u := ⟨_, hce.2⟩
        clear hce
        have f0 := ownq_free O1.out (k * 2)
        have f1 := ownq_free O1.out (k * 2 + 1)
        have hst := ownq_set O1.out k (by rw [hpl.out]; exact hlt) (X, Y) hib.out
        have hps := padQ_step (n := xss.length) (o := o) (by rw [hol.out]; exact hlt) (X, Y)
        rw [hol.out] at hps
        rw [hps] at hst
        have HO := hid hst
        have HB := hid ((B1.out.setCell (p := ⟨w.heap.size, k * 2, none⟩) (Nat.le_refl _) (.int .i64 X)).setCell (p := ⟨w.heap.size, k * 2 + 1, none⟩) (Nat.le_refl _) (.int .i64 Y))
        have hwl2 : w.heap.size < (((w1.alloc (.cells #[.int .i64 X, .int .i64 Y] 35)).setCell ⟨w.heap.size, k * 2, none⟩ (.int .i64 X)).setCell ⟨w.heap.size, k * 2 + 1, none⟩ (.int .i64 Y)).heap.size := by simp; omega
        clear HO0 HO1 hmv hol O1 hst hps hpl hib
        go_wp2_with fail
        go_roundw
        case rel => exact ⟨k + 1, _, by omega, by go_num, HM, HO, HB, hwl2⟩
        case measure => simp [intOf]; omega
    · have e : k = xss.length := by omega
      subst e
      have HE := hown.out
      rw [padQ_all hol.out] at HE
      have hol2 := hol.out
      have HE2 := hid (show OwnQ wr w.heap.size 35 (.slice (some ⟨w.heap.size, 0, none⟩) o.length xss.length) o by rw [hol2]; exact HE)
      have HM := hid (show mvQ xss v = some o from hmv.out)
      have HL := hid hol2
      clear h h' hown HE hol hol2 hmv
      go_wp2_with fail
      go_ret2
      exact ⟨some ⟨w.heap.size, 0, none⟩, xss.length, by rw [HM.out]; simp [lstO, okO, HL.out], by rw [HM.out]; exact HE2.out, hb.out⟩

set_option maxRecDepth 100000 in
set_option maxHeartbeats 1000000 in
theorem spec_mv (a b : Option Addr) (cap capv : Nat) (xss : MatD) (v : List RatD) (lo hi lo' hi' : Nat) (w : World) (hn : xss.length ≤ 1048576) (hR : Hid (∀ j (hj : j < xss.length), xss[j].length ≤ 1048576)) (h : Els 1 rRow2 w lo hi a xss) (h' : Els 2 rRat w lo' hi' b v) (hh : hi ≤ w.heap.size) (hh' : hi' ≤ w.heap.size) :
    Calls Try.prog 112 #[.slice a xss.length cap, .slice b v.length capv] w fun e w' => ∃ a0 c0, e = .returned (.tuple #[.slice a0 (lstO (mvQ xss v)).length c0, .bool (okO (mvQ xss v))]) ∧ OwnQ w' w.heap.size tR (.slice a0 (lstO (mvQ xss v)).length c0) (lstO (mvQ xss v)) ∧ Below w.heap.size w w' := by
  obtain ⟨i0, hi0, hz0, hz1, hz2⟩ := info_parts infoRat
  have hlit := hid (show OwnR (w.alloc (.cells #[] 35)) w.heap.size 35 (.slice (some ⟨w.heap.size, 0, none⟩) 0 0) [] from ownR_lit w w.heap.size 35 (Nat.le_refl _))
  have HB0 := hid ((Below.refl w.heap.size w).alloc (Nat.le_refl _) (.cells #[] 35))
  go_enter Try.func112, Try.ntmps112
  go_wp2_with fail
  go_loopw [6, 7, 8, 9] (fun s6 i _ _ wr => ∃ (k : Nat) (o : List RatD), k ≤ xss.length ∧ i = .int .i64 k ∧ Hid (mv xss v k = some o) ∧ Hid (OwnR wr w.heap.size 35 s6 o) ∧ Hid (Below w.heap.size w wr)) (fun _ i _ _ _ => xss.length - (intOf i).toNat)
  case atStart => exact ⟨0, [], Nat.zero_le _, rfl, hid rfl, hlit, HB0⟩
  case round =>
    obtain ⟨k, o, hk, rfl, hmv, hown, hb⟩ := hrel
    clear hlit HB0
    have hol := hid (mv_len hmv.out)
    by_cases hlt : k < xss.length
    · obtain ⟨b1, off, aj, capj, rfl, _, hbB, g, rx, _, _⟩ := mat_at (h.grow good_row2 hb.out hh) k hlt
      have hrow := hR.out k hlt
      have rv := h'.grow good_rat hb.out hh'
      have hsz := hb.out.size
      have A := hid (spec_dot aj b capj capv xss[k] v lo hi lo' hi' wr (by omega) rx rv (by omega) (by omega))
      have hst := mv_step hmv.out hlt
      have HO1 := hid hst.1
      have HO0 := hid hst.2
      simp only [endQ_any] at A
      generalize fstQ (dotQ xss[k] v) = X at A HO1 HO0
      generalize sndQ (dotQ xss[k] v) = Y at A HO1 HO0
      generalize okQ (dotQ xss[k] v) = ok at A HO1 HO0
      have hlt' : (k : Int) < (xss.length : Int) := by omega
      have h0' : (0 : Int) ≤ (k : Int) := by omega
      clear h h' rx rv hst hrow
      go_wp2_with fail
      with_reducible refine A.out.mono ?_
      rintro e w1 ⟨rfl, hb1⟩
      have s1 := hb1.size
      have N1 := hid (hasl_new w1 [.int .i64 X, .int .i64 Y] 35)
      have B1 := hid ((hb.out.trans (hb1.mono hsz)).alloc (by omega) (.cells #[.int .i64 X, .int .i64 Y] 35))
      have O1 := hid ((hown.out.below' hb1).below' ((Below.refl _ _).alloc (Nat.le_refl _) (.cells #[.int .i64 X, .int .i64 Y] 35)))
      obtain ⟨n0, n1, n2, n3, n4⟩ := N1.out.two
      clear hb1 hown hb A
      cases ok with
      | false =>
        have HN := hid (show mvQ xss v = none from mv_none (HO0.out (by first | rfl | trivial)) (show k + 1 ≤ xss.length by omega))
        have B2 := hid (B1.out.alloc (by simp; omega) (.cells #[] 35))
        have HL := hid (show OwnR ((w1.alloc (.cells #[.int .i64 X, .int .i64 Y] 35)).alloc (.cells #[] 35)) w.heap.size 35 (.slice (some ⟨(w1.alloc (.cells #[.int .i64 X, .int .i64 Y] 35)).heap.size, 0, none⟩) 0 0) [] from ownR_lit _ w.heap.size 35 (by simp; omega))
        simp only [World.size_alloc] at HL
        clear HO0 HO1 hmv hol
        go_wp2_with fail
        go_ret2
        exact ⟨_, 0, by rw [HN.out]; rfl, by rw [HN.out]; exact ⟨HL.out, iba_nil⟩, B2.out⟩
      | true =>
        have HM := hid (HO1.out (by first | rfl | trivial))
        have holen : o.length ≤ 4398046511104 := by rw [hol.out]; omega
        have hbase : w.heap.size ≤ (w1.alloc (.cells #[.int .i64 X, .int .i64 Y] 35)).heap.size := by simp; omega
        clear HO0 HO1 hmv hol
        go_wp2_with (at_builtin; refine append_rat rfl _ _ 25 rfl w.heap.size 35 i0 Try.underlying25 hi0 hz0 hz1 hz2 (w1.alloc (.cells #[.int .i64 X, .int .i64 Y] 35)) _ o (X, Y) O1.out rfl hbase (by simp only [World.size_alloc]; rfl) holen ?_)
        intro v' w' hO hB hz'
        have HO := hid hO
        have HB := hid (B1.out.trans hB)
        clear hO hB O1 N1 n0 n1 n2 n3 n4
        go_wp2_with fail
        go_roundw
        case rel => exact ⟨k + 1, _, by omega, by go_num, HM, HO, HB⟩
        case measure => simp [intOf]; omega
    · have e : k = xss.length := by omega
      subst e
      have HM := hid (show mvQ xss v = some o from hmv.out)
      have hI := hid (mv_iba hmv.out)
      obtain ⟨a0, c0, hf, _⟩ := hown.out.els hI.out
      subst hf
      clear h h' hmv hol
      go_wp2_with fail
      go_ret2
      exact ⟨a0, c0, by rw [HM.out]; rfl, by rw [HM.out]; exact ⟨hown.out, hI.out⟩, hb.out⟩
end Go.Proofs.Ytjnphlgmmjdeiaa.Mvp
