/- The walk of law FnProjection. -/
import Derived.Test.YtikpgkholhokoaaPck
import Derived.Test.YtikpgkholhokoaaCur
import Derived.WalkKit
import Derived.ProofKit
import Derived.OpenShut
import Derived.Test.YtikpgkholhokoaaDrawPrj
import Derived.Test.YtikpgkholhokoaaPrjI
import Derived.Test.YtikpgkholhokoaaPrjS
import Derived.Test.YtikpgkholhokoaaRelEqS
namespace Go.Proofs.Ytikpgkholhokoaa.PrjP
open Go.Proofs.Ytikpgkholhokoaa.Vals Go.Proofs.Ytikpgkholhokoaa.CmpL Go.Proofs.Ytikpgkholhokoaa.Asc Go.Proofs.Ytikpgkholhokoaa.SrtD Go.Proofs.Ytikpgkholhokoaa.Pck
set_option linter.unusedVariables false

def iota (k : Nat) : List Int := (List.range k).map fun (i : Nat) => (i : Int)
theorem iota_len (k : Nat) : (iota k).length = k := by simp [iota]
theorem iota_step (k : Nat) : iota (k + 1) = iota k ++ [(k : Int)] := by simp [iota, List.range_succ]
theorem pick_iota (r : List Int) : pick r (iota r.length) = r := by
  apply List.ext_getElem
  · simp [pick, iota]
  · intro i h1 h2
    simp [pick, iota, h2]
theorem sort_asc {l : List (List Int)} (h : Asc l) : sortD l = l := ((srt_eq (xss := l) (ys := l) ⟨h, fun _ => Iff.rfl, Nat.le_refl _⟩)).symm
theorem prj_all {n : Int} {xss : List (List Int)} (h : vrel n xss = true) : prjOk n xss (iota n.toNat) = true ∧ prjR n xss (iota n.toNat) = xss ∧ prjN n xss (iota n.toNat) = n := by
  obtain ⟨⟨h0, h5⟩, _, hr, ha⟩ := vrel_parts h
  have hm : prjM xss (iota n.toNat) = xss := by
    unfold prjM
    conv => rhs; rw [← List.map_id xss]
    apply List.map_congr_left
    intro r hx
    have := (hr r hx).1
    have e : n.toNat = r.length := by omega
    rw [e, pick_iota]
    rfl
  have hc : colsOk n (iota n.toNat) = true := by
    unfold colsOk iota
    rw [List.all_eq_true]
    intro c hc
    simp only [List.mem_map, List.mem_range] at hc
    obtain ⟨i, hi, rfl⟩ := hc
    simp
    omega
  have h1 : prj0 n xss (iota n.toNat) = true := by
    simp only [prj0, h, hc, iota_len, Bool.and_eq_true, decide_eq_true_eq, true_and, and_true]
    omega
  have hl : ((iota n.toNat).length : Int) = n := by rw [iota_len]; omega
  have h2 : newOk n xss = true := by unfold newOk; rw [sort_asc ha]; exact h
  obtain ⟨e1, e2, e3⟩ := prj_yes h1
  rw [hm, hl] at e1 e2 e3
  rw [e1, e2, e3, h2, (new_yes h2).1, (new_yes h2).2, sort_asc ha]
  exact ⟨rfl, rfl, rfl⟩
theorem prj_sizes {n : Int} {xss : List (List Int)} {cs : List Int} (h : prjOk n xss cs = true) : (prjR n xss cs).length ≤ xss.length ∧ decide ((prjR n xss cs).length = 0) = decide (xss.length = 0) := by
  simp only [prjOk, Bool.and_eq_true] at h
  have hs := sortD_srt (prjM xss cs)
  have hml : (prjM xss cs).length = xss.length := by simp [prjM]
  rw [(prj_yes h.1).2.1, (new_yes h.2).1]
  refine ⟨by have := hs.len; omega, ?_⟩
  rw [decide_eq_decide]
  constructor
  · intro e
    have : prjM xss cs = [] := by
      apply List.eq_nil_iff_forall_not_mem.2
      intro x hx
      have := (hs.mem x).2 hx
      rw [List.eq_nil_of_length_eq_zero e] at this
      simp at this
    rw [← hml, this]; rfl
  · intro e
    have := hs.len
    omega
theorem prj_ok0 {n : Int} {xss : List (List Int)} {cs : List Int} (h : prjOk n xss cs = true) : vrel n xss = true := by
  simp only [prjOk, Bool.and_eq_true] at h
  exact (prj_parts h.1).1
end Go.Proofs.Ytikpgkholhokoaa.PrjP

namespace Go.Proofs.Ytikpgkholhokoaa.Big
open Go.ChangeShapes Go.WideShapes Go.ChangeAt Go.RowKit
open Go.Proofs.Ytikpgkholhokoaa.Num Go.Proofs.Ytikpgkholhokoaa.Cur
set_option linter.unusedVariables false

theorem big_yes (a : Option Addr) (n cap : Nat) (w : World) (h : 1048576 < n) (h2 : n ≤ 9223372036854775807) :
    Calls Try.prog 5 #[.slice a n cap] w fun e w' => e = .returned (.bool true) ∧ w = w' := by
  have h1 : (1048576 : Int) < (n : Int) := by omega
  go_enter Try.func5, Try.ntmps5
  go_wp2
  go_ret
  exact ⟨rfl, rfl⟩
theorem big_no (a : Option Addr) (n cap : Nat) (w : World) (h : n ≤ 1048576) :
    Calls Try.prog 5 #[.slice a n cap] w fun e w' => e = .returned (.bool false) ∧ w = w' := by
  have h1 : ¬ (1048576 : Int) < (n : Int) := by omega
  go_enter Try.func5, Try.ntmps5
  go_wp2
  go_ret
  exact ⟨rfl, rfl⟩
theorem big_code (sv : Value) (l : List UInt8) (w : World) (c : Nat) (hc : Cur.Code w c sv l) (hl : l.length ≤ 1048576) :
    Calls Try.prog 5 #[sv] w fun e w' => e = .returned (.bool false) ∧ w = w' := by
  rcases hc with ⟨rfl, a, cap, rfl⟩ | ⟨b, off, cap, rfl, _, _⟩
  · exact big_no _ 0 _ _ (by omega)
  · exact big_no _ _ _ _ hl

end Go.Proofs.Ytikpgkholhokoaa.Big

namespace Go.Proofs.Ytikpgkholhokoaa.ProjectionC
open Go.RowKit
open Go.Proofs.Ytikpgkholhokoaa.Num Go.Proofs.Ytikpgkholhokoaa.IntRow Go.Proofs.Ytikpgkholhokoaa.IntLaw Go.Proofs.Ytikpgkholhokoaa.Grid Go.Proofs.Ytikpgkholhokoaa.GridMore Go.Proofs.Ytikpgkholhokoaa.GridLaw Go.Proofs.Ytikpgkholhokoaa.GridLaw2 Go.Proofs.Ytikpgkholhokoaa.Keep Go.Proofs.Ytikpgkholhokoaa.Kept Go.Proofs.Ytikpgkholhokoaa.Cells Go.Proofs.Ytikpgkholhokoaa.RelKit Go.Proofs.Ytikpgkholhokoaa.Asc Go.Proofs.Ytikpgkholhokoaa.Pck Go.Proofs.Ytikpgkholhokoaa.PrjI Go.Proofs.Ytikpgkholhokoaa.PrjS Go.Proofs.Ytikpgkholhokoaa.PrjP Go.Proofs.Ytikpgkholhokoaa.RelEqS Go.Proofs.Ytikpgkholhokoaa.DrawPrj
set_option linter.unusedVariables false

theorem len_zero (k : Nat) : ((k : Int) == 0) = decide (k = 0) := by
  rw [Bool.eq_iff_iff, beq_iff_eq, decide_eq_true_eq]
  omega
theorem eq_same (n : Int) (a a' : Option Addr) (cap cap' B B' : Nat) (xss : List (List Int)) (w : World) (ht : tot xss ≤ 1048576) (h : GRd w B a xss) (h' : GRd w B' a' xss) (hB : B ≤ w.heap.size) (hB' : B' ≤ w.heap.size) :
    Calls Try.prog 9 #[.agg #[.int .i64 n, .slice a xss.length cap], .agg #[.int .i64 n, .slice a' xss.length cap']] w fun e w' => e = .returned (.bool true) ∧ Below w.heap.size w w' := by
  have := spec_eqr n n a a' xss.length xss.length cap cap' B B' xss xss w rfl rfl (len_le ht) (len_le ht) (each_le ht) (each_le ht) h h' hB hB'
  rwa [eqR_self] at this

set_option maxRecDepth 100000 in
set_option maxHeartbeats 4000000 in
theorem core (w : World) (sv : Value) (l : List UInt8) (hl : l.length ≤ 1048576) (hc : Cur.Code w w.heap.size sv l) :
    Calls Try.prog 3 #[sv] w fun e w' => e = .returned (.bool true) ∧ Below w.heap.size w w' := by
  have BG := hid (Big.big_code sv l w _ hc hl)
  have DR := hid (draw_prj w sv l hl hc)
  obtain ⟨i0, hi, hz0, hz1, hz2⟩ := info_parts IntLaw.info
  clear hc
  go_enter Try.func3, Try.ntmps3
  go_wp2_with fail
  with_reducible refine BG.out.mono ?_
  rintro e w' ⟨rfl, rfl⟩
  go_wp2_with fail
  with_reducible refine DR.out.mono ?_
  rintro e w1 ⟨n, xss, a, cap, cs, b, capb, rfl, htt, hcs, hg, hr, hb1⟩
  have s1 := hb1.size
  have R1 := hid (has2_new w1 (.int .i64 n) (.slice a xss.length cap) 26)
  have BB : Below w1.heap.size w1 (w1.alloc (.cells #[.int .i64 n, .slice a xss.length cap] 26)) := (Below.refl _ _).alloc (Nat.le_refl _) _
  have HG := hid hg
  have HY := hid hr
  have B1 := hid (hb1.trans (BB.mono s1))
  have P := hid (impl_prj n a b cap capb w1.heap.size w1.heap.size xss cs _ (by omega) (by omega) (hg.below BB) (hr.below BB) BB.size BB.size)
  have HALL := hid (fun (h : prjOk n xss cs = true) => prj_all (prj_ok0 h))
  have HSZ := hid (fun (h : prjOk n xss cs = true) => prj_sizes h)
  have HV := hid (fun (h : prjOk n xss cs = true) => (vrel_parts (prj_ok0 h)).1)
  have htz := tot_prjR n xss cs
  have HS := hid (fun W (h : GRd W w1.heap.size a xss) (h' : Rd W w1.heap.size b cs) (hB : w1.heap.size ≤ W.heap.size) => spec_prj n a b cap capb w1.heap.size w1.heap.size xss cs W (by omega) (by omega) h h' hB hB)
  obtain ⟨zss, hzs⟩ : ∃ z, prjR n xss cs = z := ⟨_, rfl⟩
  obtain ⟨m, hmm⟩ : ∃ z, prjN n xss cs = z := ⟨_, rfl⟩
  obtain ⟨ok, hok⟩ : ∃ z, prjOk n xss cs = z := ⟨_, rfl⟩
  rw [hzs, hmm, hok] at P
  rw [hzs] at htz
  simp only [hzs, hmm, hok] at HS HSZ HALL HV
  clear hzs hmm hok hg hr hb1 BG DR
  have BBH := hid BB
  have hsB : (w1.alloc (.cells #[.int .i64 n, .slice a xss.length cap] 26)).heap.size = w1.heap.size + 1 := by simp
  clear BB
  go_wp2_with fail
  with_reducible refine P.out.mono ?_
  rintro e w2 ⟨a2, c2, vs2, rfl, hown, hb⟩
  have s2 := hb.size
  rw [hsB] at s2
  have X2 := hid (has2_new w2 (.int .i64 m) (.slice a2 zss.length c2) 26)
  have B2A : Below w2.heap.size w2 (w2.alloc (.cells #[.int .i64 m, .slice a2 zss.length c2] 26)) := (Below.refl _ _).alloc (Nat.le_refl _) _
  have R2 := hid ((R1.out.below hb).alloc (.cells #[.int .i64 m, .slice a2 zss.length c2] 26))
  have GX2 := hid ((gown_rd hown).below B2A)
  have BW2 : Below w1.heap.size w1 (w2.alloc (.cells #[.int .i64 m, .slice a2 zss.length c2] 26)) := (BBH.out.trans (hb.mono (by rw [hsB]; omega))).trans (B2A.mono (by omega))
  have hsz2 : (w2.alloc (.cells #[.int .i64 m, .slice a2 zss.length c2] 26)).heap.size = w2.heap.size + 1 := by simp
  have B2 := hid (B1.out.trans ((hb.trans (B2A.mono (by rw [hsB]; omega))).mono (by rw [hsB]; omega)))
  have S := hid (HS.out _ (HG.out.below BW2) (HY.out.below BW2) (by omega))
  have BW := hid BW2
  clear hown hb P R1 B1 BBH B2A BW2 hsB
  obtain ⟨p0, p1, pz, _, _⟩ := R2.out
  go_wp2_with fail
  with_reducible refine S.out.mono ?_
  rintro e w3 ⟨a3, c3, vs3, rfl, hown, hb⟩
  have s3 := hb.size
  rw [hsz2] at s3
  have Y3 := hid (has2_new w3 (.int .i64 m) (.slice a3 zss.length c3) 26)
  have B3A : Below w3.heap.size w3 (w3.alloc (.cells #[.int .i64 m, .slice a3 zss.length c3] 26)) := (Below.refl _ _).alloc (Nat.le_refl _) _
  have hb3 := hb.trans (B3A.mono (by rw [hsz2]; omega))
  have R3 := hid (R2.out.below hb3)
  have X3 := hid (X2.out.below hb3)
  have GX3 := hid (GX2.out.below (hb3.mono (by rw [hsz2]; omega)))
  have GY3 := hid ((gown_rd hown).below B3A)
  have BW3 := hid (BW.out.trans (hb3.mono (by rw [hsz2]; omega)))
  have B3 := hid (B2.out.trans (hb3.mono (by have := B2.out.size; omega)))
  have hsz3 : (w3.alloc (.cells #[.int .i64 m, .slice a3 zss.length c3] 26)).heap.size = w3.heap.size + 1 := by simp
  have E := hid (eq_same m a2 a3 c2 c3 w2.heap.size w3.heap.size zss _ (by omega) GX3.out GY3.out (by rw [hsz3]; omega) (by rw [hsz3]; omega))
  have hne : (ok != ok) = false := by simp
  clear hown hb hb3 S R2 X2 GX2 B2 BW HS B3A p0 p1 pz hsz2
  obtain ⟨x0, x1, xz, _, _⟩ := X3.out
  obtain ⟨y0, y1, yz, _, _⟩ := Y3.out
  go_wp2_with fail
  with_reducible refine E.out.mono ?_
  rintro e w4 ⟨rfl, hb⟩
  have s4 := hb.size
  rw [hsz3] at s4
  have R4 := hid (R3.out.below hb)
  have X4 := hid (X3.out.below hb)
  have BW4 := hid (BW3.out.trans (hb.mono (by rw [hsz3]; omega)))
  have B4 := hid (B3.out.trans (hb.mono (by have := B3.out.size; omega)))
  clear hb E R3 X3 Y3 GX3 GY3 BW3 B3 x0 x1 xz y0 y1 yz hsz3
  cases ok with
  | false =>
    go_wp2
    go_ret
    exact ⟨rfl, B4.out⟩
  | true =>
    obtain ⟨hn0, hn5⟩ := HV.out rfl
    obtain ⟨hal1, hal2, hal3⟩ := HALL.out rfl
    obtain ⟨hsz1, hsz0⟩ := HSZ.out rfl
    obtain ⟨kn, rfl⟩ := Int.eq_ofNat_of_zero_le hn0
    simp only [Int.toNat_natCast] at hal1 hal2 hal3
    have HA1 := hid hal1
    have HA2 := hid hal2
    have HA3 := hid hal3
    have HS1 := hid hsz1
    have HS0 := hid hsz0
    have O0 := hid (own_litP w4 w4.heap.size (Nat.le_refl _))
    have BA := hid ((Below.refl w4.heap.size w4).alloc (Nat.le_refl _) (.cells #[] 3))
    clear hal1 hal2 hal3 hsz1 hsz0 HALL HSZ HV
    go_wp2
    clear hne
    go_loopw [9, 10] (fun v i wr => ∃ k : Nat, k ≤ kn ∧ i = .int .i64 (k : Nat) ∧ Hid (Own wr w4.heap.size 3 v (iota k)) ∧ Hid (Below w4.heap.size w4 wr)) (fun _ i _ => kn - (intOf i).toNat)
    case atStart => exact ⟨0, Nat.zero_le _, rfl, hid (by simpa [iota] using O0.out), BA⟩
    case round =>
      obtain ⟨k, hk, rfl, hown, hb⟩ := hrel
      clear O0 BA
      have hsz := hb.out.size
      have R5 := hid (R4.out.below hb.out)
      obtain ⟨p0, p1, pz, _, _⟩ := R5.out
      by_cases hlt : k < kn
      · have hlt' : (k : Int) < (kn : Int) := by omega
        have hst := hid (iota_step k)
        have hil : (iota k).length ≤ 1000 := by rw [iota_len]; omega
        go_wp2_with (at_builtin; refine append_int rfl _ _ 27 rfl w4.heap.size 3 i0 Try.underlying27 hi hz0 hz1 hz2 w4 wr _ (iota k) (k : Int) hown.out (by rfl) hb.out hsz _ ?c1 (by rfl) (by omega) ?_)
        case c1 => rfl
        intro v1 w5 hown1 hbel1 hsz1 hgr
        rw [← hst.out] at hown1
        have HO := hid hown1
        have HB := hid hbel1
        clear hown hb hown1 hbel1 hgr R5 p0 p1 pz
        go_wp2
        go_roundw
        case rel => exact ⟨k + 1, by omega, by go_num, HO, HB⟩
        case measure => simp [intOf]; omega
      · obtain rfl : k = kn := by omega
        have hnlt : ¬ (k : Int) < (k : Int) := by omega
        obtain ⟨av, capv, hav, _, _, hrd⟩ := hown.out.form
        subst hav
        have hs14 := BW4.out.size
        have P := hid (impl_prj (k : Int) a av cap capv w1.heap.size wr.heap.size xss (iota k) wr (by omega) (by rw [iota_len]; omega) (HG.out.below (BW4.out.trans (hb.out.mono hs14))) hrd (by omega) (Nat.le_refl _))
        rw [HA1.out, HA2.out, HA3.out] at P
        clear hrd
        go_wp2_with fail
        with_reducible refine P.out.mono ?_
        rintro e w6 ⟨a6, c6, vs6, rfl, hown6, hb6⟩
        have s6 := hb6.size
        have Z6 := hid (has2_new w6 (.int .i64 (k : Int)) (.slice a6 xss.length c6) 26)
        have BZ : Below w6.heap.size w6 (w6.alloc (.cells #[.int .i64 (k : Int), .slice a6 xss.length c6] 26)) := (Below.refl _ _).alloc (Nat.le_refl _) _
        have hb7 := hb6.trans (BZ.mono s6)
        have R7 := hid (R5.out.below hb7)
        have X7 := hid ((X4.out.below hb.out).below hb7)
        have GZ := hid ((gown_rd hown6).below BZ)
        have GR := hid (HG.out.below (BW4.out.trans ((hb.out.trans (hb7.mono hsz)).mono hs14)))
        have B7 := hid (B4.out.trans ((hb.out.trans (hb7.mono hsz)).mono (by have := B4.out.size; omega)))
        have hszz : (w6.alloc (.cells #[.int .i64 (k : Int), .slice a6 xss.length c6] 26)).heap.size = w6.heap.size + 1 := by simp
        have E := hid (eq_same (k : Int) a6 a c6 cap w6.heap.size w1.heap.size xss _ (by omega) GZ.out GR.out (by rw [hszz]; omega) (by rw [hszz]; omega))
        have hle : (zss.length : Int) ≤ (xss.length : Int) := by have := HS1.out; omega
        obtain ⟨e0, he0⟩ : ∃ e0 : Bool, decide (xss.length = 0) = e0 := ⟨_, rfl⟩
        have hz1' : ((zss.length : Int) == 0) = e0 := by rw [← he0, ← HS0.out, len_zero]
        have hz2' : ((xss.length : Int) == 0) = e0 := by rw [← he0, len_zero]
        have hee : (e0 == e0) = true := by simp
        clear he0 hown6 hb6 hb7 BZ P R5 hown hb p0 p1 pz
        obtain ⟨p0, p1, pz, _, _⟩ := R7.out
        obtain ⟨x0, x1, xz, _, _⟩ := X7.out
        obtain ⟨z0, z1, zz, _, _⟩ := Z6.out
        go_wp2_with fail
        with_reducible refine E.out.mono ?_
        rintro e w8 ⟨rfl, hb8⟩
        have B8 := hid (B7.out.trans (hb8.mono (by have := B7.out.size; omega)))
        clear hb8 E
        go_wp2
        go_ret
        exact ⟨rfl, B8.out⟩
end Go.Proofs.Ytikpgkholhokoaa.ProjectionC
