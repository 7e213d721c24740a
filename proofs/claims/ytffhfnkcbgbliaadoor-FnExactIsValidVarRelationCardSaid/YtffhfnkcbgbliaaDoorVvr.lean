/- Whether a labeled relation is valid: the model's function and the program's (spec.IsValidVarRelation, impl.IsValidVarRelation). -/
import Derived.Test.YtffhfnkcbgbliaaDoorVrl
import Derived.Test.YtffhfnkcbgbliaaDoorSetA
import Derived.Test.YtffhfnkcbgbliaaDoorLibEqual
import Derived.Test.YtffhfnkcbgbliaaDoorRelValidS
import Derived.Test.YtffhfnkcbgbliaaDoorRelValidI
import Derived.Test.YtffhfnkcbgbliaaDoorQryVS
namespace Go.Proofs.YtffhfnkcbgbliaaDoor.Vvr
open Go.RowKit
open Go.Proofs.YtffhfnkcbgbliaaDoor.Num Go.Proofs.YtffhfnkcbgbliaaDoor.IntRow Go.Proofs.YtffhfnkcbgbliaaDoor.Grid Go.Proofs.YtffhfnkcbgbliaaDoor.GridLaw Go.Proofs.YtffhfnkcbgbliaaDoor.RelKit Go.Proofs.YtffhfnkcbgbliaaDoor.Asc Go.Proofs.YtffhfnkcbgbliaaDoor.LibEqual Go.Proofs.YtffhfnkcbgbliaaDoor.RelValidS Go.Proofs.YtffhfnkcbgbliaaDoor.RelValidI Go.Proofs.YtffhfnkcbgbliaaDoor.Rdr Go.Proofs.YtffhfnkcbgbliaaDoor.Dat Go.Proofs.YtffhfnkcbgbliaaDoor.HasL Go.Proofs.YtffhfnkcbgbliaaDoor.TableLaw Go.Proofs.YtffhfnkcbgbliaaDoor.VarName Go.Proofs.YtffhfnkcbgbliaaDoor.VarIn Go.Proofs.YtffhfnkcbgbliaaDoor.QryVS Go.Proofs.YtffhfnkcbgbliaaDoor.SetV Go.Proofs.YtffhfnkcbgbliaaDoor.SetI Go.Proofs.YtffhfnkcbgbliaaDoor.SetA Go.Proofs.YtffhfnkcbgbliaaDoor.Vrl Go.Proofs.YtffhfnkcbgbliaaDoor.Keep Go.Proofs.YtffhfnkcbgbliaaDoor.Kept
set_option linter.unusedVariables false

/-! ### plain: rows that list a set -/
theorem fl_mem {p : Nat → Bool} {k : Nat} {z : Int} : z ∈ fl p k ↔ ∃ v : Nat, v < k ∧ p v = true ∧ z = (v : Int) := by
  induction k with
  | zero => simp [fl]
  | succ k ih =>
    cases h : p k with
    | true =>
      rw [fl_yes h, List.mem_append, ih]
      constructor
      · rintro (⟨v, h1, h2, h3⟩ | h1)
        · exact ⟨v, by omega, h2, h3⟩
        · simp at h1
          exact ⟨k, by omega, h, h1⟩
      · rintro ⟨v, h1, h2, h3⟩
        by_cases e : v = k
        · subst e; exact .inr (by simp [h3])
        · exact .inl ⟨v, by omega, h2, h3⟩
    | false =>
      rw [fl_no h, ih]
      constructor
      · rintro ⟨v, h1, h2, h3⟩
        exact ⟨v, by omega, h2, h3⟩
      · rintro ⟨v, h1, h2, h3⟩
        by_cases e : v = k
        · subst e; rw [h] at h2; cases h2
        · exact ⟨v, by omega, h2, h3⟩
theorem fl_asc (p : Nat → Bool) (k : Nat) : (fl p k).Pairwise (· < ·) := by
  induction k with
  | zero => simp [fl]
  | succ k ih =>
    cases h : p k with
    | true =>
      rw [fl_yes h]
      refine List.pairwise_append.2 ⟨ih, by simp, fun a ha b hb => ?_⟩
      obtain ⟨v, h1, _, rfl⟩ := fl_mem.1 ha
      simp at hb
      omega
    | false => rw [fl_no h]; exact ih
theorem asc_same : ∀ {l m : List Int}, l.Pairwise (· < ·) → m.Pairwise (· < ·) → (∀ x, x ∈ l ↔ x ∈ m) → l = m
  | [], [], _, _, _ => rfl
  | [], y :: m, _, _, h => by have := (h y).2 (by simp); simp at this
  | x :: l, [], _, _, h => by have := (h x).1 (by simp); simp at this
  | x :: l, y :: m, hl, hm, h => by
    obtain ⟨h1, h2⟩ := List.pairwise_cons.1 hl
    obtain ⟨k1, k2⟩ := List.pairwise_cons.1 hm
    have e : x = y := by
      have a := (h x).1 (by simp)
      have b := (h y).2 (by simp)
      simp only [List.mem_cons] at a b
      rcases a with a | a
      · exact a
      · rcases b with b | b
        · exact b.symm
        · have := h1 _ b; have := k1 _ a; omega
    subst e
    have : l = m := asc_same h2 k2 (fun z => by
      have hz := h z
      simp only [List.mem_cons] at hz
      constructor
      · intro a
        have := h1 _ a
        rcases hz.1 (.inr a) with b | b
        · omega
        · exact b
      · intro a
        have := k1 _ a
        rcases hz.2 (.inr a) with b | b
        · omega
        · exact b)
    rw [this]
def okV (xs : List Int) : Bool := decide (xs = fl (mem xs) 5)
def vvr (x : VrelD) : Bool := okV x.1 && (decide (x.2.1 = (x.1.length : Int)) && vrel x.2.1 x.2.2)
def Up (xs : List Int) (k : Nat) : Prop := ∀ j (h : j < xs.length), j < k → inR xs[j] 0 4 = true ∧ (0 < j → xs[j - 1]'(by omega) < xs[j])
theorem Up.zero (xs : List Int) : Up xs 0 := fun j _ h => by omega
theorem Up.step {xs : List Int} {k : Nat} (h : Up xs k) (hk : k < xs.length) (h1 : inR xs[k] 0 4 = true) (h2 : 0 < k → xs[k - 1]'(by omega) < xs[k]) : Up xs (k + 1) := fun j hj hjk => by
  by_cases e : j = k
  · subst e; exact ⟨h1, h2⟩
  · exact h j hj (by omega)
theorem inR_iff {v lo hi : Int} : inR v lo hi = true ↔ lo ≤ v ∧ v ≤ hi := by simp [inR]
theorem up_asc {xs : List Int} (h : Up xs xs.length) : xs.Pairwise (· < ·) := by
  have key : ∀ (d i : Nat) (hi : i + d + 1 < xs.length), xs[i] < xs[i + d + 1] := by
    intro d
    induction d with
    | zero => intro i hi; exact (h (i + 1) hi (by omega)).2 (by omega)
    | succ d ih =>
      intro i hi
      have a := ih i (by omega)
      have b := (h (i + (d + 1) + 1) hi (by omega)).2 (by omega)
      have e : i + (d + 1) + 1 - 1 = i + d + 1 := by omega
      simp only [e] at b
      omega
  refine List.pairwise_iff_getElem.2 fun i j hi hj hij => ?_
  have := key (j - i - 1) i (by omega)
  have e : i + (j - i - 1) + 1 = j := by omega
  simp only [e] at this
  exact this
theorem ok_yes {xs : List Int} (h : Up xs xs.length) : okV xs = true := by
  refine decide_eq_true (asc_same (up_asc h) (fl_asc _ _) fun z => ?_)
  rw [fl_mem]
  constructor
  · intro hz
    obtain ⟨j, hj, rfl⟩ := List.getElem_of_mem hz
    obtain ⟨h1, h2⟩ := inR_iff.1 (h j hj hj).1
    refine ⟨xs[j].toNat, by omega, ?_, by omega⟩
    have e : ((xs[j].toNat : Nat) : Int) = xs[j] := by omega
    unfold mem
    rw [e]
    exact decide_eq_true hz
  · rintro ⟨v, _, h2, rfl⟩
    exact of_decide_eq_true h2
theorem ok_in {xs : List Int} (k : Nat) (hk : k < xs.length) (h : inR xs[k] 0 4 = false) : okV xs = false := by
  refine decide_eq_false fun e => ?_
  have hm : xs[k] ∈ fl (mem xs) 5 := by rw [← e]; exact List.getElem_mem hk
  obtain ⟨v, h1, _, h3⟩ := fl_mem.1 hm
  have : inR xs[k] 0 4 = true := inR_iff.2 (by omega)
  rw [this] at h
  cases h
theorem ok_step {xs : List Int} (k : Nat) (hk : k < xs.length) (h0 : 0 < k) (h : xs[k] ≤ xs[k - 1]'(by omega)) : okV xs = false := by
  refine decide_eq_false fun e => ?_
  have hp : xs.Pairwise (· < ·) := by rw [e]; exact fl_asc _ _
  have := List.pairwise_iff_getElem.1 hp (k - 1) k (by omega) hk (by omega)
  omega
theorem vvr_ok {x : VrelD} (h : okV x.1 = false) : vvr x = false := by simp [vvr, h]
theorem vvr_ar {x : VrelD} (h : x.2.1 ≠ (x.1.length : Int)) : vvr x = false := by simp [vvr, h]
theorem vvr_rel {x : VrelD} (h : vrel x.2.1 x.2.2 = false) : vvr x = false := by simp [vvr, h]
theorem vvr_yes {x : VrelD} {b : Bool} (h : okV x.1 = true) (h1 : x.2.1 = (x.1.length : Int)) (h2 : vrel x.2.1 x.2.2 = b) : vvr x = b := by simp [vvr, h, h1, ← h2]

set_option maxRecDepth 100000 in
set_option maxHeartbeats 1000000 in
theorem spec_vvr (cs : List Value) (x : VrelD) (lo hi : Nat) (w : World) (hs : szV x ≤ 1048576) (h : rVrel w lo hi cs x) (hh : hi ≤ w.heap.size) :
    Calls Tryd.prog 7 #[.agg cs.toArray] w fun e w' => e = .returned (.bool (vvr x)) ∧ Below w.heap.size w w' := by
  obtain ⟨a, cap, o, capo, hcs, _, _, hr, hg⟩ := vrel_open h
  subst hcs
  have ht : x.1.length ≤ 1048576 ∧ tot x.2.2 ≤ 1048576 := by rw [← szG_tot]; unfold szV at hs; omega
  have P0 := hid (hasl_new w [.slice a x.1.length cap, .int .i64 x.2.1, .slice o x.2.2.length capo] 32)
  have B1 := hid ((Below.refl w.heap.size w).alloc (Nat.le_refl _) (.cells #[.slice a x.1.length cap, .int .i64 x.2.1, .slice o x.2.2.length capo] 32))
  have HR := hid (rd_of hr)
  have HG := hid (grd_of hg)
  have HT := hid ht.2
  have hn1 := ht.1
  clear h hr hg ht hs
  go_enter Tryd.func7, Tryd.ntmps7
  go_wp2
  go_loopw [3] (fun i wr => ∃ k : Nat, k ≤ x.1.length ∧ i = .int .i64 k ∧ Hid (Up x.1 k) ∧ Hid (HasL wr w.heap.size [.slice a x.1.length cap, .int .i64 x.2.1, .slice o x.2.2.length capo]) ∧ Hid (Below w.heap.size w wr)) (fun i _ => x.1.length - (intOf i).toNat)
  case atStart => exact ⟨0, Nat.zero_le _, rfl, hid (Up.zero _), P0, B1⟩
  case round =>
    obtain ⟨k, hk, rfl, hup, hbox, hb⟩ := hrel
    obtain ⟨p0, p1, p2, _, _, _, p6⟩ := hbox.out.three
    by_cases hlt : k < x.1.length
    · obtain ⟨b, off, rfl, hbB, hc⟩ := (HR.out.below (hb.out.mono hh)) (by omega)
      have g := hc k hlt
      have hk' : (k : Int) < (x.1.length : Int) := by omega
      have hk0 : (0 : Int) ≤ (k : Int) := by omega
      obtain ⟨ov, hov⟩ : ∃ z, inR x.1[k] 0 4 = z := ⟨_, rfl⟩
      have HV := hid hov
      have IV := hid (fun W => in_is' x.1[k] 0 4 ov W hov)
      clear hov
      cases ov with
      | false =>
        have hf := hid (vvr_ok (ok_in k hlt HV.out))
        clear hc
        go_wp2
        go_quiet ((go_at_call 26; exact Calls.quiet_of_same (IV.out _)))
        go_wp2
        go_ret
        exact ⟨by rw [hf.out]; rfl, ⟨hb.out.os, hb.out.tape, hb.out.output, hb.out.size, hb.out.block⟩⟩
      | true =>
        by_cases hz : k = 0
        · have hz' : decide ((0 : Int) < (k : Int)) = false := by simp [hz]
          have hz2 : decide (0 < k) = false := by simp [hz]
          have HU := hid (hup.out.step hlt HV.out (fun h => by omega))
          clear hc hz
          go_wp2
          go_quiet ((go_at_call 26; exact Calls.quiet_of_same (IV.out _)))
          go_wp2
          go_roundw
          case rel => exact ⟨k + 1, by omega, by go_num, HU, hid ⟨hbox.out.1, hbox.out.2⟩, hid ⟨hb.out.os, hb.out.tape, hb.out.output, hb.out.size, hb.out.block⟩⟩
          case measure => simp [intOf]; omega
        · have hz' : decide ((0 : Int) < (k : Int)) = true := by simp; omega
          have hz2 : decide (0 < k) = true := by simp; omega
          obtain ⟨j, hj⟩ : ∃ j, k - 1 = j := ⟨_, rfl⟩
          have g2 := hc (k - 1) (by omega)
          have HQ := hid (show ∀ v, x.1[k - 1]'(by omega) = v → x.1[k] ≤ v → vvr x = false from fun v e hle => vvr_ok (ok_step k hlt (by omega) (by rw [e]; exact hle)))
          have HQ2 := hid (show ∀ v, x.1[k - 1]'(by omega) = v → v < x.1[k] → Up x.1 (k + 1) from fun v e hl2 => hup.out.step hlt HV.out (fun _ => by rw [e]; exact hl2))
          obtain ⟨v, hv⟩ : ∃ v, x.1[k - 1]'(by omega) = v := ⟨_, rfl⟩
          rw [hv] at g2
          simp only [hj] at g2
          have HF1 := hid (HQ.out v hv)
          have HF2 := hid (HQ2.out v hv)
          have w1 : IntKind.i64.wrap ((k : Int) - 1) = (j : Int) := by
            have : (k : Int) - 1 = (j : Int) := by omega
            rw [this]; exact Num.wrap_small j (by omega)
          have w2 : IntKind.i64.wrap (j : Int) = (j : Int) := Num.wrap_small j (by omega)
          have hj0 : (0 : Int) ≤ (j : Int) := by omega
          have hj1 : (j : Int) < (x.1.length : Int) := by omega
          clear hc hv HQ HQ2 hj
          by_cases hle : x.1[k] ≤ v
          · have hf := hid (HF1.out hle)
            have hd : decide (x.1[k] ≤ v) = true := decide_eq_true hle
            clear hle
            go_wp2
            go_quiet ((go_at_call 26; exact Calls.quiet_of_same (IV.out _)))
            go_wp2
            go_ret
            exact ⟨by rw [hf.out]; rfl, ⟨hb.out.os, hb.out.tape, hb.out.output, hb.out.size, hb.out.block⟩⟩
          · have HU := hid (HF2.out (by omega))
            have hd : decide (x.1[k] ≤ v) = false := decide_eq_false hle
            clear hle
            go_wp2
            go_quiet ((go_at_call 26; exact Calls.quiet_of_same (IV.out _)))
            go_wp2
            go_roundw
            case rel => exact ⟨k + 1, by omega, by go_num, HU, hid ⟨hbox.out.1, hbox.out.2⟩, hid ⟨hb.out.os, hb.out.tape, hb.out.output, hb.out.size, hb.out.block⟩⟩
            case measure => simp [intOf]; omega
    · have e : k = x.1.length := by omega
      subst e
      obtain ⟨c, hcc⟩ : ∃ c, vrel x.2.1 x.2.2 = c := ⟨_, rfl⟩
      have V := hid (spec_valid x.2.1 o x.2.2.length capo hi x.2.2 wr rfl (len_le HT.out) (each_le HT.out) (HG.out.below (hb.out.mono hh)) (Nat.le_trans hh hb.out.size))
      rw [hcc] at V
      have HC := hid hcc
      have HOK := hid (ok_yes hup.out)
      clear hcc
      cases c with
      | false =>
        have hf := hid (vvr_rel HC.out)
        go_wp2_with fail
        with_reducible refine V.out.mono ?_
        rintro e w2 ⟨rfl, hb2⟩
        have HB := hid (hb.out.trans (hb2.mono hb.out.size))
        clear hb2
        go_wp2
        go_ret
        exact ⟨by rw [hf.out]; rfl, HB.out⟩
      | true =>
        obtain ⟨d, hdd⟩ : ∃ d, (x.2.1 == (x.1.length : Int)) = d := ⟨_, rfl⟩
        have hf := hid (show vvr x = d by
          by_cases e : x.2.1 = (x.1.length : Int)
          · rw [vvr_yes HOK.out e HC.out, ← hdd]; simp [e]
          · rw [vvr_ar e, ← hdd]; simp [e])
        go_wp2_with fail
        with_reducible refine V.out.mono ?_
        rintro e w2 ⟨rfl, hb2⟩
        have HB := hid (hb.out.trans (hb2.mono hb.out.size))
        obtain ⟨q0, q1, q2, _, _, _, q6⟩ := HasL.three (hbox.out.below hb2)
        clear hb2 p0 p1 p2
        go_wp2
        go_ret
        exact ⟨by rw [hf.out]; rfl, HB.out⟩

set_option maxRecDepth 100000 in
set_option maxHeartbeats 4000000 in
theorem impl_vvr (cs : List Value) (x : VrelD) (lo hi : Nat) (w : World) (hs : szV x ≤ 1048576) (h : rVrel w lo hi cs x) (hh : hi ≤ w.heap.size) (hT : Tab w) :
    Calls Tryd.prog 9 #[.agg cs.toArray] w fun e w' => e = .returned (.bool (vvr x)) ∧ Below w.heap.size w w' := by
  obtain ⟨a, cap, o, capo, hcs, _, _, hr, hg⟩ := vrel_open h
  subst hcs
  have ht : x.1.length ≤ 1048576 ∧ tot x.2.2 ≤ 1048576 := by rw [← szG_tot]; unfold szV at hs; omega
  obtain ⟨m, hm⟩ := ex_is (mem x.1)
  have P0 := hid (hasl_new w [.slice a x.1.length cap, .int .i64 x.2.1, .slice o x.2.2.length capo] 32)
  have B1 := hid ((Below.refl w.heap.size w).alloc (Nat.le_refl _) (.cells #[.slice a x.1.length cap, .int .i64 x.2.1, .slice o x.2.2.length capo] 32))
  have hrd := rd_of hr
  have hgd := grd_of hg
  have hfl := fl_len (mem x.1) 5
  obtain ⟨c, hcc⟩ : ∃ c, decide (x.1 = fl (mem x.1) 5) = c := ⟨_, rfl⟩
  obtain ⟨d, hdd⟩ : ∃ d, vrel x.2.1 x.2.2 = d := ⟨_, rfl⟩
  have SO := hid (fun W (hW : Below w.heap.size w W) => (ofM a cap hi x.1 m W ht.1 (hrd.below (hW.mono hh)) hm).mono (fun e w' h => (⟨h.1, h.2 ▸ Below.refl _ _⟩ : e = .returned (.int .u64 m) ∧ Below W.heap.size W w')))
  have LI := hid (fun W (hW : Below w.heap.size w W) => listM m (mem x.1) W hm (hT.below hW))
  have EQ := hid (fun W aL capL (hW : Below w.heap.size w W) (hL : Rd W W.heap.size aL (fl (mem x.1) 5)) => by
    have := lib_equal a aL x.1.length (fl (mem x.1) 5).length cap capL hi W.heap.size x.1 (fl (mem x.1) 5) W rfl rfl ht.1 (by omega) (hrd.below (hW.mono hh)) hL (Nat.le_trans hh hW.size) (Nat.le_refl _)
    rw [hcc] at this
    exact this)
  have VA := hid (fun W (hW : Below w.heap.size w W) => by
    have := impl_valid x.2.1 o x.2.2.length capo hi x.2.2 W rfl (len_le ht.2) (each_le ht.2) (hgd.below (hW.mono hh)) (Nat.le_trans hh hW.size)
    rw [hdd] at this
    exact this)
  have HC := hid (show okV x.1 = c from hcc)
  have HD := hid hdd
  clear h hr hg hs ht hrd hgd hm hT hcc hdd
  go_enter Tryd.func9, Tryd.ntmps9
  obtain ⟨q0, q1, q2, _, _, _, q6⟩ := P0.out.three
  obtain ⟨w0, hw0⟩ : ∃ z, w.alloc (.cells #[.slice a x.1.length cap, .int .i64 x.2.1, .slice o x.2.2.length capo] 32) = z := ⟨_, rfl⟩
  rw [hw0] at q0 q1 q2 q6 B1
  have hz0 := B1.out.size
  have hlw : w.heap.size < w0.heap.size := by rw [← hw0]; simp
  clear P0
  cases c with
  | false =>
    have HF := hid (vvr_ok HC.out)
    go_upto_region 1 with fail
    go_cut [2] (fun s wx => s = .bool false ∧ Kp w0 0 wx)
    case first =>
      refine wp_region_held_drew (S := (fun w' => w'.cell? ⟨w.heap.size, 0, none⟩ = some (.slice a x.1.length cap) ∧ w'.cell? ⟨w.heap.size, 1, none⟩ = some (.int .i64 x.2.1) ∧ w'.cell? ⟨w.heap.size, 2, none⟩ = some (.slice o x.2.2.length capo) ∧ Kp w0 0 w')) (by kernel_rfl) ⟨q0, q1, q2, (kp_refl w0).drew⟩ (fun hHeld => ?_)
      refine wpAnyH_take (i := 0) (oi := { dst := some 3, op := .fieldAddr 32 (.tmp 1) 0, type := _, pos := _, after := _, guard := none }) (v := ?_) rfl (by kernel_rfl) (by kernel_rfl) (by kernel_rfl) (fun _ _ _ h => h) ?_ hHeld ?_
      rotate_left
      · (refine Or.inl ⟨by rfl, fun w hSw => ?_⟩; (try dsimp only at hSw); go_simp; (try with_reducible rfl))
      (try simp only [Act.put, List.setIfInBounds_toArray, List.set_cons_zero, List.set_cons_succ])
      refine wpAnyH_take (i := 1) (oi := { dst := some 4, op := .load 22 (.tmp 3), type := _, pos := _, after := _, guard := none }) (v := ?_) rfl (by kernel_rfl) (by kernel_rfl) (by kernel_rfl) (fun _ _ _ h => h) ?_ hHeld ?_
      rotate_left
      · (refine Or.inl ⟨by rfl, fun w hSw => ?_⟩; (try dsimp only at hSw); go_simp; (try with_reducible rfl))
      (try simp only [Act.put, List.setIfInBounds_toArray, List.set_cons_zero, List.set_cons_succ])
      refine wpAnyH_take (i := 2) (oi := { dst := some 5, op := .fieldAddr 32 (.tmp 1) 0, type := _, pos := _, after := _, guard := none }) (v := ?_) rfl (by kernel_rfl) (by kernel_rfl) (by kernel_rfl) (fun _ _ _ h => h) ?_ hHeld ?_
      rotate_left
      · (refine Or.inl ⟨by rfl, fun w hSw => ?_⟩; (try dsimp only at hSw); go_simp; (try with_reducible rfl))
      (try simp only [Act.put, List.setIfInBounds_toArray, List.set_cons_zero, List.set_cons_succ])
      refine wpAnyH_take (i := 3) (oi := { dst := some 6, op := .load 22 (.tmp 5), type := _, pos := _, after := _, guard := none }) (v := ?_) rfl (by kernel_rfl) (by kernel_rfl) (by kernel_rfl) (fun _ _ _ h => h) ?_ hHeld ?_
      rotate_left
      · (refine Or.inl ⟨by rfl, fun w hSw => ?_⟩; (try dsimp only at hSw); go_simp; (try with_reducible rfl))
      (try simp only [Act.put, List.setIfInBounds_toArray, List.set_cons_zero, List.set_cons_succ])
      refine wpAnyH_ready (rs := [4]) (by kernel_rfl) (by simp) ?_
      refine AllReadyH.cons (o := { dst := some 7, op := .call { callee := .value (.func 30), args := #[(.tmp 6)], argTypes := #[22] }, type := _, pos := _, after := _, guard := none }) rfl (fun K hK => ?_) AllReadyH.nil
      go_simp
      (with_reducible refine (SO.out _ (B1.out.trans (hHeld.2.2.2.bel.mono hz0))).mono ?_); rintro e wU ⟨rfl, hbU⟩
      (try go_wp2_with fail)
      refine hK.out _ _ ?_ (fun hH2 => ?_)
      · exact ⟨hHeld.2.2.2.cell hbU (by omega) hHeld.1, hHeld.2.2.2.cell hbU (by omega) hHeld.2.1, hHeld.2.2.2.cell hbU (by omega) hHeld.2.2.1, hHeld.2.2.2.call hbU⟩
      clear hK K hHeld
      have hHeld := hH2
      clear hH2
      (try simp only [Act.put, List.setIfInBounds_toArray, List.set_cons_zero, List.set_cons_succ])
      refine wpAnyH_ready (rs := [5]) (by kernel_rfl) (by simp) ?_
      refine AllReadyH.cons (o := { dst := some 8, op := .call { callee := .value (.func 31), args := #[(.tmp 7)], argTypes := #[61] }, type := _, pos := _, after := _, guard := none }) rfl (fun K hK => ?_) AllReadyH.nil
      go_simp
      (with_reducible refine (LI.out _ (B1.out.trans (hHeld.2.2.2.bel.mono hz0))).mono ?_); rintro e wL ⟨aL, capL, rfl, hoL, hbL⟩
      (try go_wp2_with fail)
      refine hK.out _ _ ?_ (fun hH2 => ?_)
      · exact ⟨hHeld.2.2.2.cell hbL (by omega) hHeld.1, hHeld.2.2.2.cell hbL (by omega) hHeld.2.1, hHeld.2.2.2.cell hbL (by omega) hHeld.2.2.1, hHeld.2.2.2.call hbL⟩
      clear hK K hHeld
      have hHeld := hH2
      clear hH2
      (try simp only [Act.put, List.setIfInBounds_toArray, List.set_cons_zero, List.set_cons_succ])
      refine wpAnyH_ready (rs := [6]) (by kernel_rfl) (by simp) ?_
      refine AllReadyH.cons (o := { dst := some 9, op := .call { callee := .value (.func 29), args := #[(.tmp 4), (.tmp 8)], argTypes := #[22, 22] }, type := _, pos := _, after := _, guard := none }) rfl (fun K hK => ?_) AllReadyH.nil
      go_simp
      (with_reducible refine (EQ.out _ aL capL (B1.out.trans (hHeld.2.2.2.bel.mono hz0)) (own_rd hoL)).mono ?_); rintro e wE ⟨rfl, hbE⟩
      (try go_wp2_with fail)
      refine hK.out _ _ ?_ (fun hH2 => ?_)
      · exact ⟨hHeld.2.2.2.cell hbE (by omega) hHeld.1, hHeld.2.2.2.cell hbE (by omega) hHeld.2.1, hHeld.2.2.2.cell hbE (by omega) hHeld.2.2.1, hHeld.2.2.2.call hbE⟩
      clear hK K hHeld
      have hHeld := hH2
      clear hH2
      (try simp only [Act.put, List.setIfInBounds_toArray, List.set_cons_zero, List.set_cons_succ])
      refine wpAnyH_take (i := 7) (oi := { dst := some 10, op := .move (.tmp 9), type := _, pos := _, after := _, guard := none }) (v := ?_) rfl (by kernel_rfl) (by kernel_rfl) (by kernel_rfl) (fun _ _ _ h => h) ?_ hHeld ?_
      rotate_left
      · (refine Or.inl ⟨by rfl, fun w hSw => ?_⟩; (try dsimp only at hSw); go_simp; (try with_reducible rfl))
      (try simp only [Act.put, List.setIfInBounds_toArray, List.set_cons_zero, List.set_cons_succ])
      refine wpAnyH_take (i := 8) (oi := { dst := some 11, op := .fieldAddr 32 (.tmp 1) 1, type := _, pos := _, after := _, guard := some (7, true) }) (v := undef) rfl (by kernel_rfl) (by kernel_rfl) (by kernel_rfl) (fun _ _ _ h => h) (Or.inr ?_) hHeld ?_
      · exact ⟨by rfl, rfl⟩
      (try simp only [Act.put, List.setIfInBounds_toArray, List.set_cons_zero, List.set_cons_succ])
      refine wpAnyH_take (i := 9) (oi := { dst := some 12, op := .fieldAddr 30 (.tmp 11) 0, type := _, pos := _, after := _, guard := some (7, true) }) (v := undef) rfl (by kernel_rfl) (by kernel_rfl) (by kernel_rfl) (fun _ _ _ h => h) (Or.inr ?_) hHeld ?_
      · exact ⟨by rfl, rfl⟩
      (try simp only [Act.put, List.setIfInBounds_toArray, List.set_cons_zero, List.set_cons_succ])
      refine wpAnyH_take (i := 10) (oi := { dst := some 13, op := .load 3 (.tmp 12), type := _, pos := _, after := _, guard := some (7, true) }) (v := undef) rfl (by kernel_rfl) (by kernel_rfl) (by kernel_rfl) (fun _ _ _ h => h) (Or.inr ?_) hHeld ?_
      · exact ⟨by rfl, rfl⟩
      (try simp only [Act.put, List.setIfInBounds_toArray, List.set_cons_zero, List.set_cons_succ])
      refine wpAnyH_take (i := 11) (oi := { dst := some 14, op := .fieldAddr 32 (.tmp 1) 0, type := _, pos := _, after := _, guard := some (7, true) }) (v := undef) rfl (by kernel_rfl) (by kernel_rfl) (by kernel_rfl) (fun _ _ _ h => h) (Or.inr ?_) hHeld ?_
      · exact ⟨by rfl, rfl⟩
      (try simp only [Act.put, List.setIfInBounds_toArray, List.set_cons_zero, List.set_cons_succ])
      refine wpAnyH_take (i := 12) (oi := { dst := some 15, op := .load 22 (.tmp 14), type := _, pos := _, after := _, guard := some (7, true) }) (v := undef) rfl (by kernel_rfl) (by kernel_rfl) (by kernel_rfl) (fun _ _ _ h => h) (Or.inr ?_) hHeld ?_
      · exact ⟨by rfl, rfl⟩
      (try simp only [Act.put, List.setIfInBounds_toArray, List.set_cons_zero, List.set_cons_succ])
      refine wpAnyH_take (i := 13) (oi := { dst := some 16, op := .call { callee := .builtin .len, args := #[(.tmp 15)], argTypes := #[22] }, type := _, pos := _, after := _, guard := some (7, true) }) (v := undef) rfl (by kernel_rfl) (by kernel_rfl) (by kernel_rfl) (fun _ _ _ h => h) (Or.inr ?_) hHeld ?_
      · exact ⟨by rfl, rfl⟩
      (try simp only [Act.put, List.setIfInBounds_toArray, List.set_cons_zero, List.set_cons_succ])
      refine wpAnyH_take (i := 14) (oi := { dst := some 17, op := .binOp .eql 3 (.tmp 13) (.tmp 16) 3, type := _, pos := _, after := _, guard := some (7, true) }) (v := undef) rfl (by kernel_rfl) (by kernel_rfl) (by kernel_rfl) (fun _ _ _ h => h) (Or.inr ?_) hHeld ?_
      · exact ⟨by rfl, rfl⟩
      (try simp only [Act.put, List.setIfInBounds_toArray, List.set_cons_zero, List.set_cons_succ])
      refine wpAnyH_take (i := 15) (oi := { dst := some 18, op := .pick (.tmp 10) (.tmp 17) (.const (.bool false)), type := _, pos := _, after := _, guard := none }) (v := ?_) rfl (by kernel_rfl) (by kernel_rfl) (by kernel_rfl) (fun _ _ _ h => h) ?_ hHeld ?_
      rotate_left
      · (refine Or.inl ⟨by rfl, fun w hSw => ?_⟩; (try dsimp only at hSw); go_simp; (try with_reducible rfl))
      (try simp only [Act.put, List.setIfInBounds_toArray, List.set_cons_zero, List.set_cons_succ])
      refine wpAnyH_take (i := 16) (oi := { dst := some 19, op := .move (.tmp 18), type := _, pos := _, after := _, guard := none }) (v := ?_) rfl (by kernel_rfl) (by kernel_rfl) (by kernel_rfl) (fun _ _ _ h => h) ?_ hHeld ?_
      rotate_left
      · (refine Or.inl ⟨by rfl, fun w hSw => ?_⟩; (try dsimp only at hSw); go_simp; (try with_reducible rfl))
      (try simp only [Act.put, List.setIfInBounds_toArray, List.set_cons_zero, List.set_cons_succ])
      refine wpAnyH_take (i := 17) (oi := { dst := some 20, op := .fieldAddr 32 (.tmp 1) 1, type := _, pos := _, after := _, guard := some (16, true) }) (v := undef) rfl (by kernel_rfl) (by kernel_rfl) (by kernel_rfl) (fun _ _ _ h => h) (Or.inr ?_) hHeld ?_
      · exact ⟨by rfl, rfl⟩
      (try simp only [Act.put, List.setIfInBounds_toArray, List.set_cons_zero, List.set_cons_succ])
      refine wpAnyH_take (i := 18) (oi := { dst := some 21, op := .load 30 (.tmp 20), type := _, pos := _, after := _, guard := some (16, true) }) (v := undef) rfl (by kernel_rfl) (by kernel_rfl) (by kernel_rfl) (fun _ _ _ h => h) (Or.inr ?_) hHeld ?_
      · exact ⟨by rfl, rfl⟩
      (try simp only [Act.put, List.setIfInBounds_toArray, List.set_cons_zero, List.set_cons_succ])
      refine wpAnyH_take (i := 19) (oi := { dst := some 22, op := .call { callee := .value (.func 32), args := #[(.tmp 21)], argTypes := #[30] }, type := _, pos := _, after := _, guard := some (16, true) }) (v := undef) rfl (by kernel_rfl) (by kernel_rfl) (by kernel_rfl) (fun _ _ _ h => h) (Or.inr ?_) hHeld ?_
      · exact ⟨by rfl, rfl⟩
      (try simp only [Act.put, List.setIfInBounds_toArray, List.set_cons_zero, List.set_cons_succ])
      refine wpAnyH_take (i := 20) (oi := { dst := some 23, op := .pick (.tmp 19) (.tmp 22) (.const (.bool false)), type := _, pos := _, after := _, guard := none }) (v := ?_) rfl (by kernel_rfl) (by kernel_rfl) (by kernel_rfl) (fun _ _ _ h => h) ?_ hHeld ?_
      rotate_left
      · (refine Or.inl ⟨by rfl, fun w hSw => ?_⟩; (try dsimp only at hSw); go_simp; (try with_reducible rfl))
      (try simp only [Act.put, List.setIfInBounds_toArray, List.set_cons_zero, List.set_cons_succ])
      refine wpAnyH_take (i := 21) (oi := { dst := some 2, op := .assign (.tmp 23), type := _, pos := _, after := _, guard := none }) (v := ?_) rfl (by kernel_rfl) (by kernel_rfl) (by kernel_rfl) (fun _ _ _ h => h) ?_ hHeld ?_
      rotate_left
      · (refine Or.inl ⟨by rfl, fun w hSw => ?_⟩; (try dsimp only at hSw); go_simp; (try with_reducible rfl))
      (try simp only [Act.put, List.setIfInBounds_toArray, List.set_cons_zero, List.set_cons_succ])
      refine wpAnyH_done (by kernel_rfl) ?_ _
      go_wp2_with fail
      go_meet
      exact ⟨by first | rfl | trivial, hHeld.2.2.2⟩
    case rest =>
    obtain ⟨rfl, hkp⟩ := hcut
    have HB5 := hid (B1.out.trans (hkp.bel.mono hz0))
    clear hkp
    go_wp2
    go_ret
    exact ⟨by rw [HF.out]; rfl, HB5.out⟩
  | true =>
    by_cases har : x.2.1 = (x.1.length : Int)
    · have t1 : (x.2.1 == (x.1.length : Int)) = true := by simp [har]
      have HF := hid (vvr_yes HC.out har HD.out)
      clear har
      go_upto_region 1 with fail
      go_cut [2] (fun s wx => s = .bool d ∧ Kp w0 0 wx)
      case first =>
        refine wp_region_held_drew (S := (fun w' => w'.cell? ⟨w.heap.size, 0, none⟩ = some (.slice a x.1.length cap) ∧ w'.cell? ⟨w.heap.size, 1, none⟩ = some (.int .i64 x.2.1) ∧ w'.cell? ⟨w.heap.size, 2, none⟩ = some (.slice o x.2.2.length capo) ∧ Kp w0 0 w')) (by kernel_rfl) ⟨q0, q1, q2, (kp_refl w0).drew⟩ (fun hHeld => ?_)
        refine wpAnyH_take (i := 0) (oi := { dst := some 3, op := .fieldAddr 32 (.tmp 1) 0, type := _, pos := _, after := _, guard := none }) (v := ?_) rfl (by kernel_rfl) (by kernel_rfl) (by kernel_rfl) (fun _ _ _ h => h) ?_ hHeld ?_
        rotate_left
        · (refine Or.inl ⟨by rfl, fun w hSw => ?_⟩; (try dsimp only at hSw); go_simp; (try with_reducible rfl))
        (try simp only [Act.put, List.setIfInBounds_toArray, List.set_cons_zero, List.set_cons_succ])
        refine wpAnyH_take (i := 1) (oi := { dst := some 4, op := .load 22 (.tmp 3), type := _, pos := _, after := _, guard := none }) (v := ?_) rfl (by kernel_rfl) (by kernel_rfl) (by kernel_rfl) (fun _ _ _ h => h) ?_ hHeld ?_
        rotate_left
        · (refine Or.inl ⟨by rfl, fun w hSw => ?_⟩; (try dsimp only at hSw); go_simp; (try with_reducible rfl))
        (try simp only [Act.put, List.setIfInBounds_toArray, List.set_cons_zero, List.set_cons_succ])
        refine wpAnyH_take (i := 2) (oi := { dst := some 5, op := .fieldAddr 32 (.tmp 1) 0, type := _, pos := _, after := _, guard := none }) (v := ?_) rfl (by kernel_rfl) (by kernel_rfl) (by kernel_rfl) (fun _ _ _ h => h) ?_ hHeld ?_
        rotate_left
        · (refine Or.inl ⟨by rfl, fun w hSw => ?_⟩; (try dsimp only at hSw); go_simp; (try with_reducible rfl))
        (try simp only [Act.put, List.setIfInBounds_toArray, List.set_cons_zero, List.set_cons_succ])
        refine wpAnyH_take (i := 3) (oi := { dst := some 6, op := .load 22 (.tmp 5), type := _, pos := _, after := _, guard := none }) (v := ?_) rfl (by kernel_rfl) (by kernel_rfl) (by kernel_rfl) (fun _ _ _ h => h) ?_ hHeld ?_
        rotate_left
        · (refine Or.inl ⟨by rfl, fun w hSw => ?_⟩; (try dsimp only at hSw); go_simp; (try with_reducible rfl))
        (try simp only [Act.put, List.setIfInBounds_toArray, List.set_cons_zero, List.set_cons_succ])
        refine wpAnyH_ready (rs := [4]) (by kernel_rfl) (by simp) ?_
        refine AllReadyH.cons (o := { dst := some 7, op := .call { callee := .value (.func 30), args := #[(.tmp 6)], argTypes := #[22] }, type := _, pos := _, after := _, guard := none }) rfl (fun K hK => ?_) AllReadyH.nil
        go_simp
        (with_reducible refine (SO.out _ (B1.out.trans (hHeld.2.2.2.bel.mono hz0))).mono ?_); rintro e wU ⟨rfl, hbU⟩
        (try go_wp2_with fail)
        refine hK.out _ _ ?_ (fun hH2 => ?_)
        · exact ⟨hHeld.2.2.2.cell hbU (by omega) hHeld.1, hHeld.2.2.2.cell hbU (by omega) hHeld.2.1, hHeld.2.2.2.cell hbU (by omega) hHeld.2.2.1, hHeld.2.2.2.call hbU⟩
        clear hK K hHeld
        have hHeld := hH2
        clear hH2
        (try simp only [Act.put, List.setIfInBounds_toArray, List.set_cons_zero, List.set_cons_succ])
        refine wpAnyH_ready (rs := [5]) (by kernel_rfl) (by simp) ?_
        refine AllReadyH.cons (o := { dst := some 8, op := .call { callee := .value (.func 31), args := #[(.tmp 7)], argTypes := #[61] }, type := _, pos := _, after := _, guard := none }) rfl (fun K hK => ?_) AllReadyH.nil
        go_simp
        (with_reducible refine (LI.out _ (B1.out.trans (hHeld.2.2.2.bel.mono hz0))).mono ?_); rintro e wL ⟨aL, capL, rfl, hoL, hbL⟩
        (try go_wp2_with fail)
        refine hK.out _ _ ?_ (fun hH2 => ?_)
        · exact ⟨hHeld.2.2.2.cell hbL (by omega) hHeld.1, hHeld.2.2.2.cell hbL (by omega) hHeld.2.1, hHeld.2.2.2.cell hbL (by omega) hHeld.2.2.1, hHeld.2.2.2.call hbL⟩
        clear hK K hHeld
        have hHeld := hH2
        clear hH2
        (try simp only [Act.put, List.setIfInBounds_toArray, List.set_cons_zero, List.set_cons_succ])
        refine wpAnyH_ready (rs := [6]) (by kernel_rfl) (by simp) ?_
        refine AllReadyH.cons (o := { dst := some 9, op := .call { callee := .value (.func 29), args := #[(.tmp 4), (.tmp 8)], argTypes := #[22, 22] }, type := _, pos := _, after := _, guard := none }) rfl (fun K hK => ?_) AllReadyH.nil
        go_simp
        (with_reducible refine (EQ.out _ aL capL (B1.out.trans (hHeld.2.2.2.bel.mono hz0)) (own_rd hoL)).mono ?_); rintro e wE ⟨rfl, hbE⟩
        (try go_wp2_with fail)
        refine hK.out _ _ ?_ (fun hH2 => ?_)
        · exact ⟨hHeld.2.2.2.cell hbE (by omega) hHeld.1, hHeld.2.2.2.cell hbE (by omega) hHeld.2.1, hHeld.2.2.2.cell hbE (by omega) hHeld.2.2.1, hHeld.2.2.2.call hbE⟩
        clear hK K hHeld
        have hHeld := hH2
        clear hH2
        (try simp only [Act.put, List.setIfInBounds_toArray, List.set_cons_zero, List.set_cons_succ])
        refine wpAnyH_take (i := 7) (oi := { dst := some 10, op := .move (.tmp 9), type := _, pos := _, after := _, guard := none }) (v := ?_) rfl (by kernel_rfl) (by kernel_rfl) (by kernel_rfl) (fun _ _ _ h => h) ?_ hHeld ?_
        rotate_left
        · (refine Or.inl ⟨by rfl, fun w hSw => ?_⟩; (try dsimp only at hSw); go_simp; (try with_reducible rfl))
        (try simp only [Act.put, List.setIfInBounds_toArray, List.set_cons_zero, List.set_cons_succ])
        refine wpAnyH_take (i := 8) (oi := { dst := some 11, op := .fieldAddr 32 (.tmp 1) 1, type := _, pos := _, after := _, guard := some (7, true) }) (v := ?_) rfl (by kernel_rfl) (by kernel_rfl) (by kernel_rfl) (fun _ _ _ h => h) ?_ hHeld ?_
        rotate_left
        · (refine Or.inl ⟨by rfl, fun w hSw => ?_⟩; (try dsimp only at hSw); go_simp; (try with_reducible rfl))
        (try simp only [Act.put, List.setIfInBounds_toArray, List.set_cons_zero, List.set_cons_succ])
        refine wpAnyH_take (i := 9) (oi := { dst := some 12, op := .fieldAddr 30 (.tmp 11) 0, type := _, pos := _, after := _, guard := some (7, true) }) (v := ?_) rfl (by kernel_rfl) (by kernel_rfl) (by kernel_rfl) (fun _ _ _ h => h) ?_ hHeld ?_
        rotate_left
        · (refine Or.inl ⟨by rfl, fun w hSw => ?_⟩; (try dsimp only at hSw); go_simp; (try with_reducible rfl))
        (try simp only [Act.put, List.setIfInBounds_toArray, List.set_cons_zero, List.set_cons_succ])
        refine wpAnyH_take (i := 10) (oi := { dst := some 13, op := .load 3 (.tmp 12), type := _, pos := _, after := _, guard := some (7, true) }) (v := ?_) rfl (by kernel_rfl) (by kernel_rfl) (by kernel_rfl) (fun _ _ _ h => h) ?_ hHeld ?_
        rotate_left
        · (refine Or.inl ⟨by rfl, fun w hSw => ?_⟩; (try dsimp only at hSw); go_simp; (try with_reducible rfl))
        (try simp only [Act.put, List.setIfInBounds_toArray, List.set_cons_zero, List.set_cons_succ])
        refine wpAnyH_take (i := 11) (oi := { dst := some 14, op := .fieldAddr 32 (.tmp 1) 0, type := _, pos := _, after := _, guard := some (7, true) }) (v := ?_) rfl (by kernel_rfl) (by kernel_rfl) (by kernel_rfl) (fun _ _ _ h => h) ?_ hHeld ?_
        rotate_left
        · (refine Or.inl ⟨by rfl, fun w hSw => ?_⟩; (try dsimp only at hSw); go_simp; (try with_reducible rfl))
        (try simp only [Act.put, List.setIfInBounds_toArray, List.set_cons_zero, List.set_cons_succ])
        refine wpAnyH_take (i := 12) (oi := { dst := some 15, op := .load 22 (.tmp 14), type := _, pos := _, after := _, guard := some (7, true) }) (v := ?_) rfl (by kernel_rfl) (by kernel_rfl) (by kernel_rfl) (fun _ _ _ h => h) ?_ hHeld ?_
        rotate_left
        · (refine Or.inl ⟨by rfl, fun w hSw => ?_⟩; (try dsimp only at hSw); go_simp; (try with_reducible rfl))
        (try simp only [Act.put, List.setIfInBounds_toArray, List.set_cons_zero, List.set_cons_succ])
        refine wpAnyH_take (i := 13) (oi := { dst := some 16, op := .call { callee := .builtin .len, args := #[(.tmp 15)], argTypes := #[22] }, type := _, pos := _, after := _, guard := some (7, true) }) (v := ?_) rfl (by kernel_rfl) (by kernel_rfl) (by kernel_rfl) (fun _ _ _ h => h) ?_ hHeld ?_
        rotate_left
        · (refine Or.inl ⟨by rfl, fun w hSw => ?_⟩; (try dsimp only at hSw); go_simp; (try with_reducible rfl))
        (try simp only [Act.put, List.setIfInBounds_toArray, List.set_cons_zero, List.set_cons_succ])
        refine wpAnyH_take (i := 14) (oi := { dst := some 17, op := .binOp .eql 3 (.tmp 13) (.tmp 16) 3, type := _, pos := _, after := _, guard := some (7, true) }) (v := .bool true) rfl (by kernel_rfl) (by kernel_rfl) (by kernel_rfl) (fun _ _ _ h => h) ?_ hHeld ?_
        · (refine Or.inl ⟨by rfl, fun w hSw => ?_⟩; (try dsimp only at hSw); go_simp; (try rfl))
        (try simp only [Act.put, List.setIfInBounds_toArray, List.set_cons_zero, List.set_cons_succ])
        refine wpAnyH_take (i := 15) (oi := { dst := some 18, op := .pick (.tmp 10) (.tmp 17) (.const (.bool false)), type := _, pos := _, after := _, guard := none }) (v := ?_) rfl (by kernel_rfl) (by kernel_rfl) (by kernel_rfl) (fun _ _ _ h => h) ?_ hHeld ?_
        rotate_left
        · (refine Or.inl ⟨by rfl, fun w hSw => ?_⟩; (try dsimp only at hSw); go_simp; (try with_reducible rfl))
        (try simp only [Act.put, List.setIfInBounds_toArray, List.set_cons_zero, List.set_cons_succ])
        refine wpAnyH_take (i := 16) (oi := { dst := some 19, op := .move (.tmp 18), type := _, pos := _, after := _, guard := none }) (v := ?_) rfl (by kernel_rfl) (by kernel_rfl) (by kernel_rfl) (fun _ _ _ h => h) ?_ hHeld ?_
        rotate_left
        · (refine Or.inl ⟨by rfl, fun w hSw => ?_⟩; (try dsimp only at hSw); go_simp; (try with_reducible rfl))
        (try simp only [Act.put, List.setIfInBounds_toArray, List.set_cons_zero, List.set_cons_succ])
        refine wpAnyH_take (i := 17) (oi := { dst := some 20, op := .fieldAddr 32 (.tmp 1) 1, type := _, pos := _, after := _, guard := some (16, true) }) (v := ?_) rfl (by kernel_rfl) (by kernel_rfl) (by kernel_rfl) (fun _ _ _ h => h) ?_ hHeld ?_
        rotate_left
        · (refine Or.inl ⟨by rfl, fun w hSw => ?_⟩; (try dsimp only at hSw); go_simp; (try with_reducible rfl))
        (try simp only [Act.put, List.setIfInBounds_toArray, List.set_cons_zero, List.set_cons_succ])
        refine wpAnyH_take (i := 18) (oi := { dst := some 21, op := .load 30 (.tmp 20), type := _, pos := _, after := _, guard := some (16, true) }) (v := ?_) rfl (by kernel_rfl) (by kernel_rfl) (by kernel_rfl) (fun _ _ _ h => h) ?_ hHeld ?_
        rotate_left
        · (refine Or.inl ⟨by rfl, fun w hSw => ?_⟩; (try dsimp only at hSw); go_simp; (try with_reducible rfl))
        (try simp only [Act.put, List.setIfInBounds_toArray, List.set_cons_zero, List.set_cons_succ])
        refine wpAnyH_ready (rs := [19]) (by kernel_rfl) (by simp) ?_
        refine AllReadyH.cons (o := { dst := some 22, op := .call { callee := .value (.func 32), args := #[(.tmp 21)], argTypes := #[30] }, type := _, pos := _, after := _, guard := some (16, true) }) rfl (fun K hK => ?_) AllReadyH.nil
        go_simp
        (with_reducible refine (VA.out _ (B1.out.trans (hHeld.2.2.2.bel.mono hz0))).mono ?_); rintro e wV ⟨rfl, hbV⟩
        (try go_wp2_with fail)
        refine hK.out _ _ ?_ (fun hH2 => ?_)
        · exact ⟨hHeld.2.2.2.cell hbV (by omega) hHeld.1, hHeld.2.2.2.cell hbV (by omega) hHeld.2.1, hHeld.2.2.2.cell hbV (by omega) hHeld.2.2.1, hHeld.2.2.2.call hbV⟩
        clear hK K hHeld
        have hHeld := hH2
        clear hH2
        (try simp only [Act.put, List.setIfInBounds_toArray, List.set_cons_zero, List.set_cons_succ])
        refine wpAnyH_take (i := 20) (oi := { dst := some 23, op := .pick (.tmp 19) (.tmp 22) (.const (.bool false)), type := _, pos := _, after := _, guard := none }) (v := ?_) rfl (by kernel_rfl) (by kernel_rfl) (by kernel_rfl) (fun _ _ _ h => h) ?_ hHeld ?_
        rotate_left
        · (refine Or.inl ⟨by rfl, fun w hSw => ?_⟩; (try dsimp only at hSw); go_simp; (try with_reducible rfl))
        (try simp only [Act.put, List.setIfInBounds_toArray, List.set_cons_zero, List.set_cons_succ])
        refine wpAnyH_take (i := 21) (oi := { dst := some 2, op := .assign (.tmp 23), type := _, pos := _, after := _, guard := none }) (v := ?_) rfl (by kernel_rfl) (by kernel_rfl) (by kernel_rfl) (fun _ _ _ h => h) ?_ hHeld ?_
        rotate_left
        · (refine Or.inl ⟨by rfl, fun w hSw => ?_⟩; (try dsimp only at hSw); go_simp; (try with_reducible rfl))
        (try simp only [Act.put, List.setIfInBounds_toArray, List.set_cons_zero, List.set_cons_succ])
        refine wpAnyH_done (by kernel_rfl) ?_ _
        go_wp2_with fail
        go_meet
        exact ⟨by first | rfl | trivial, hHeld.2.2.2⟩
      case rest =>
      obtain ⟨rfl, hkp⟩ := hcut
      have HB5 := hid (B1.out.trans (hkp.bel.mono hz0))
      clear hkp
      go_wp2
      go_ret
      exact ⟨by rw [HF.out]; rfl, HB5.out⟩
    · have t1 : (x.2.1 == (x.1.length : Int)) = false := by simp [har]
      have HF := hid (vvr_ar har)
      clear har
      go_upto_region 1 with fail
      go_cut [2] (fun s wx => s = .bool false ∧ Kp w0 0 wx)
      case first =>
        refine wp_region_held_drew (S := (fun w' => w'.cell? ⟨w.heap.size, 0, none⟩ = some (.slice a x.1.length cap) ∧ w'.cell? ⟨w.heap.size, 1, none⟩ = some (.int .i64 x.2.1) ∧ w'.cell? ⟨w.heap.size, 2, none⟩ = some (.slice o x.2.2.length capo) ∧ Kp w0 0 w')) (by kernel_rfl) ⟨q0, q1, q2, (kp_refl w0).drew⟩ (fun hHeld => ?_)
        refine wpAnyH_take (i := 0) (oi := { dst := some 3, op := .fieldAddr 32 (.tmp 1) 0, type := _, pos := _, after := _, guard := none }) (v := ?_) rfl (by kernel_rfl) (by kernel_rfl) (by kernel_rfl) (fun _ _ _ h => h) ?_ hHeld ?_
        rotate_left
        · (refine Or.inl ⟨by rfl, fun w hSw => ?_⟩; (try dsimp only at hSw); go_simp; (try with_reducible rfl))
        (try simp only [Act.put, List.setIfInBounds_toArray, List.set_cons_zero, List.set_cons_succ])
        refine wpAnyH_take (i := 1) (oi := { dst := some 4, op := .load 22 (.tmp 3), type := _, pos := _, after := _, guard := none }) (v := ?_) rfl (by kernel_rfl) (by kernel_rfl) (by kernel_rfl) (fun _ _ _ h => h) ?_ hHeld ?_
        rotate_left
        · (refine Or.inl ⟨by rfl, fun w hSw => ?_⟩; (try dsimp only at hSw); go_simp; (try with_reducible rfl))
        (try simp only [Act.put, List.setIfInBounds_toArray, List.set_cons_zero, List.set_cons_succ])
        refine wpAnyH_take (i := 2) (oi := { dst := some 5, op := .fieldAddr 32 (.tmp 1) 0, type := _, pos := _, after := _, guard := none }) (v := ?_) rfl (by kernel_rfl) (by kernel_rfl) (by kernel_rfl) (fun _ _ _ h => h) ?_ hHeld ?_
        rotate_left
        · (refine Or.inl ⟨by rfl, fun w hSw => ?_⟩; (try dsimp only at hSw); go_simp; (try with_reducible rfl))
        (try simp only [Act.put, List.setIfInBounds_toArray, List.set_cons_zero, List.set_cons_succ])
        refine wpAnyH_take (i := 3) (oi := { dst := some 6, op := .load 22 (.tmp 5), type := _, pos := _, after := _, guard := none }) (v := ?_) rfl (by kernel_rfl) (by kernel_rfl) (by kernel_rfl) (fun _ _ _ h => h) ?_ hHeld ?_
        rotate_left
        · (refine Or.inl ⟨by rfl, fun w hSw => ?_⟩; (try dsimp only at hSw); go_simp; (try with_reducible rfl))
        (try simp only [Act.put, List.setIfInBounds_toArray, List.set_cons_zero, List.set_cons_succ])
        refine wpAnyH_ready (rs := [4]) (by kernel_rfl) (by simp) ?_
        refine AllReadyH.cons (o := { dst := some 7, op := .call { callee := .value (.func 30), args := #[(.tmp 6)], argTypes := #[22] }, type := _, pos := _, after := _, guard := none }) rfl (fun K hK => ?_) AllReadyH.nil
        go_simp
        (with_reducible refine (SO.out _ (B1.out.trans (hHeld.2.2.2.bel.mono hz0))).mono ?_); rintro e wU ⟨rfl, hbU⟩
        (try go_wp2_with fail)
        refine hK.out _ _ ?_ (fun hH2 => ?_)
        · exact ⟨hHeld.2.2.2.cell hbU (by omega) hHeld.1, hHeld.2.2.2.cell hbU (by omega) hHeld.2.1, hHeld.2.2.2.cell hbU (by omega) hHeld.2.2.1, hHeld.2.2.2.call hbU⟩
        clear hK K hHeld
        have hHeld := hH2
        clear hH2
        (try simp only [Act.put, List.setIfInBounds_toArray, List.set_cons_zero, List.set_cons_succ])
        refine wpAnyH_ready (rs := [5]) (by kernel_rfl) (by simp) ?_
        refine AllReadyH.cons (o := { dst := some 8, op := .call { callee := .value (.func 31), args := #[(.tmp 7)], argTypes := #[61] }, type := _, pos := _, after := _, guard := none }) rfl (fun K hK => ?_) AllReadyH.nil
        go_simp
        (with_reducible refine (LI.out _ (B1.out.trans (hHeld.2.2.2.bel.mono hz0))).mono ?_); rintro e wL ⟨aL, capL, rfl, hoL, hbL⟩
        (try go_wp2_with fail)
        refine hK.out _ _ ?_ (fun hH2 => ?_)
        · exact ⟨hHeld.2.2.2.cell hbL (by omega) hHeld.1, hHeld.2.2.2.cell hbL (by omega) hHeld.2.1, hHeld.2.2.2.cell hbL (by omega) hHeld.2.2.1, hHeld.2.2.2.call hbL⟩
        clear hK K hHeld
        have hHeld := hH2
        clear hH2
        (try simp only [Act.put, List.setIfInBounds_toArray, List.set_cons_zero, List.set_cons_succ])
        refine wpAnyH_ready (rs := [6]) (by kernel_rfl) (by simp) ?_
        refine AllReadyH.cons (o := { dst := some 9, op := .call { callee := .value (.func 29), args := #[(.tmp 4), (.tmp 8)], argTypes := #[22, 22] }, type := _, pos := _, after := _, guard := none }) rfl (fun K hK => ?_) AllReadyH.nil
        go_simp
        (with_reducible refine (EQ.out _ aL capL (B1.out.trans (hHeld.2.2.2.bel.mono hz0)) (own_rd hoL)).mono ?_); rintro e wE ⟨rfl, hbE⟩
        (try go_wp2_with fail)
        refine hK.out _ _ ?_ (fun hH2 => ?_)
        · exact ⟨hHeld.2.2.2.cell hbE (by omega) hHeld.1, hHeld.2.2.2.cell hbE (by omega) hHeld.2.1, hHeld.2.2.2.cell hbE (by omega) hHeld.2.2.1, hHeld.2.2.2.call hbE⟩
        clear hK K hHeld
        have hHeld := hH2
        clear hH2
        (try simp only [Act.put, List.setIfInBounds_toArray, List.set_cons_zero, List.set_cons_succ])
        refine wpAnyH_take (i := 7) (oi := { dst := some 10, op := .move (.tmp 9), type := _, pos := _, after := _, guard := none }) (v := ?_) rfl (by kernel_rfl) (by kernel_rfl) (by kernel_rfl) (fun _ _ _ h => h) ?_ hHeld ?_
        rotate_left
        · (refine Or.inl ⟨by rfl, fun w hSw => ?_⟩; (try dsimp only at hSw); go_simp; (try with_reducible rfl))
        (try simp only [Act.put, List.setIfInBounds_toArray, List.set_cons_zero, List.set_cons_succ])
        refine wpAnyH_take (i := 8) (oi := { dst := some 11, op := .fieldAddr 32 (.tmp 1) 1, type := _, pos := _, after := _, guard := some (7, true) }) (v := ?_) rfl (by kernel_rfl) (by kernel_rfl) (by kernel_rfl) (fun _ _ _ h => h) ?_ hHeld ?_
        rotate_left
        · (refine Or.inl ⟨by rfl, fun w hSw => ?_⟩; (try dsimp only at hSw); go_simp; (try with_reducible rfl))
        (try simp only [Act.put, List.setIfInBounds_toArray, List.set_cons_zero, List.set_cons_succ])
        refine wpAnyH_take (i := 9) (oi := { dst := some 12, op := .fieldAddr 30 (.tmp 11) 0, type := _, pos := _, after := _, guard := some (7, true) }) (v := ?_) rfl (by kernel_rfl) (by kernel_rfl) (by kernel_rfl) (fun _ _ _ h => h) ?_ hHeld ?_
        rotate_left
        · (refine Or.inl ⟨by rfl, fun w hSw => ?_⟩; (try dsimp only at hSw); go_simp; (try with_reducible rfl))
        (try simp only [Act.put, List.setIfInBounds_toArray, List.set_cons_zero, List.set_cons_succ])
        refine wpAnyH_take (i := 10) (oi := { dst := some 13, op := .load 3 (.tmp 12), type := _, pos := _, after := _, guard := some (7, true) }) (v := ?_) rfl (by kernel_rfl) (by kernel_rfl) (by kernel_rfl) (fun _ _ _ h => h) ?_ hHeld ?_
        rotate_left
        · (refine Or.inl ⟨by rfl, fun w hSw => ?_⟩; (try dsimp only at hSw); go_simp; (try with_reducible rfl))
        (try simp only [Act.put, List.setIfInBounds_toArray, List.set_cons_zero, List.set_cons_succ])
        refine wpAnyH_take (i := 11) (oi := { dst := some 14, op := .fieldAddr 32 (.tmp 1) 0, type := _, pos := _, after := _, guard := some (7, true) }) (v := ?_) rfl (by kernel_rfl) (by kernel_rfl) (by kernel_rfl) (fun _ _ _ h => h) ?_ hHeld ?_
        rotate_left
        · (refine Or.inl ⟨by rfl, fun w hSw => ?_⟩; (try dsimp only at hSw); go_simp; (try with_reducible rfl))
        (try simp only [Act.put, List.setIfInBounds_toArray, List.set_cons_zero, List.set_cons_succ])
        refine wpAnyH_take (i := 12) (oi := { dst := some 15, op := .load 22 (.tmp 14), type := _, pos := _, after := _, guard := some (7, true) }) (v := ?_) rfl (by kernel_rfl) (by kernel_rfl) (by kernel_rfl) (fun _ _ _ h => h) ?_ hHeld ?_
        rotate_left
        · (refine Or.inl ⟨by rfl, fun w hSw => ?_⟩; (try dsimp only at hSw); go_simp; (try with_reducible rfl))
        (try simp only [Act.put, List.setIfInBounds_toArray, List.set_cons_zero, List.set_cons_succ])
        refine wpAnyH_take (i := 13) (oi := { dst := some 16, op := .call { callee := .builtin .len, args := #[(.tmp 15)], argTypes := #[22] }, type := _, pos := _, after := _, guard := some (7, true) }) (v := ?_) rfl (by kernel_rfl) (by kernel_rfl) (by kernel_rfl) (fun _ _ _ h => h) ?_ hHeld ?_
        rotate_left
        · (refine Or.inl ⟨by rfl, fun w hSw => ?_⟩; (try dsimp only at hSw); go_simp; (try with_reducible rfl))
        (try simp only [Act.put, List.setIfInBounds_toArray, List.set_cons_zero, List.set_cons_succ])
        refine wpAnyH_take (i := 14) (oi := { dst := some 17, op := .binOp .eql 3 (.tmp 13) (.tmp 16) 3, type := _, pos := _, after := _, guard := some (7, true) }) (v := .bool false) rfl (by kernel_rfl) (by kernel_rfl) (by kernel_rfl) (fun _ _ _ h => h) ?_ hHeld ?_
        · (refine Or.inl ⟨by rfl, fun w hSw => ?_⟩; (try dsimp only at hSw); go_simp; (try rfl))
        (try simp only [Act.put, List.setIfInBounds_toArray, List.set_cons_zero, List.set_cons_succ])
        refine wpAnyH_take (i := 15) (oi := { dst := some 18, op := .pick (.tmp 10) (.tmp 17) (.const (.bool false)), type := _, pos := _, after := _, guard := none }) (v := ?_) rfl (by kernel_rfl) (by kernel_rfl) (by kernel_rfl) (fun _ _ _ h => h) ?_ hHeld ?_
        rotate_left
        · (refine Or.inl ⟨by rfl, fun w hSw => ?_⟩; (try dsimp only at hSw); go_simp; (try with_reducible rfl))
        (try simp only [Act.put, List.setIfInBounds_toArray, List.set_cons_zero, List.set_cons_succ])
        refine wpAnyH_take (i := 16) (oi := { dst := some 19, op := .move (.tmp 18), type := _, pos := _, after := _, guard := none }) (v := ?_) rfl (by kernel_rfl) (by kernel_rfl) (by kernel_rfl) (fun _ _ _ h => h) ?_ hHeld ?_
        rotate_left
        · (refine Or.inl ⟨by rfl, fun w hSw => ?_⟩; (try dsimp only at hSw); go_simp; (try with_reducible rfl))
        (try simp only [Act.put, List.setIfInBounds_toArray, List.set_cons_zero, List.set_cons_succ])
        refine wpAnyH_take (i := 17) (oi := { dst := some 20, op := .fieldAddr 32 (.tmp 1) 1, type := _, pos := _, after := _, guard := some (16, true) }) (v := undef) rfl (by kernel_rfl) (by kernel_rfl) (by kernel_rfl) (fun _ _ _ h => h) (Or.inr ?_) hHeld ?_
        · exact ⟨by rfl, rfl⟩
        (try simp only [Act.put, List.setIfInBounds_toArray, List.set_cons_zero, List.set_cons_succ])
        refine wpAnyH_take (i := 18) (oi := { dst := some 21, op := .load 30 (.tmp 20), type := _, pos := _, after := _, guard := some (16, true) }) (v := undef) rfl (by kernel_rfl) (by kernel_rfl) (by kernel_rfl) (fun _ _ _ h => h) (Or.inr ?_) hHeld ?_
        · exact ⟨by rfl, rfl⟩
        (try simp only [Act.put, List.setIfInBounds_toArray, List.set_cons_zero, List.set_cons_succ])
        refine wpAnyH_take (i := 19) (oi := { dst := some 22, op := .call { callee := .value (.func 32), args := #[(.tmp 21)], argTypes := #[30] }, type := _, pos := _, after := _, guard := some (16, true) }) (v := undef) rfl (by kernel_rfl) (by kernel_rfl) (by kernel_rfl) (fun _ _ _ h => h) (Or.inr ?_) hHeld ?_
        · exact ⟨by rfl, rfl⟩
        (try simp only [Act.put, List.setIfInBounds_toArray, List.set_cons_zero, List.set_cons_succ])
        refine wpAnyH_take (i := 20) (oi := { dst := some 23, op := .pick (.tmp 19) (.tmp 22) (.const (.bool false)), type := _, pos := _, after := _, guard := none }) (v := ?_) rfl (by kernel_rfl) (by kernel_rfl) (by kernel_rfl) (fun _ _ _ h => h) ?_ hHeld ?_
        rotate_left
        · (refine Or.inl ⟨by rfl, fun w hSw => ?_⟩; (try dsimp only at hSw); go_simp; (try with_reducible rfl))
        (try simp only [Act.put, List.setIfInBounds_toArray, List.set_cons_zero, List.set_cons_succ])
        refine wpAnyH_take (i := 21) (oi := { dst := some 2, op := .assign (.tmp 23), type := _, pos := _, after := _, guard := none }) (v := ?_) rfl (by kernel_rfl) (by kernel_rfl) (by kernel_rfl) (fun _ _ _ h => h) ?_ hHeld ?_
        rotate_left
        · (refine Or.inl ⟨by rfl, fun w hSw => ?_⟩; (try dsimp only at hSw); go_simp; (try with_reducible rfl))
        (try simp only [Act.put, List.setIfInBounds_toArray, List.set_cons_zero, List.set_cons_succ])
        refine wpAnyH_done (by kernel_rfl) ?_ _
        go_wp2_with fail
        go_meet
        exact ⟨by first | rfl | trivial, hHeld.2.2.2⟩
      case rest =>
      obtain ⟨rfl, hkp⟩ := hcut
      have HB5 := hid (B1.out.trans (hkp.bel.mono hz0))
      clear hkp
      go_wp2
      go_ret
      exact ⟨by rw [HF.out]; rfl, HB5.out⟩
end Go.Proofs.YtffhfnkcbgbliaaDoor.Vvr
