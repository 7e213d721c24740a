/- Relations out of tries, both sides (TrieToRelation: a projection to the inverse permutation). -/
import Derived.Test.YtfeeimbepdfadaaVarName
import Derived.Test.YtfeeimbepdfadaaIntRow
import Derived.Deep.QuietTactic
import Derived.IntWalk
import Derived.BigQuiet
import Derived.RangeFuncBox
import Derived.RangeFuncLeaves
import Derived.Shelf.Abstract
import Derived.Shelf.AbstractIn
import Derived.WalkKit
import Derived.OwnWalkIn
import Derived.TacticsInMore
import Derived.LoopNIn
import Derived.LoopIn
import Derived.Maps.AppendAt
import Derived.Shelf.SortM.Plain
import Derived.Shelf.SortM.SortNone
import Derived.Lib.SlKeysI
import Derived.Test.YtfeeimbepdfadaaNum
import Derived.Test.YtfeeimbepdfadaaSrtI
import Derived.Test.YtfeeimbepdfadaaPrjI
import Derived.Test.YtfeeimbepdfadaaPrjS
import Derived.Test.YtfeeimbepdfadaaAsc
import Derived.Test.YtfeeimbepdfadaaRelValidI
import Derived.Test.YtfeeimbepdfadaaRelValidS
import Derived.Test.YtfeeimbepdfadaaRelKit
namespace Go.Proofs.Ytfeeimbepdfadaa.PermP
open Go.Proofs.Ytfeeimbepdfadaa.VarName
set_option linter.unusedVariables false

def fitP (cs : List Int) (i : Nat) : Bool := isv (cs.getD i 0) (cs.length : Int) && !decide (cs.getD i 0 ∈ cs.take i)
def permOk (cs : List Int) : Bool := ((List.range cs.length).all (fitP cs)) && decide (cs.length ≤ 5)
theorem fit_at {cs : List Int} (i : Nat) (h : i < cs.length) : fitP cs i = (isv cs[i] (cs.length : Int) && !decide (cs[i] ∈ cs.take i)) := by
  unfold fitP
  rw [List.getD_eq_getElem?_getD, List.getElem?_eq_getElem h]
  rfl
theorem perm_bad {cs : List Int} (i : Nat) (h : i < cs.length) (hb : fitP cs i = false) : permOk cs = false := by
  unfold permOk
  have : (List.range cs.length).all (fitP cs) = false := by
    rw [List.all_eq_false]
    exact ⟨i, by simpa using h, by simp [hb]⟩
  rw [this]; rfl
theorem perm_long {cs : List Int} (h : 5 < cs.length) : permOk cs = false := by
  unfold permOk
  rw [show decide (cs.length ≤ 5) = false by simp; omega, Bool.and_false]
theorem perm_end {cs : List Int} (h : ∀ i, i < cs.length → fitP cs i = true) : permOk cs = decide (cs.length ≤ 5) := by
  unfold permOk
  rw [show (List.range cs.length).all (fitP cs) = true by rw [List.all_eq_true]; intro i hi; exact h i (by simpa using hi), Bool.true_and]
theorem perm_parts {cs : List Int} (h : permOk cs = true) : cs.length ≤ 5 ∧ cs.Nodup ∧ ∀ v ∈ cs, 0 ≤ v ∧ v < (cs.length : Int) := by
  simp only [permOk, Bool.and_eq_true, decide_eq_true_eq, List.all_eq_true, List.mem_range] at h
  obtain ⟨h1, h2⟩ := h
  refine ⟨h2, ?_, fun v hv => ?_⟩
  · unfold List.Nodup
    rw [List.pairwise_iff_getElem]
    intro i j hi hj hij e
    have := h1 j hj
    rw [fit_at j hj] at this
    simp only [Bool.and_eq_true, Bool.not_eq_true', decide_eq_false_iff_not] at this
    apply this.2
    rw [← e]
    exact List.mem_iff_getElem.2 ⟨i, by simp; omega, by rw [List.getElem_take]⟩
  · obtain ⟨i, hi, rfl⟩ := List.getElem_of_mem hv
    have := h1 i hi
    rw [fit_at i hi] at this
    simp only [Bool.and_eq_true] at this
    exact isv_iff.1 this.1
theorem perm_mk {cs : List Int} (h5 : cs.length ≤ 5) (hn : cs.Nodup) (hv : ∀ v ∈ cs, 0 ≤ v ∧ v < (cs.length : Int)) : permOk cs = true := by
  rw [perm_end, decide_eq_true h5]
  intro i hi
  rw [fit_at i hi]
  have h1 := hv _ (List.getElem_mem hi)
  rw [isv_iff.2 h1, Bool.true_and]
  simp only [Bool.not_eq_true', decide_eq_false_iff_not]
  intro hm
  obtain ⟨j, hj, e⟩ := List.getElem_of_mem hm
  rw [List.getElem_take] at e
  have hj' : j < i := by simp at hj; omega
  exact (List.pairwise_iff_getElem.1 hn) j i (by omega) hi hj' e

def srt (cs : List Int) : List Int := cs.mergeSort fun x y => decide (x ≤ y)
theorem srt_perm (cs : List Int) : (srt cs).Perm cs := List.mergeSort_perm _ _
theorem srt_len (cs : List Int) : (srt cs).length = cs.length := (srt_perm cs).length_eq
theorem srt_asc (cs : List Int) : (srt cs).Pairwise (fun x y => x ≤ y) := by
  have := List.pairwise_mergeSort (le := fun (x y : Int) => decide (x ≤ y)) (fun a b c h1 h2 => by simp at *; omega) (fun a b => by simp; omega) cs
  exact this.imp (by intro a b h; simpa using h)
/-- Sorted, each number stands at its own index just where the list is a permutation. -/
theorem perm_yes {cs : List Int} (h5 : cs.length ≤ 5) (h : ∀ i (hi : i < (srt cs).length), (srt cs)[i] = (i : Int)) : permOk cs = true := by
  have hp := srt_perm cs
  refine perm_mk h5 ?_ (fun v hv => ?_)
  · refine hp.nodup_iff.1 ?_
    unfold List.Nodup
    rw [List.pairwise_iff_getElem]
    intro i j hi hj hij e
    rw [h i hi, h j hj] at e
    omega
  · obtain ⟨i, hi, e⟩ := List.getElem_of_mem (hp.mem_iff.2 hv)
    have h1 := srt_len cs
    rw [h i hi] at e
    omega
theorem asc_step {ss : List Int} (ha : ss.Pairwise (fun x y => x ≤ y)) (hn : ss.Nodup) : ∀ (d i : Nat) (h : i + d < ss.length), ss[i] + d ≤ ss[i + d]
  | 0, i, h => by simp
  | d + 1, i, h => by
    have ih := asc_step ha hn d i (by omega)
    have h1 := (List.pairwise_iff_getElem.1 ha) (i + d) (i + (d + 1)) (by omega) h (by omega)
    have h2 := (List.pairwise_iff_getElem.1 hn) (i + d) (i + (d + 1)) (by omega) h (by omega)
    omega
theorem perm_srt {cs : List Int} (h : permOk cs = true) (i : Nat) (hi : i < (srt cs).length) : (srt cs)[i] = (i : Int) := by
  obtain ⟨h5, hn, hv⟩ := perm_parts h
  have hp := srt_perm cs
  have hl := srt_len cs
  have hn' : (srt cs).Nodup := hp.nodup_iff.2 hn
  have ha := srt_asc cs
  have h0 := asc_step ha hn' i 0 (by omega)
  have h1 := asc_step ha hn' ((srt cs).length - 1 - i) i (by omega)
  have e0 := hv _ (hp.mem_iff.1 (List.getElem_mem (show 0 < (srt cs).length by omega)))
  have e1 := hv _ (hp.mem_iff.1 (List.getElem_mem (show i + ((srt cs).length - 1 - i) < (srt cs).length by omega)))
  simp only [Nat.zero_add] at h0
  omega
theorem perm_no {cs : List Int} (i : Nat) (hi : i < (srt cs).length) (hne : (srt cs)[i] ≠ (i : Int)) : permOk cs = false := by
  cases h : permOk cs with
  | false => rfl
  | true => exact absurd (perm_srt h i hi) hne
end Go.Proofs.Ytfeeimbepdfadaa.PermP

namespace Go.Proofs.Ytfeeimbepdfadaa.Fidx
open Go.RowKit
open Go.Proofs.Ytfeeimbepdfadaa.Num Go.Proofs.Ytfeeimbepdfadaa.IntRow Go.Proofs.Ytfeeimbepdfadaa.VarName
set_option linter.unusedVariables false

/-- The index that spec.l7Find gives. -/
def fidx : List Int → Int → Nat → Int
  | [], _, _ => -1
  | x :: t, v, k => if x = v then (k : Int) else fidx t v (k + 1)
theorem fidx_dec (l : List Int) (v : Int) (k : Nat) : decide (0 ≤ fidx l v k) = decide (v ∈ l) := by
  induction l generalizing k with
  | nil => simp [fidx]
  | cons x t ih =>
    by_cases h : x = v
    · simp [fidx, h]
    · have h' : ¬ v = x := fun e => h e.symm
      have := ih (k + 1)
      simp [fidx, h, h'] at this ⊢
      exact this
theorem fidx_bd (l : List Int) (v : Int) (k : Nat) : -1 ≤ fidx l v k ∧ fidx l v k ≤ (k : Int) + l.length := by
  induction l generalizing k with
  | nil => simp [fidx]
  | cons x t ih =>
    by_cases h : x = v
    · simp [fidx, h]; omega
    · have := ih (k + 1)
      simp [fidx, h] at this ⊢
      omega
theorem spec_findF (a : Option Addr) (n cap B : Nat) (xs : List Int) (v z : Int) (w : World) (hl : xs.length = n) (hn : n ≤ 1048576) (hz : fidx xs v 0 = z) (h : Rd w B a xs) :
    Calls Try.prog 62 #[.slice a n cap, .int .i64 v] w fun e w' => e = .returned (.int .i64 z) ∧ w' = w := by
  subst hl
  have HZ := hid hz
  clear hz
  go_enter Try.func62, Try.ntmps62
  go_wp2
  go_loop [5] (fun i => ∃ k : Nat, k ≤ xs.length ∧ i = .int .i64 k ∧ Hid (fidx (xs.drop k) v k = z)) (fun i => xs.length - (intOf i).toNat)
  case atStart => exact ⟨0, Nat.zero_le _, rfl, HZ⟩
  case round =>
    obtain ⟨k, hk, rfl, hno⟩ := hrel
    by_cases hlt : k < xs.length
    · obtain ⟨b, off, rfl, hbB, hc⟩ := h (by omega)
      have g := hc k hlt
      clear hc h
      have hd := hno.out
      rw [List.drop_eq_getElem_cons hlt] at hd
      by_cases hx : xs[k] = v
      · have ht : (xs[k] == v) = true := by simp [hx]
        have H := hid (show (k : Int) = z by simpa [fidx, hx] using hd)
        clear hx hd
        go_wp2
        go_ret
        exact ⟨by rw [← H.out]; rfl, rfl⟩
      · have ht : (xs[k] == v) = false := by simp only [beq_eq_false_iff_ne]; exact hx
        have HN := hid (show fidx (xs.drop (k + 1)) v (k + 1) = z by simpa [fidx, hx] using hd)
        clear hx hd
        go_wp2
        go_round
        case rel => exact ⟨k + 1, by omega, by go_num, HN⟩
        case measure => simp [intOf]; omega
    · have e : k = xs.length := by omega
      subst e
      have H := hid (show (-1 : Int) = z by have := hno.out; rw [List.drop_length] at this; exact this)
      clear h
      go_wp2
      go_ret
      exact ⟨by rw [← H.out]; rfl, rfl⟩
theorem in_isF (v lo hi : Int) (b : Bool) (w : World) (h : inR v lo hi = b) : Calls Try.prog 61 #[.int .i64 v, .int .i64 lo, .int .i64 hi] w fun e w' => e = .returned (.bool b) ∧ w' = w := (in_is v lo hi b w h).mono fun _ _ h => ⟨h.1, h.2.symm⟩
end Go.Proofs.Ytfeeimbepdfadaa.Fidx

namespace Go.Proofs.Ytfeeimbepdfadaa.PermS
open Go.RowKit
open Go.Proofs.Ytfeeimbepdfadaa.Num Go.Proofs.Ytfeeimbepdfadaa.IntRow Go.Proofs.Ytfeeimbepdfadaa.VarName Go.Proofs.Ytfeeimbepdfadaa.PermP Go.Proofs.Ytfeeimbepdfadaa.Fidx
set_option linter.unusedVariables false

theorem rd_takeP {w : World} {B k : Nat} {a : Option Addr} {xs : List Int} (h : Rd w B a xs) : Rd w B a (xs.take k) := fun hp => by
  have hp' : 0 < xs.length := by simp at hp; omega
  obtain ⟨b, off, e, hb, hc⟩ := h hp'
  refine ⟨b, off, e, hb, fun j hj => ?_⟩
  have hj' : j < xs.length := by simp at hj; omega
  rw [hc j hj', List.getElem_take]

set_option maxRecDepth 100000 in
set_option maxHeartbeats 4000000 in
theorem spec_perm (a : Option Addr) (cap B : Nat) (cs : List Int) (w : World) (hn : cs.length ≤ 1048576) (hcap : cs.length ≤ cap) (h : Rd w B a cs) (hB : B ≤ w.heap.size) :
    Calls Try.prog 17 #[.slice a cs.length cap] w fun e w' => e = .returned (.bool (permOk cs)) ∧ Below w.heap.size w w' := by
  obtain ⟨ok, hok⟩ : ∃ z, permOk cs = z := ⟨_, rfl⟩
  rw [hok]
  have HOK := hid hok
  have HR := hid h
  have hww : IntKind.i64.wrap ((cs.length : Int) - 1) = (cs.length : Int) - 1 := IntWalk.i64_in _ (by omega)
  have HWW := hid hww
  clear hok h hww
  go_enter Try.func17, Try.ntmps17
  go_wp2
  go_loopw [3] (fun i wr => ∃ m : Nat, m ≤ cs.length ∧ i = .int .i64 m ∧ Hid (∀ j, j < m → fitP cs j = true) ∧ Hid (Below w.heap.size w wr)) (fun i _ => cs.length - (intOf i).toNat)
  case atStart => exact ⟨0, Nat.zero_le _, rfl, hid (fun j h => by omega), Below.refl _ _⟩
  case round =>
    obtain ⟨m, hm, rfl, hfits, hb3⟩ := hrel
    by_cases hltm : m < cs.length
    · have hrd := HR.out.below (hb3.out.mono hB)
      have HT := hid (fun W (hW : Below B wr W) => rd_takeP (k := m) (hrd.below hW))
      obtain ⟨b, off, rfl, hbB, hc⟩ := hrd (by omega)
      have g := hc m hltm
      have hm' : (m : Int) < (cs.length : Int) := by omega
      have hm0 : (0 : Int) ≤ (m : Int) := by omega
      have hmc : (m : Int) ≤ (cap : Int) := by omega
      obtain ⟨ov1, hov⟩ : ∃ z, isv cs[m] (cs.length : Int) = z := ⟨_, rfl⟩
      have HV := hid hov
      have hin : inR cs[m] 0 ((cs.length : Int) - 1) = ov1 := by rw [inR_isv]; exact hov
      have IV := hid (fun W => in_isF cs[m] 0 ((cs.length : Int) - 1) ov1 W hin)
      have hww := HWW.out
      clear hc hov hin
      cases ov1 with
      | false =>
        have hf := perm_bad m hltm (by rw [fit_at m hltm, HV.out]; rfl)
        obtain rfl : false = ok := hf.symm.trans HOK.out
        clear hf
        go_wp2
        go_quiet ((go_at_call 61; exact Calls.quiet_of_same (IV.out _)))
        clear hww
        go_wp2
        go_ret
        exact ⟨rfl, ⟨hb3.out.os, hb3.out.tape, hb3.out.output, hb3.out.size, hb3.out.block⟩⟩
      | true =>
        obtain ⟨z, hz⟩ : ∃ z, fidx (cs.take m) cs[m] 0 = z := ⟨_, rfl⟩
        have hbd := fidx_bd (cs.take m) cs[m] 0
        have hdec := fidx_dec (cs.take m) cs[m] 0
        rw [hz] at hbd hdec
        have hlk : (cs.take m).length = m := by simp; omega
        have F := hid (fun W (hW : Below B wr W) => spec_findF (some ⟨b, off, none⟩) m cap B (cs.take m) cs[m] z W hlk (by omega) hz (HT.out W hW))
        have HD := hid hdec
        have hz1 : -1 ≤ z := hbd.1
        have hz2 : z ≤ 1048576 := by omega
        clear hbd hdec hlk hz
        by_cases hzp : 0 ≤ z
        · have hf := perm_bad m hltm (by rw [fit_at m hltm, HV.out, ← HD.out]; simp [hzp])
          obtain rfl : false = ok := hf.symm.trans HOK.out
          clear hf
          go_wp2
          go_quiet ((first | (go_at_call 61; exact Calls.quiet_of_same (IV.out _)) | (go_at_call 62; exact Calls.quiet_of_same (F.out _ ⟨rfl, rfl, rfl, Nat.le_refl _, fun _ _ => rfl⟩))))
          clear hww
          go_wp2
          go_ret
          exact ⟨rfl, ⟨hb3.out.os, hb3.out.tape, hb3.out.output, hb3.out.size, hb3.out.block⟩⟩
        · have HFS := hid (show ∀ j, j < m + 1 → fitP cs j = true from fun j hj => by
            by_cases e : j = m
            · subst e; rw [fit_at j hltm, HV.out, ← HD.out]; simp [hzp]
            · exact hfits.out j (by omega))
          go_wp2
          go_quiet ((first | (go_at_call 61; exact Calls.quiet_of_same (IV.out _)) | (go_at_call 62; exact Calls.quiet_of_same (F.out _ ⟨rfl, rfl, rfl, Nat.le_refl _, fun _ _ => rfl⟩))))
          clear hww
          go_wp2
          go_roundw
          case rel => first | exact ⟨m + 1, by omega, by go_num, HFS, hid ⟨hb3.out.os, hb3.out.tape, hb3.out.output, hb3.out.size, hb3.out.block⟩⟩ | ((repeat apply Exists.intro); refine And.intro ?_ rfl; exact ⟨m + 1, by omega, by go_num, HFS, hid ⟨hb3.out.os, hb3.out.tape, hb3.out.output, hb3.out.size, hb3.out.block⟩⟩)
          case measure => simp [intOf]; omega
    · have hf := perm_end (cs := cs) (fun j hj => hfits.out j (by omega))
      have hnm : ¬ (m : Int) < (cs.length : Int) := by omega
      by_cases h5 : cs.length ≤ 5
      · obtain rfl : true = ok := by rw [← HOK.out, hf]; simp [h5]
        have h5' : (cs.length : Int) ≤ 5 := by omega
        clear hf
        go_wp2
        go_ret
        exact ⟨rfl, hb3.out⟩
      · obtain rfl : false = ok := by rw [← HOK.out, hf]; simp [h5]
        have h5' : ¬ (cs.length : Int) ≤ 5 := by omega
        clear hf
        go_wp2
        go_ret
        exact ⟨rfl, hb3.out⟩
end Go.Proofs.Ytfeeimbepdfadaa.PermS

namespace Go.Proofs.Ytfeeimbepdfadaa.SqV
open Go.RowKit Go.Shelf Go.Sort
open Go.Proofs.Ytfeeimbepdfadaa.Num Go.Proofs.Ytfeeimbepdfadaa.IntRow Go.Proofs.Ytfeeimbepdfadaa.PermP
set_option linter.unusedVariables false

attribute [local go_sem] Oper.semAt_some

/-- What has come when k rounds are over. -/
def upto (zs : List Int) (k : Nat) : List Int := (List.range k).map fun j => zs[j]?.getD 0
theorem upto_succ (zs : List Int) (k : Nat) : upto zs (k + 1) = upto zs k ++ [zs[k]?.getD 0] := by simp [upto, List.range_succ]
theorem upto_length (zs : List Int) (k : Nat) : (upto zs k).length = k := by simp [upto]
theorem upto_all (zs : List Int) : upto zs zs.length = zs := by
  apply List.ext_getElem
  · simp [upto]
  · intro i h1 h2
    simp [upto, h2]
theorem upto_take (zs : List Int) {k : Nat} (hk : k ≤ zs.length) : upto zs k = zs.take k := by
  apply List.ext_getElem
  · simp [upto, hk]
  · intro i h1 h2
    have : i < zs.length := by simp [upto] at h1; omega
    simp [upto, this]

set_option maxRecDepth 100000 in
set_option maxHeartbeats 2000000 in
/-- The closure of slices.Values, at a slice whose cells lie below n₀, for every loop body that keeps them. -/
theorem closure (F : Fence) (n : Nat) (h7 : F.fn 105) (hro : F.round = none) (hn : 1 ≤ n) (l Bs n₀ b off cap : Nat) (zs : List Int) (hreach : zs.length * 8 ≤ 140737488351232) (hb : b < n₀) (J Jx : List Int → World → Prop)
    (hY : ∀ pre x W, J pre W → pre.length < zs.length → YieldAt F (n - 1) Try.prog l #[.int .i64 x] W fun e W' =>
      (e = .returned (.bool true) ∧ J (pre ++ [x]) W' ∧ Below n₀ W W') ∨ (e = .returned (.bool false) ∧ Jx (pre ++ [x]) W'))
    (W : World) (hBs : W.cell? ⟨Bs, 0, none⟩ = some (.slice (some ⟨b, off, none⟩) zs.length cap)) (hc : ∀ j, j < zs.length → W.cell? ⟨b, off + j, none⟩ = some (.int .i64 (zs[j]?.getD 0))) (h0 : J [] W) :
    CallsIn F n Try.prog 105 #[.func (.yield l) #[] #[], .pointer (some ⟨Bs, 0, none⟩)] W fun e W' => (∃ v, e = .returned v) ∧
      ((∃ ys, ys = upto zs zs.length ∧ J ys W') ∨ (∃ pre, (∃ k, k ≤ zs.length ∧ pre = upto zs k) ∧ Jx pre W')) := by
  obtain ⟨len, hlen⟩ : ∃ len, zs.length = len := ⟨_, rfl⟩
  rw [hlen] at hY hBs hc hreach ⊢
  clear hlen
  refine callsIn_of_wp Try.func105 rfl h7 ?_ hro
  simp only [Try.ntmps105, List.size_toArray, List.length_cons, List.length_nil, Nat.reduceAdd, Nat.reduceSub, Array.replicate_succ, Array.replicate_zero, List.push_toArray, List.append_toArray, List.nil_append, List.cons_append]
  gi_wp2
  gi_loopw [7] (fun i wr => ∃ k : Nat, k ≤ len ∧ i = .int .i64 k ∧ J (upto zs k) wr ∧ Below n₀ W wr)
    (fun i _ => len - (intOf i).toNat)
  case atStart => exact ⟨0, Nat.zero_le _, rfl, h0, Below.refl _ _⟩
  case round =>
    obtain ⟨k, hk, rfl, hJs, hnx⟩ := hrel
    have hcx : k < len → wr.cell? ⟨b, off + k, none⟩ = some (.int .i64 (zs[k]?.getD 0)) := fun h => (hnx.cell (p := ⟨b, off + k, none⟩) hb).trans (hc k h)
    by_cases hlt : k < len
    · obtain ⟨fn, tmps, assign, body, hy, hR⟩ := hY _ (zs[k]?.getD 0) wr hJs (by rw [upto_length]; exact hlt)
      have hcx' := hcx hlt
      gi_wp2
      refine hR.mono ?_
      rintro e W3 (⟨rfl, hJ3, hk3⟩ | ⟨rfl, hJx3⟩)
      · gi_wp2
        go_roundw
        case rel => exact ⟨k + 1, by omega, by simp, by rw [upto_succ]; exact hJ3, hnx.trans hk3⟩
        case measure => simp [intOf]; omega
      · gi_wp2
        refine bodyPost_ret (results_none rfl _ _ _) rfl ?_
        exact ⟨⟨_, rfl⟩, .inr ⟨_, ⟨k + 1, by omega, (upto_succ _ _).symm⟩, hJx3⟩⟩
    · obtain rfl : k = len := by omega
      gi_wp2
      go_end0
      exact ⟨⟨_, rfl⟩, .inl ⟨_, rfl, hJs⟩⟩

set_option maxRecDepth 100000 in
set_option maxHeartbeats 1000000 in
/-- .. at a slice without elements. -/
theorem closure_nil (F : Fence) (n : Nat) (h7 : F.fn 105) (hro : F.round = none) (l Bs cap : Nat) (a : Option Addr) (J : List Int → World → Prop) (W : World) (hBs : W.cell? ⟨Bs, 0, none⟩ = some (.slice a 0 cap)) (h0 : J [] W) :
    CallsIn F n Try.prog 105 #[.func (.yield l) #[] #[], .pointer (some ⟨Bs, 0, none⟩)] W fun e W' => (∃ v, e = .returned v) ∧ J [] W' := by
  refine callsIn_of_wp Try.func105 rfl h7 ?_ hro
  simp only [Try.ntmps105, List.size_toArray, List.length_cons, List.length_nil, Nat.reduceAdd, Nat.reduceSub, Array.replicate_succ, Array.replicate_zero, List.push_toArray, List.append_toArray, List.nil_append, List.cons_append]
  gi_wp2
  gi_loopw [7] (fun i wr => i = .int .i64 0 ∧ J [] wr) (fun _ _ => 0)
  case atStart => exact ⟨rfl, h0⟩
  case round =>
    obtain ⟨rfl, hJs⟩ := hrel
    gi_wp2
    go_end0
    exact ⟨⟨_, rfl⟩, hJs⟩

set_option maxHeartbeats 1000000 in
/-- slices.Values(s): the slice value is boxed; the function value captures the box. -/
theorem values_in (F : Fence) (n : Nat) (h5 : F.fn 60) (hro : F.round = none) (a : Option Addr) (len cap : Nat) (w : World) :
    CallsIn F n Try.prog 60 #[.slice a len cap] w fun e w' => e = .returned (.func (.func 105) #[] #[.pointer (some ⟨w.heap.size, 0, none⟩)]) ∧ w' = w.alloc (.cells #[.slice a len cap] 27) := by
  refine callsIn_of_wp Try.func60 rfl h5 ?_ hro
  simp only [Try.ntmps60, List.size_toArray, List.length_cons, List.length_nil, Nat.reduceAdd, Nat.reduceSub, Array.replicate_succ, Array.replicate_zero, List.push_toArray, List.append_toArray, List.nil_append, List.cons_append]
  gi_wp2
  go_ret
  exact ⟨rfl, rfl⟩

/-- The value that slices.Values(s) hands back gives all of zs, in order, or a prefix. -/
theorem values_stops (F : Fence) (n : Nat) (h7 : F.fn 105) (hro : F.round = none) (hn : 1 ≤ n) (Bs n₀ B : Nat) (a : Option Addr) (cap : Nat) (zs : List Int) (hreach : zs.length * 8 ≤ 140737488351232) (w : World) (hBs : Bs < w.heap.size) (hn₀ : n₀ ≤ w.heap.size) (hB : B ≤ n₀)
    (hc : w.cell? ⟨Bs, 0, none⟩ = some (.slice a zs.length cap)) (hI : Rd w B a zs) :
    SeqStopsK F n Try.prog 105 #[.pointer (some ⟨Bs, 0, none⟩)] (fun x : Int => #[Value.int .i64 x]) (Below n₀) (fun ys => ys = zs) (fun pre => pre <+: zs) zs.length w := fun l J Jx W hW _ _ hY h0 => by
  have hc' := (hW.cell (p := ⟨Bs, 0, none⟩) hBs).trans hc
  rcases Nat.eq_zero_or_pos zs.length with hz | hz
  · obtain rfl : zs = [] := List.eq_nil_of_length_eq_zero hz
    exact (closure_nil F n h7 hro l Bs cap a J W hc' h0).mono fun e W' ⟨he, hj⟩ => ⟨he, .inl ⟨_, rfl, hj⟩⟩
  · obtain ⟨b, off, rfl, hb, hcs⟩ := (hI.below (hW.mono (by omega))) hz
    refine (closure F n h7 hro hn l Bs n₀ b off cap zs hreach (by omega) J Jx hY W hc' (fun j hj => by rw [hcs j hj, List.getElem?_eq_getElem hj]; rfl) h0).mono ?_
    rintro e W' ⟨he, ⟨ys, rfl, hj⟩ | ⟨pre, ⟨k, hk, rfl⟩, hj⟩⟩
    · exact ⟨he, .inl ⟨_, upto_all zs, hj⟩⟩
    · exact ⟨he, .inr ⟨_, by rw [upto_take zs hk]; exact List.take_prefix _ _, hj⟩⟩

theorem infoI : (Try.prog.info? 3).map (fun i => (i.zero, i.size, i.bytes)) = some (some (.int .i64 0), 1, 8) := by kernel_rfl

set_option maxRecDepth 100000 in
set_option maxHeartbeats 2000000 in
/-- slices.AppendSeq(nil, slices.Values(s)). -/
theorem append_in (F : Fence) (n : Nat) (h3 : F.fn 129) (h7 : F.fn 105) (hro : F.round = none) (hn : 3 ≤ n) (Bs B : Nat) (a : Option Addr) (cap : Nat) (zs : List Int) (hlen : zs.length ≤ 1048576) (w : World) (hBs : Bs < w.heap.size) (hB0 : B ≤ w.heap.size)
    (hc : w.cell? ⟨Bs, 0, none⟩ = some (.slice a zs.length cap)) (hI : Rd w B a zs) :
    CallsIn F n Try.prog 129 #[.slice none 0 0, .func (.func 105) #[] #[.pointer (some ⟨Bs, 0, none⟩)]] w fun e W' => ∃ v, e = .returned v ∧ W'.ownsRow w.heap.size 3 1 v zs.length (zs.map (Value.int .i64)) ∧ Below w.heap.size w W' := by
  have h1 : 1 ≤ n := by omega
  obtain ⟨i0, hi, hz0, hz1, hz2⟩ := info_parts infoI
  refine callsIn_of_wp_marks Try.func129 rfl h3 ?_ hro
  simp only [Try.ntmps129, List.size_toArray, List.length_cons, List.length_nil, Nat.reduceAdd, Nat.reduceSub, Array.replicate_succ, Array.replicate_zero, List.push_toArray, List.append_toArray, List.nil_append, List.cons_append]
  have bO := Boxed.new w 27 (.slice none 0 0)
  have hBb : Below w.heap.size w (w.alloc (.cells #[.slice none 0 0] 27)) := (Below.refl _ w).alloc (Nat.le_refl _) _
  have hseq := values_stops F (n - 1) h7 hro (by omega) Bs w.heap.size B a cap zs (by omega) (w.alloc (.cells #[.slice none 0 0] 27)) (by simp; omega) (by simp) hB0 ((hBb.cell (p := ⟨Bs, 0, none⟩) hBs).trans hc) (hI.below (hBb.mono hB0))
  gi_wp2
  refine wpIn_rangeFunc_ownG hro h1 (gf := 105) (lb := #[.pointer (some ⟨Bs, 0, none⟩)]) rfl h7 (enters_of Try.func105 (by kernel_rfl) rfl)
    hseq belowK_t (belowK_b (by simp)) (Below.refl _ _) (fun _ => rfl)
    (fun (pre : List Int) W => (∃ v, Boxed W w.heap.size 27 v ∧ W.ownsRow w.heap.size 3 1 v pre.length (pre.map (Value.int .i64)) ∧ True) ∧ Below w.heap.size w W)
    (fun _ _ _ => False)
    (OwnFrom.and (Own.from (holdsRow_own w.heap.size w.heap.size 27 3 1 (fun pre : List Int => pre.length) (fun pre : List Int => pre.map (Value.int .i64)) (fun (pre : List Int) v => True)) _) (ownFrom_below (Nat.le_refl _) (by simp)))
    (fun _ _ _ _ _ hs _ _ => hs)
    ⟨⟨_, bO, World.ownsRow_nil _ _ _ _, trivial⟩, hBb⟩
    (fun x => { tmps := #[.slice none 0 0, .func (.func 105) #[] #[.pointer (some ⟨Bs, 0, none⟩)], .pointer (some ⟨w.heap.size, 0, none⟩), undef, .slice none 0 0, .int .i64 x, .func (.func 105) #[] #[.pointer (some ⟨Bs, 0, none⟩)], .int .i64 x, undef, undef, undef, undef, undef], defers := [] }) ?assign ?body ?done ?stop
  case assign =>
    intro l x W K hK
    gi_wp2
    exact hK
  case body =>
    rintro l pre x W ⟨⟨v, hv, hrow, _⟩, hB⟩ hlt
    have hcv := hv.cell
    gi_wp2_with (gi_at_builtin; refine wpListIn_append_own _ rfl _ _ 27 rfl w.heap.size 3 i0 (.int .i64 0) 1 8 Try.underlying27 hi hz0 hz1 hz2 rfl (by decide) _ _ _ rfl (hrow.alloc _) ⟨W.heap.size, 0, none⟩ 1 1 [.int .i64 x] rfl rfl (cell_one_new _ _ _) (by simp [Value.oneCell']) (by unfold maxLen; omega) (by omega) (by have := hB.size; simp; omega) ?_; intro v' w1 hown' hgrow _; obtain ⟨g', cap', rfl⟩ := ownsRow_succ hown'; obtain ⟨hv1, hv2, hr2, hk2, hb2⟩ := hv.appended (by decide) hrow hB.size (Nat.le_refl _) hown' hgrow; have hc1 := hv1.cell; have hf1 := hv1.frozen)
    exact ⟨hk2.from _, hb2, ⟨_, hv2, by simpa using hr2, trivial⟩, hB.trans hb2⟩
  case done =>
    rintro D ys W hD rfl ⟨⟨v, hv, hrow, _⟩, hB⟩ hK
    have hcv := hv.cell
    gi_wp2
    refine ⟨by simp, .inl ⟨_, _, rfl, run_takeDeferred hK, ?_⟩⟩
    exact ⟨_, results_tmp rfl _ _ _, v, rfl, ownsRow_putObj hrow _ hK rfl, hB.trans (belowK_b (w := w) (Nat.le_refl _) W D _ _ (by simp at hD; omega) hK rfl rfl)⟩
  case stop =>
    rintro D c pre W _ _ h _
    exact h.elim

abbrev eN : TypeId := 3
theorem lib_append (Bs B : Nat) (a : Option Addr) (cap : Nat) (zs : List Int) (hlen : zs.length ≤ 1048576) (w : World) (hBs : Bs < w.heap.size) (hB0 : B ≤ w.heap.size)
    (hc : w.cell? ⟨Bs, 0, none⟩ = some (.slice a zs.length cap)) (hI : Rd w B a zs) :
    Calls Try.prog 129 #[.slice none 0 0, .func (.func 105) #[] #[.pointer (some ⟨Bs, 0, none⟩)]] w fun e W' => ∃ v, e = .returned v ∧ Go.Proofs.Ytfeeimbepdfadaa.IntRow.Own W' w.heap.size eN v zs ∧ Below w.heap.size w W' :=
  ((callsIn_wide (n := 4)).1 (append_in Fence.wide 4 trivial trivial rfl (by omega) Bs B a cap zs hlen w hBs hB0 hc hI)).mono fun _ _ ⟨v, h1, h2, h3⟩ => ⟨v, h1, h2, h3⟩
theorem lib_values (a : Option Addr) (len cap : Nat) (w : World) :
    Calls Try.prog 60 #[.slice a len cap] w fun e w' => e = .returned (.func (.func 105) #[] #[.pointer (some ⟨w.heap.size, 0, none⟩)]) ∧ w' = w.alloc (.cells #[.slice a len cap] 27) :=
  (callsIn_wide (n := 4)).1 (values_in Fence.wide 4 trivial rfl a len cap w)
theorem lib_collect (Bs B : Nat) (a : Option Addr) (cap : Nat) (zs : List Int) (hlen : zs.length ≤ 1048576) (w : World) (hBs : Bs < w.heap.size) (hB0 : B ≤ w.heap.size)
    (hc : w.cell? ⟨Bs, 0, none⟩ = some (.slice a zs.length cap)) (hI : Rd w B a zs) :
    Calls Try.prog 103 #[.func (.func 105) #[] #[.pointer (some ⟨Bs, 0, none⟩)]] w fun e W' => ∃ v, e = .returned v ∧ Go.Proofs.Ytfeeimbepdfadaa.IntRow.Own W' w.heap.size eN v zs ∧ Below w.heap.size w W' := by
  have A := hid (lib_append Bs B a cap zs hlen w hBs hB0 hc hI)
  clear hc hI
  go_enter Try.func103, Try.ntmps103
  go_wp2_with fail
  with_reducible refine A.out.mono ?_
  rintro e w2 ⟨v, rfl, hown, hb⟩
  have HO := hid hown
  have HB := hid hb
  clear hown hb
  go_wp2
  go_ret
  exact ⟨v, rfl, HO.out, HB.out⟩
theorem lib_sort (lo : Nat) (v : Value) (zs : List Int) (w : World) (h : Go.Proofs.Ytfeeimbepdfadaa.IntRow.Own w lo eN v zs) (hz : zs.length ≤ 1048576) :
    Calls Try.prog 104 #[v] w fun e w' => e = .returned (.tuple #[]) ∧ Go.Proofs.Ytfeeimbepdfadaa.IntRow.Own w' lo eN v (srt zs) ∧ w.grownBy w' v.ownBlock := by
  rcases h.2 with ⟨rfl, h0⟩ | ⟨g, cap, cur, rfl, hb, hg, hn, hc, hs, ht⟩
  · obtain rfl : zs = [] := List.eq_nil_of_length_eq_zero h0
    have := AnyM.slices_Sort_int_none Try.sortI none 0 w
    change Calls Try.prog 104 _ _ _ at this
    refine this.mono ?_
    rintro e w' ⟨rfl, rfl⟩
    exact ⟨rfl, by simpa [srt] using h, World.grownBy.refl _ _⟩
  · have hH : Holds (Value.int .i64) w g 0 zs.toArray := holds_of_block_i hg (by simpa [ic] using ht)
    have hgl : g < w.heap.size := (Array.getElem?_eq_some_iff.1 hg).1
    have := AnyM.slices_Sort_int Try.sortI g 0 cap zs w hH hgl (by omega)
    change Calls Try.prog 104 _ _ _ at this
    refine this.mono ?_
    rintro e w' ⟨rfl, k, os, rfl⟩
    refine ⟨rfl, ?_, grownBy_sorted_i _⟩
    unfold Go.Proofs.Ytfeeimbepdfadaa.IntRow.Own
    rw [srt_len]
    exact ownsRow_sorted_i (srt_len zs) hb hg hn hc hs
theorem lib_sorted (Bs B : Nat) (a : Option Addr) (cap : Nat) (zs : List Int) (hlen : zs.length ≤ 1048576) (w : World) (hBs : Bs < w.heap.size) (hB0 : B ≤ w.heap.size)
    (hc : w.cell? ⟨Bs, 0, none⟩ = some (.slice a zs.length cap)) (hI : Rd w B a zs) :
    Calls Try.prog 59 #[.func (.func 105) #[] #[.pointer (some ⟨Bs, 0, none⟩)]] w fun e W' => ∃ v, e = .returned v ∧ Go.Proofs.Ytfeeimbepdfadaa.IntRow.Own W' w.heap.size eN v (srt zs) ∧ Below w.heap.size w W' := by
  have A := hid (lib_collect Bs B a cap zs hlen w hBs hB0 hc hI)
  clear hc hI
  go_enter Try.func59, Try.ntmps59
  go_wp2_with fail
  with_reducible refine A.out.mono ?_
  rintro e w2 ⟨v, rfl, hown, hb⟩
  have S := hid (lib_sort w.heap.size v zs w2 hown hlen)
  have HL := hid hown.lt
  have HB := hid hb
  clear hown hb
  go_wp2_with fail
  with_reducible refine S.out.mono ?_
  rintro e w3 ⟨rfl, hown3, hgr⟩
  have HO := hid hown3
  have HB3 := hid (HB.out.grown hgr HB.out.size (fun j hj => (HL.out j hj).1))
  clear hown3 hgr
  go_wp2
  go_ret
  exact ⟨v, rfl, HO.out, HB3.out⟩

set_option maxRecDepth 100000 in
set_option maxHeartbeats 2000000 in
theorem impl_perm (a : Option Addr) (cap B : Nat) (cs : List Int) (w : World) (hn : cs.length ≤ 1048576) (h : Rd w B a cs) (hB : B ≤ w.heap.size) :
    Calls Try.prog 16 #[.slice a cs.length cap] w fun e w' => e = .returned (.bool (permOk cs)) ∧ Below w.heap.size w w' := by
  obtain ⟨ok, hok⟩ : ∃ z, permOk cs = z := ⟨_, rfl⟩
  rw [hok]
  have HOK := hid hok
  have HR := hid h
  clear hok h
  by_cases h5 : cs.length ≤ 5
  · have h5' : ¬ (5 : Int) < (cs.length : Int) := by omega
    have H5 := hid h5
    have V := hid (lib_values a cs.length cap w)
    have hs1 : (w.alloc (.cells #[.slice a cs.length cap] 27)).heap.size = w.heap.size + 1 := by simp
    have S := hid (lib_sorted w.heap.size B a cap cs hn (w.alloc (.cells #[.slice a cs.length cap] 27)) (by simp) (by simp; omega) ((Boxed.new w _ _).cell) (HR.out.alloc hB _))
    have B1 := hid ((Below.refl w.heap.size w).alloc (Nat.le_refl _) (.cells #[.slice a cs.length cap] 27))
    obtain ⟨ss, hss⟩ : ∃ z, srt cs = z := ⟨_, rfl⟩
    rw [hss] at S
    have HSS := hid hss
    have hl : ss.length = cs.length := by rw [← hss]; exact srt_len cs
    have HL := hid hl
    clear hss hl h5
    go_enter Try.func16, Try.ntmps16
    go_wp2_with fail
    with_reducible refine V.out.mono ?_
    rintro e w2 ⟨rfl, rfl⟩
    go_wp2_with fail
    with_reducible refine S.out.mono ?_
    rintro e w3 ⟨v, rfl, hown, hb⟩
    have HB := hid (B1.out.trans (hb.mono (by rw [hs1]; omega)))
    obtain ⟨av, capv, rfl, _, _, hrd⟩ := hown.form
    have HV := hid hrd
    have hls : ss.length ≤ 1048576 := by have := HL.out; omega
    clear hown hb hrd S V B1 h5'
    go_wp2
    go_loop [3, 4, 12] (fun _ _ i => ∃ k : Nat, k ≤ ss.length ∧ i = .int .i64 k ∧ Hid (∀ j (h : j < ss.length), j < k → ss[j] = (j : Int))) (fun _ _ i => ss.length - (intOf i).toNat)
    case atStart => exact ⟨0, Nat.zero_le _, rfl, hid (fun j _ h => by omega)⟩
    case round =>
      obtain ⟨k, hk, rfl, hat⟩ := hrel
      by_cases hlt : k < ss.length
      · obtain ⟨b, off, rfl, hbB, hc⟩ := HV.out (by omega)
        have g := hc k hlt
        obtain ⟨u, hu⟩ : ∃ u, ss[k] = u := ⟨_, rfl⟩
        rw [hu] at g
        have HU := hid hu
        have hlt' : (k : Int) < (ss.length : Int) := by omega
        have h0' : (0 : Int) ≤ (k : Int) := by omega
        clear hc hu
        by_cases he : u = (k : Int)
        · have ht : (u != (k : Int)) = false := by simp [he]
          have ht2 : (u == (k : Int)) = true := by simp [he]
          have HN := hid (show ∀ j (h : j < ss.length), j < k + 1 → ss[j] = (j : Int) from fun j h hj => by
            by_cases e : j = k
            · subst e; exact HU.out.trans he
            · exact hat.out j h (by omega))
          clear he
          go_wp2
          go_round
          case rel => exact ⟨k + 1, by omega, by go_num, HN⟩
          case measure => simp [intOf]; omega
        · have ht : (u != (k : Int)) = true := by simp [he]
          have ht2 : (u == (k : Int)) = false := by simp [he]
          have hf := perm_no (cs := cs) k (by rw [HSS.out]; exact hlt) (by simp only [HSS.out]; rw [HU.out]; exact he)
          obtain rfl : false = ok := hf.symm.trans HOK.out
          clear he hf
          go_wp2
          go_ret
          exact ⟨rfl, HB.out⟩
      · have hf := perm_yes (cs := cs) H5.out (fun i hi => by
          have hi' : i < ss.length := by rw [← HSS.out]; exact hi
          simp only [HSS.out]
          exact hat.out i hi' (by omega))
        obtain rfl : true = ok := hf.symm.trans HOK.out
        have hlt' : ¬ (k : Int) < (ss.length : Int) := by omega
        clear hf
        go_wp2
        go_ret
        exact ⟨rfl, HB.out⟩
  · have hf := perm_long (cs := cs) (by omega)
    obtain rfl : false = ok := hf.symm.trans HOK.out
    have h5' : (5 : Int) < (cs.length : Int) := by omega
    clear hf
    go_enter Try.func16, Try.ntmps16
    go_wp2
    go_ret
    exact ⟨rfl, Below.refl _ _⟩
end Go.Proofs.Ytfeeimbepdfadaa.SqV

namespace Go.Proofs.Ytfeeimbepdfadaa.BldT
open Go.RowKit
open Go.Proofs.Ytfeeimbepdfadaa.Num Go.Proofs.Ytfeeimbepdfadaa.IntRow Go.Proofs.Ytfeeimbepdfadaa.IntLaw Go.Proofs.Ytfeeimbepdfadaa.Grid Go.Proofs.Ytfeeimbepdfadaa.GridMore Go.Proofs.Ytfeeimbepdfadaa.GridLaw Go.Proofs.Ytfeeimbepdfadaa.GridLaw2 Go.Proofs.Ytfeeimbepdfadaa.Keep Go.Proofs.Ytfeeimbepdfadaa.Kept Go.Proofs.Ytfeeimbepdfadaa.Cells Go.Proofs.Ytfeeimbepdfadaa.RelKit Go.Proofs.Ytfeeimbepdfadaa.SrtD Go.Proofs.Ytfeeimbepdfadaa.Pck Go.Proofs.Ytfeeimbepdfadaa.PrjI Go.Proofs.Ytfeeimbepdfadaa.PrjS Go.Proofs.Ytfeeimbepdfadaa.PermP Go.Proofs.Ytfeeimbepdfadaa.PermS Go.Proofs.Ytfeeimbepdfadaa.SqV
set_option linter.unusedVariables false

def pofOk (n : Int) (cs : List Int) : Bool := decide ((cs.length : Int) = n) && permOk cs
def btOk (n : Int) (xss : List (List Int)) (cs : List Int) : Bool := pofOk n cs && prjOk n xss cs
def btR (n : Int) (xss : List (List Int)) (cs : List Int) : List (List Int) := if pofOk n cs then prjR n xss cs else []
def btN (n : Int) (xss : List (List Int)) (cs : List Int) : Int := if pofOk n cs then prjN n xss cs else 0
theorem bt_no {n : Int} {xss : List (List Int)} {cs : List Int} (h : pofOk n cs = false) : btOk n xss cs = false ∧ btR n xss cs = [] ∧ btN n xss cs = 0 := by simp [btOk, btR, btN, h]
theorem bt_yes {n : Int} {xss : List (List Int)} {cs : List Int} (h : pofOk n cs = true) : btOk n xss cs = prjOk n xss cs ∧ btR n xss cs = prjR n xss cs ∧ btN n xss cs = prjN n xss cs := by simp [btOk, btR, btN, h]
theorem tot_btR (n : Int) (xss : List (List Int)) (cs : List Int) : tot (btR n xss cs) ≤ 24000 := by
  unfold btR
  split
  · exact tot_prjR _ _ _
  · decide
theorem prj_zero {n : Int} {xss : List (List Int)} {cs : List Int} (h : prjOk n xss cs = false) : prjR n xss cs = [] ∧ prjN n xss cs = 0 := by
  cases h0 : prj0 n xss cs with
  | false => exact ⟨(prj_no h0).2.1, (prj_no h0).2.2⟩
  | true =>
    have h1 := prj_yes h0
    rw [h1.1] at h
    rw [h1.2.1, h1.2.2]
    exact new_no h

theorem impl_pof (n : Int) (b : Option Addr) (capb B' : Nat) (cs : List Int) (w : World) (hm : cs.length ≤ 1048576) (h' : Rd w B' b cs) (hB' : B' ≤ w.heap.size) :
    Calls Try.prog 56 #[.slice b cs.length capb, .int .i64 n] w fun e w' => e = .returned (.bool (pofOk n cs)) ∧ Below w.heap.size w w' := by
  by_cases hl : (cs.length : Int) = n
  · have ht : ((cs.length : Int) == n) = true := by simp [hl]
    have hr := hid (show pofOk n cs = permOk cs by simp [pofOk, hl])
    have A := hid (impl_perm b capb B' cs w hm h' hB')
    clear hl h'
    go_enter Try.func56, Try.ntmps56
    go_wp2_with fail
    with_reducible refine A.out.mono ?_
    rintro e w' ⟨rfl, hb⟩
    have HB := hid hb
    clear hb
    go_wp2
    go_ret
    exact ⟨by rw [hr.out]; rfl, HB.out⟩
  · have ht : ((cs.length : Int) == n) = false := by simp [hl]
    have hr := hid (show pofOk n cs = false by simp [pofOk, hl])
    clear hl h'
    go_enter Try.func56, Try.ntmps56
    go_wp2
    go_ret
    exact ⟨by rw [hr.out]; rfl, Below.refl _ _⟩

set_option maxRecDepth 100000 in
set_option maxHeartbeats 4000000 in
theorem impl_bt (n : Int) (a b : Option Addr) (cap capb B B' : Nat) (xss : List (List Int)) (cs : List Int) (w : World) (ht : tot xss ≤ 1048576) (hm : cs.length ≤ 1048576) (h : GRd w B a xss) (h' : Rd w B' b cs) (hB : B ≤ w.heap.size) (hB' : B' ≤ w.heap.size) :
    Calls Try.prog 14 #[.agg #[.int .i64 n, .slice a xss.length cap], .slice b cs.length capb] w fun e w' => ∃ a' c' vs, e = .returned (.tuple #[.agg #[.int .i64 (btN n xss cs), .slice a' (btR n xss cs).length c'], .bool (btOk n xss cs)]) ∧ GOwn w' w.heap.size eR eI (.slice a' (btR n xss cs).length c') vs (btR n xss cs) ∧ Below w.heap.size w w' := by
  obtain ⟨zss, hzs⟩ : ∃ z, btR n xss cs = z := ⟨_, rfl⟩
  obtain ⟨nn, hnn⟩ : ∃ z, btN n xss cs = z := ⟨_, rfl⟩
  obtain ⟨ok, hok⟩ : ∃ z, btOk n xss cs = z := ⟨_, rfl⟩
  rw [hzs, hnn, hok]
  have HZ := hid hzs
  have HN := hid hnn
  have HO := hid hok
  clear hzs hnn hok
  have K1 := hid ((has2_new w (.int .i64 n) (.slice a xss.length cap) 26).alloc (.cells #[.int .i64 0, .slice none 0 0] 30))
  have K3 := hid (has2_new (w.alloc (.cells #[.int .i64 n, .slice a xss.length cap] 26)) (.int .i64 0) (.slice none 0 0) 30)
  have B3 := hid (((Below.refl w.heap.size w).alloc (Nat.le_refl _) (.cells #[.int .i64 n, .slice a xss.length cap] 26)).alloc (by simp) (.cells #[.int .i64 0, .slice none 0 0] 30))
  simp only [World.size_alloc] at K3
  have HG := hid h
  have HY := hid h'
  clear h h'
  have V := hid (impl_pof n b capb B' cs _ hm (HY.out.below (B3.out.mono hB')) (by have := B3.out.size; omega))
  obtain ⟨v, hv⟩ : ∃ v, pofOk n cs = v := ⟨_, rfl⟩
  rw [hv] at V
  have HV := hid hv
  clear hv
  have hs0 : ((w.alloc (.cells #[.int .i64 n, .slice a xss.length cap] 26)).alloc (.cells #[.int .i64 0, .slice none 0 0] 30)).heap.size = w.heap.size + 2 := by simp
  obtain ⟨c0, c1, z1, _, _⟩ := K1.out
  go_enter Try.func14, Try.ntmps14
  go_wp2_with fail
  with_reducible refine V.out.mono ?_
  rintro e w3 ⟨rfl, hb⟩
  have hs3 := hb.size
  rw [hs0] at hs3
  replace K1 := hid (K1.out.below hb)
  replace K3 := hid (K3.out.below hb)
  replace B3 := hid (B3.out.trans (hb.mono B3.out.size))
  clear hb c0 c1 z1 V hs0
  obtain ⟨c0, c1, z1, _, _⟩ := K1.out
  obtain ⟨e0, e1, z3, _, _⟩ := K3.out
  cases v with
  | false =>
    have hp := bt_no (xss := xss) HV.out
    obtain rfl : false = ok := hp.1.symm.trans HO.out
    obtain rfl : [] = zss := hp.2.1.symm.trans HZ.out
    obtain rfl : 0 = nn := hp.2.2.symm.trans HN.out
    have hset := has2_set (u := .int .i64 0) (v := .slice none 0 0) K3.out
    clear hp
    go_wp2
    exact bodyPost_ret (v := .tuple #[.agg #[.int .i64 0, .slice none 0 0], .bool false]) (by simp [results, Try.results14, go_sem, hset.1, hset.2.1]) rfl ⟨none, 0, [], rfl, GOwn.nil _ _ _ _, (B3.out.setCell (by simp) _).setCell (by simp) _⟩
  | true =>
    have hp := bt_yes (xss := xss) HV.out
    have hp1 := hp.1.symm.trans HO.out
    have hp2 := hp.2.1.symm.trans HZ.out
    have hp3 := hp.2.2.symm.trans HN.out
    have P := hid (impl_prj n a b cap capb B B' xss cs w3 ht hm (HG.out.below (B3.out.mono hB)) (HY.out.below (B3.out.mono hB')) (by omega) (by omega))
    rw [hp1, hp2, hp3] at P
    clear hp hp1 hp2 hp3
    go_wp2_with fail
    with_reducible refine P.out.mono ?_
    rintro e w4 ⟨a5, c5, vs5, rfl, hown, hb⟩
    have hs4 := hb.size
    have K3b := hid ((K3.out.below hb).alloc (.cells #[.int .i64 nn, .slice a5 zss.length c5] 26))
    have HB := hid ((B3.out.trans (hb.mono B3.out.size)).alloc (by omega) (.cells #[.int .i64 nn, .slice a5 zss.length c5] 26))
    have HO5 := hid (hown.alloc (.cells #[.int .i64 nn, .slice a5 zss.length c5] 26))
    have hset := has2_set (u := .int .i64 nn) (v := .slice a5 zss.length c5) K3b.out
    clear hown hb P c0 c1 z1 e0 e1 z3
    obtain ⟨e0, e1, z3, _, _⟩ := K3b.out
    go_wp2
    refine bodyPost_ret (v := .tuple #[.agg #[.int .i64 nn, .slice a5 zss.length c5], .bool ok]) (by simp [results, Try.results14, go_sem, hset.1, hset.2.1]) rfl ⟨a5, c5, vs5, rfl, ?_, ?_⟩
    · exact gown_mono (gown_set (gown_set HO5.out (by omega) _) (by omega) _) (by omega)
    · exact (HB.out.setCell (by simp) _).setCell (by simp) _

set_option maxRecDepth 100000 in
set_option maxHeartbeats 4000000 in
theorem spec_bt (n : Int) (a b : Option Addr) (cap capb B B' : Nat) (xss : List (List Int)) (cs : List Int) (w : World) (ht : tot xss ≤ 1048576) (hm : cs.length ≤ 1048576) (hcb : cs.length ≤ capb) (h : GRd w B a xss) (h' : Rd w B' b cs) (hB : B ≤ w.heap.size) (hB' : B' ≤ w.heap.size) :
    Calls Try.prog 15 #[.agg #[.int .i64 n, .slice a xss.length cap], .slice b cs.length capb] w fun e w' => ∃ a' c' vs, e = .returned (.tuple #[.agg #[.int .i64 (btN n xss cs), .slice a' (btR n xss cs).length c'], .bool (btOk n xss cs)]) ∧ GOwn w' w.heap.size eR eI (.slice a' (btR n xss cs).length c') vs (btR n xss cs) ∧ Below w.heap.size w w' := by
  obtain ⟨zss, hzs⟩ : ∃ z, btR n xss cs = z := ⟨_, rfl⟩
  obtain ⟨nn, hnn⟩ : ∃ z, btN n xss cs = z := ⟨_, rfl⟩
  obtain ⟨ok, hok⟩ : ∃ z, btOk n xss cs = z := ⟨_, rfl⟩
  rw [hzs, hnn, hok]
  have HZ := hid hzs
  have HN := hid hnn
  have HO := hid hok
  clear hzs hnn hok
  have K1 := hid ((has2_new w (.int .i64 n) (.slice a xss.length cap) 26).alloc (.cells #[.int .i64 0, .slice none 0 0] 30))
  have K3 := hid (has2_new (w.alloc (.cells #[.int .i64 n, .slice a xss.length cap] 26)) (.int .i64 0) (.slice none 0 0) 30)
  have B3 := hid (((Below.refl w.heap.size w).alloc (Nat.le_refl _) (.cells #[.int .i64 n, .slice a xss.length cap] 26)).alloc (by simp) (.cells #[.int .i64 0, .slice none 0 0] 30))
  simp only [World.size_alloc] at K3
  have HG := hid h
  have HY := hid h'
  clear h h'
  have V := hid (spec_perm b capb B' cs _ hm hcb (HY.out.below (B3.out.mono hB')) (by have := B3.out.size; omega))
  obtain ⟨v, hv⟩ : ∃ v, permOk cs = v := ⟨_, rfl⟩
  rw [hv] at V
  have HV := hid hv
  clear hv
  have hs0 : ((w.alloc (.cells #[.int .i64 n, .slice a xss.length cap] 26)).alloc (.cells #[.int .i64 0, .slice none 0 0] 30)).heap.size = w.heap.size + 2 := by simp
  obtain ⟨c0, c1, z1, _, _⟩ := K1.out
  go_enter Try.func15, Try.ntmps15
  go_wp2_with fail
  with_reducible refine V.out.mono ?_
  rintro e w3 ⟨rfl, hb⟩
  have hs3 := hb.size
  rw [hs0] at hs3
  replace K1 := hid (K1.out.below hb)
  replace K3 := hid (K3.out.below hb)
  replace B3 := hid (B3.out.trans (hb.mono B3.out.size))
  clear hb c0 c1 z1 V hs0
  obtain ⟨c0, c1, z1, _, _⟩ := K1.out
  obtain ⟨e0, e1, z3, _, _⟩ := K3.out
  have hset0 := has2_set (u := .int .i64 0) (v := .slice none 0 0) K3.out
  have no : ∀ (hno : pofOk n cs = false), ok = false ∧ zss = [] ∧ nn = 0 := fun hno => by
    have hp := bt_no (xss := xss) hno
    exact ⟨HO.out.symm.trans hp.1, HZ.out.symm.trans hp.2.1, HN.out.symm.trans hp.2.2⟩
  cases v with
  | false =>
    obtain ⟨rfl, rfl, rfl⟩ := no (by simp [pofOk, HV.out])
    clear no
    go_wp2
    exact bodyPost_ret (v := .tuple #[.agg #[.int .i64 0, .slice none 0 0], .bool false]) (by simp [results, Try.results15, go_sem, hset0.1, hset0.2.1]) rfl ⟨none, 0, [], rfl, GOwn.nil _ _ _ _, (B3.out.setCell (by simp) _).setCell (by simp) _⟩
  | true =>
    by_cases hl : (cs.length : Int) = n
    · have htb : ((cs.length : Int) != n) = false := by simp [hl]
      have htb2 : ((cs.length : Int) == n) = true := by simp [hl]
      have hp := bt_yes (n := n) (xss := xss) (cs := cs) (by simp [pofOk, HV.out, hl])
      have hp1 := hp.1.symm.trans HO.out
      have hp2 := hp.2.1.symm.trans HZ.out
      have hp3 := hp.2.2.symm.trans HN.out
      have P := hid (spec_prj n a b cap capb B B' xss cs w3 ht hm (HG.out.below (B3.out.mono hB)) (HY.out.below (B3.out.mono hB')) (by omega) (by omega))
      have HP0 := hid (prj_zero (n := n) (xss := xss) (cs := cs))
      rw [hp1, hp2, hp3] at P HP0
      clear hp hp1 hp2 hp3 hl no
      go_wp2_with fail
      with_reducible refine P.out.mono ?_
      rintro e w4 ⟨a5, c5, vs5, rfl, hown, hb⟩
      have hs4 := hb.size
      have K3b := hid ((K3.out.below hb).alloc (.cells #[.int .i64 nn, .slice a5 zss.length c5] 26))
      have K5 := hid (has2_new w4 (.int .i64 nn) (.slice a5 zss.length c5) 26)
      have HB := hid ((B3.out.trans (hb.mono B3.out.size)).alloc (by omega) (.cells #[.int .i64 nn, .slice a5 zss.length c5] 26))
      have HO5 := hid (hown.alloc (.cells #[.int .i64 nn, .slice a5 zss.length c5] 26))
      clear hown hb P c0 c1 z1 e0 e1 z3
      cases ok with
      | false =>
        obtain ⟨rfl, rfl⟩ := HP0.out rfl
        simp only [List.length_nil] at K3b K5 HB
        obtain ⟨e0, e1, z3, _, _⟩ := K3b.out
        obtain ⟨f0, f1, z5, _, _⟩ := K5.out
        have hset := has2_set (u := .int .i64 0) (v := .slice none 0 0) K3b.out
        go_wp2
        exact bodyPost_ret (v := .tuple #[.agg #[.int .i64 0, .slice none 0 0], .bool false]) (by simp [results, Try.results15, go_sem, hset.1, hset.2.1]) rfl ⟨none, 0, [], rfl, GOwn.nil _ _ _ _, (HB.out.setCell (by simp) _).setCell (by simp) _⟩
      | true =>
        obtain ⟨e0, e1, z3, _, _⟩ := K3b.out
        obtain ⟨f0, f1, z5, _, _⟩ := K5.out
        have hset := has2_set (u := .int .i64 nn) (v := .slice a5 zss.length c5) K3b.out
        go_wp2
        refine bodyPost_ret (v := .tuple #[.agg #[.int .i64 nn, .slice a5 zss.length c5], .bool true]) (by simp [results, Try.results15, go_sem, hset.1, hset.2.1]) rfl ⟨a5, c5, vs5, rfl, ?_, ?_⟩
        · exact gown_mono (gown_set (gown_set HO5.out (by omega) _) (by omega) _) (by omega)
        · exact (HB.out.setCell (by simp) _).setCell (by simp) _
    · have htb : ((cs.length : Int) != n) = true := by simp [hl]
      have htb2 : ((cs.length : Int) == n) = false := by simp [hl]
      obtain ⟨rfl, rfl, rfl⟩ := no (by simp [pofOk, hl])
      clear no hl
      go_wp2
      exact bodyPost_ret (v := .tuple #[.agg #[.int .i64 0, .slice none 0 0], .bool false]) (by simp [results, Try.results15, go_sem, hset0.1, hset0.2.1]) rfl ⟨none, 0, [], rfl, GOwn.nil _ _ _ _, (B3.out.setCell (by simp) _).setCell (by simp) _⟩
end Go.Proofs.Ytfeeimbepdfadaa.BldT

namespace Go.Proofs.Ytfeeimbepdfadaa.InvP
open Go.Proofs.Ytfeeimbepdfadaa.VarName Go.Proofs.Ytfeeimbepdfadaa.PermP Go.Proofs.Ytfeeimbepdfadaa.Fidx
set_option linter.unusedVariables false

def putP (cs : List Int) : Nat → List Int
  | 0 => List.replicate cs.length 0
  | k + 1 => (putP cs k).set (cs.getD k 0).toNat (k : Int)
def invS (cs : List Int) : List Int := (List.range cs.length).map fun (i : Nat) => fidx cs (i : Int) 0
theorem putP_len (cs : List Int) : ∀ k, (putP cs k).length = cs.length
  | 0 => by simp [putP]
  | k + 1 => by simp [putP, putP_len cs k]
theorem putP_step {cs : List Int} {k j : Nat} (h : k < cs.length) (e : cs[k] = (j : Int)) : putP cs (k + 1) = (putP cs k).set j (k : Int) := by
  show (putP cs k).set (cs.getD k 0).toNat (k : Int) = _
  rw [List.getD_eq_getElem?_getD, List.getElem?_eq_getElem h, Option.getD_some, e]
  rfl
theorem invS_len (cs : List Int) : (invS cs).length = cs.length := by simp [invS]
theorem fidx_at : ∀ (l : List Int) (v : Int) (k i : Nat) (h : i < l.length), l[i] = v → (∀ j (hj : j < l.length), j < i → l[j] ≠ v) → fidx l v k = ((k + i : Nat) : Int)
  | x :: t, v, k, 0, _, e, _ => by
    simp only [List.getElem_cons_zero] at e
    simp [fidx, e]
  | x :: t, v, k, i + 1, h, e, hne => by
    have h0 : x ≠ v := by have := hne 0 (by simp) (by omega); simpa using this
    have := fidx_at t v (k + 1) i (by simpa using h) (by simpa using e) (fun j hj hji => by have := hne (j + 1) (by simpa using hj) (by omega); simpa using this)
    simp only [fidx, if_neg h0]
    rw [this]
    omega
theorem cols_nat {cs : List Int} (h : permOk cs = true) (k : Nat) (hk : k < cs.length) : ∃ j : Nat, j < cs.length ∧ cs[k] = (j : Int) := by
  obtain ⟨_, _, hv⟩ := perm_parts h
  have := hv _ (List.getElem_mem hk)
  exact ⟨cs[k].toNat, by omega, by omega⟩
theorem put_at {cs : List Int} (h : permOk cs = true) : ∀ (k : Nat), k ≤ cs.length → ∀ (i : Nat) (hi : i < cs.length) (j : Nat), i < k → cs[i] = (j : Int) → (putP cs k)[j]? = some (i : Int)
  | 0, _, i, _, j, hik, _ => absurd hik (Nat.not_lt_zero _)
  | k + 1, hk, i, hi, j, hik, e => by
    obtain ⟨_, hn, _⟩ := perm_parts h
    obtain ⟨jk, hjk, ek⟩ := cols_nat h k (by omega)
    have hjl : j < cs.length := by
      obtain ⟨j', hj', e'⟩ := cols_nat h i hi
      have : j' = j := by omega
      omega
    rw [putP_step (by omega) ek]
    rcases Nat.lt_or_eq_of_le (Nat.lt_succ_iff.1 hik) with h1 | h1
    · have hne := (List.pairwise_iff_getElem.1 hn) i k hi (by omega) h1
      rw [List.getElem?_set_ne (by intro e2; apply hne; rw [e, ek, e2])]
      exact put_at h k (by omega) i hi j h1 e
    · subst h1
      have : jk = j := by omega
      subst this
      rw [List.getElem?_set_self (by rw [putP_len]; exact hjk)]
theorem inv_eq {cs : List Int} (h : permOk cs = true) : putP cs cs.length = invS cs := by
  obtain ⟨_, hn, hv⟩ := perm_parts h
  apply List.ext_getElem?
  intro j
  rcases Nat.lt_or_ge j cs.length with hj | hj
  · have h1 := perm_srt h j (by rw [srt_len]; exact hj)
    have h2 : (j : Int) ∈ cs := (srt_perm cs).mem_iff.1 (by rw [← h1]; exact List.getElem_mem _)
    obtain ⟨i, hi, e⟩ := List.getElem_of_mem h2
    rw [put_at h cs.length (Nat.le_refl _) i hi j hi e]
    have hf := fidx_at cs (j : Int) 0 i hi e (fun q hq hqi e2 => (List.pairwise_iff_getElem.1 hn) q i hq hi hqi (e2.trans e.symm))
    simp [invS, hj, hf]
  · rw [List.getElem?_eq_none (by rw [putP_len]; exact hj), List.getElem?_eq_none (by rw [invS_len]; exact hj)]
theorem invS_step (cs : List Int) (k : Nat) : (List.range (k + 1)).map (fun (i : Nat) => fidx cs (i : Int) 0) = (List.range k).map (fun (i : Nat) => fidx cs (i : Int) 0) ++ [fidx cs (k : Int) 0] := by
  rw [List.range_succ, List.map_append]
  rfl
end Go.Proofs.Ytfeeimbepdfadaa.InvP

namespace Go.Proofs.Ytfeeimbepdfadaa.TriP
open Go.Proofs.Ytfeeimbepdfadaa.Vals Go.Proofs.Ytfeeimbepdfadaa.CmpL Go.Proofs.Ytfeeimbepdfadaa.Asc
set_option linter.unusedVariables false

/-- How a row, cut to a prefix's length, stands to the prefix. -/
def pc (p r : List Int) : Int := cmpL (r.take p.length) p
theorem cmpL_take : ∀ (k : Nat) (a b : List Int), cmpL a b ≤ 0 → cmpL (a.take k) (b.take k) ≤ 0
  | 0, a, b, _ => by simp [cmpL]
  | k + 1, [], [], _ => by simp [cmpL]
  | k + 1, [], _ :: _, _ => by simp [cmpL]
  | k + 1, _ :: _, [], h => by simp [cmpL] at h
  | k + 1, x :: a, y :: b, h => by
    rcases (by omega : x < y ∨ y < x ∨ x = y) with h1 | h1 | h1
    · rw [List.take_succ_cons, List.take_succ_cons, cmpL_lt x y _ _ h1]; omega
    · rw [cmpL_gt x y a b h1] at h; omega
    · rw [cmpL_eq x y a b h1] at h
      rw [List.take_succ_cons, List.take_succ_cons, cmpL_eq x y _ _ h1]
      exact cmpL_take k a b h
theorem cmpL_mono : ∀ (a b p : List Int), cmpL a b ≤ 0 → cmpL a p ≤ cmpL b p
  | [], [], p, _ => Int.le_refl _
  | [], y :: b, [], _ => by simp [cmpL]
  | [], y :: b, z :: p, _ => by
    have := cmpL_three (y :: b) (z :: p)
    show (-1 : Int) ≤ _
    omega
  | _ :: _, [], p, h => by simp [cmpL] at h
  | x :: a, y :: b, [], _ => by simp [cmpL]
  | x :: a, y :: b, z :: p, h => by
    have h4 := cmpL_three (y :: b) (z :: p)
    have h5 := cmpL_three (x :: a) (z :: p)
    rcases (by omega : x < y ∨ y < x ∨ x = y) with h1 | h1 | h1
    · rcases (by omega : x < z ∨ z < x ∨ x = z) with h3 | h3 | h3
      · rw [cmpL_lt x z a p h3]; omega
      · rw [cmpL_gt y z b p (by omega)]; omega
      · rw [cmpL_gt y z b p (by omega)]; omega
    · rw [cmpL_gt x y a b h1] at h; omega
    · rw [cmpL_eq x y a b h1] at h
      rcases (by omega : x < z ∨ z < x ∨ x = z) with h3 | h3 | h3
      · rw [cmpL_lt x z a p h3]; omega
      · rw [cmpL_gt y z b p (by omega)]; omega
      · rw [cmpL_eq x z a p h3, cmpL_eq y z b p (by omega)]
        exact cmpL_mono a b p h
theorem pc_mono {l : List (List Int)} (h : Asc l) (p : List Int) {i j : Nat} (hi : i < l.length) (hj : j < l.length) (hij : i ≤ j) : pc p l[i] ≤ pc p l[j] := by
  rcases Nat.lt_or_eq_of_le hij with e | e
  · exact cmpL_mono _ _ _ (cmpL_take _ _ _ (Int.le_of_lt (h.lt hi hj e)))
  · subst e; exact Int.le_refl _
theorem pc_three (p r : List Int) : pc p r = -1 ∨ pc p r = 0 ∨ pc p r = 1 := cmpL_three _ _

/-- Where a count stops. -/
theorem cnt_at {α : Type} (q : α → Bool) : ∀ (l : List α) (k : Nat), k ≤ l.length → (∀ t (h : t < l.length), t < k → q l[t] = true) → (∀ t (h : t < l.length), k ≤ t → q l[t] = false) → l.countP q = k
  | [], k, h, _, _ => by simp at h; subst h; rfl
  | a :: l, 0, _, _, h2 => by
    have ha := h2 0 (by simp) (Nat.le_refl _)
    rw [List.countP_cons_of_neg (by simpa using ha)]
    exact cnt_at q l 0 (Nat.zero_le _) (fun t ht h => absurd h (Nat.not_lt_zero _)) (fun t ht _ => by have := h2 (t + 1) (by simpa using ht) (Nat.zero_le _); simpa using this)
  | a :: l, k + 1, hk, h1, h2 => by
    have ha := h1 0 (by simp) (by omega)
    rw [List.countP_cons_of_pos (by simpa using ha)]
    rw [cnt_at q l k (by simpa using hk) (fun t ht h => by have := h1 (t + 1) (by simpa using ht) (by omega); simpa using this) (fun t ht h => by have := h2 (t + 1) (by simpa using ht) (by omega); simpa using this)]
theorem cnt_range (f : Nat → Bool) (q : List Int → Bool) (l : List (List Int)) (h : ∀ i (hi : i < l.length), f i = q l[i]) : (List.range l.length).countP f = l.countP q := by
  have e : l = (List.range l.length).map (fun i => l[i]?.getD []) := by
    apply List.ext_getElem
    · simp
    · intro i h1 h2
      simp [List.getElem?_eq_getElem h1]
  conv => rhs; rw [e]
  rw [List.countP_map]
  apply List.countP_congr
  intro i hi
  have hi' : i < l.length := by simpa using hi
  simp [h i hi', List.getElem?_eq_getElem hi']

/-- The range of the rows with a prefix. -/
def lowN (xss : List (List Int)) (p : List Int) : Nat := xss.countP (fun r => decide (pc p r < 0))
def highN (xss : List (List Int)) (p : List Int) : Nat := xss.countP (fun r => decide (pc p r < 1))
def rgOk (n : Int) (xss : List (List Int)) (p : List Int) : Bool := vrel n xss && decide ((p.length : Int) ≤ n)
def rlo (n : Int) (xss : List (List Int)) (p : List Int) : Nat := if rgOk n xss p = true then lowN xss p else 0
def rhi (n : Int) (xss : List (List Int)) (p : List Int) : Nat := if rgOk n xss p = true then highN xss p else 0
theorem low_high (xss : List (List Int)) (p : List Int) : lowN xss p ≤ highN xss p := by
  apply List.countP_mono_left
  intro r _ h
  simp only [decide_eq_true_eq] at h ⊢
  omega
theorem high_le (xss : List (List Int)) (p : List Int) : highN xss p ≤ xss.length := List.countP_le_length
theorem rlo_rhi (n : Int) (xss : List (List Int)) (p : List Int) : rlo n xss p ≤ rhi n xss p := by
  unfold rlo rhi; split
  · exact low_high xss p
  · exact Nat.le_refl _
theorem rhi_le (n : Int) (xss : List (List Int)) (p : List Int) : rhi n xss p ≤ xss.length := by
  unfold rhi; split
  · exact high_le xss p
  · exact Nat.zero_le _
/-- A walk that stops at the first row that is not less has found 'low'; on from there, 'high'. -/
theorem low_at {l : List (List Int)} (h : Asc l) (p : List Int) (k : Nat) (hk : k ≤ l.length) (h1 : ∀ t (ht : t < l.length), t < k → pc p l[t] < 0) (h2 : ∀ hl : k < l.length, 0 ≤ pc p l[k]) : lowN l p = k := by
  refine cnt_at _ l k hk (fun t ht htk => by simpa using h1 t ht htk) (fun t ht hkt => ?_)
  have h3 := h2 (by omega)
  have h4 := pc_mono h p (i := k) (j := t) (by omega) ht hkt
  simp; omega
theorem high_at {l : List (List Int)} (h : Asc l) (p : List Int) (k : Nat) (hk : k ≤ l.length) (h1 : ∀ t (ht : t < l.length), t < k → pc p l[t] < 1) (h2 : ∀ hl : k < l.length, 1 ≤ pc p l[k]) : highN l p = k := by
  refine cnt_at _ l k hk (fun t ht htk => by simpa using h1 t ht htk) (fun t ht hkt => ?_)
  have h3 := h2 (by omega)
  have h4 := pc_mono h p (i := k) (j := t) (by omega) ht hkt
  simp; omega

/-- The values behind a prefix, each once. -/
def pushK (out : List Int) (v : Int) : List Int := if out.getLast? = some v then out else out ++ [v]
def kidsOf (n : Int) (xss : List (List Int)) (p : List Int) : List Int :=
  if (p.length : Int) < n then (((xss.take (rhi n xss p)).drop (rlo n xss p)).map (fun r => r[p.length]?.getD 0)) else []
def kids (n : Int) (xss : List (List Int)) (p : List Int) : List Int := (kidsOf n xss p).foldl pushK []
theorem pushK_len (out : List Int) (v : Int) : (pushK out v).length ≤ out.length + 1 := by
  unfold pushK; split <;> simp
theorem foldK_len : ∀ (vs out : List Int), (vs.foldl pushK out).length ≤ out.length + vs.length
  | [], out => by simp
  | v :: vs, out => by
    have h1 := foldK_len vs (pushK out v)
    have h2 := pushK_len out v
    simp only [List.foldl_cons, List.length_cons]
    omega
theorem kidsOf_len (n : Int) (xss : List (List Int)) (p : List Int) : (kidsOf n xss p).length ≤ xss.length := by
  unfold kidsOf; split
  · simp; omega
  · simp
theorem kids_len (n : Int) (xss : List (List Int)) (p : List Int) : (kids n xss p).length ≤ xss.length := by
  have h1 := foldK_len (kidsOf n xss p) []
  have h2 := kidsOf_len n xss p
  unfold kids
  simp at h1
  omega
end Go.Proofs.Ytfeeimbepdfadaa.TriP

namespace Go.Proofs.Ytfeeimbepdfadaa.TriV
open Go.RowKit
open Go.Proofs.Ytfeeimbepdfadaa.Num Go.Proofs.Ytfeeimbepdfadaa.IntRow Go.Proofs.Ytfeeimbepdfadaa.Vals Go.Proofs.Ytfeeimbepdfadaa.Grid Go.Proofs.Ytfeeimbepdfadaa.CmpL Go.Proofs.Ytfeeimbepdfadaa.RowCmp Go.Proofs.Ytfeeimbepdfadaa.RowCmpS Go.Proofs.Ytfeeimbepdfadaa.Asc Go.Proofs.Ytfeeimbepdfadaa.IntLaw Go.Proofs.Ytfeeimbepdfadaa.GridMore Go.Proofs.Ytfeeimbepdfadaa.GridLaw Go.Proofs.Ytfeeimbepdfadaa.GridLaw2 Go.Proofs.Ytfeeimbepdfadaa.Keep Go.Proofs.Ytfeeimbepdfadaa.Kept Go.Proofs.Ytfeeimbepdfadaa.Cells Go.Proofs.Ytfeeimbepdfadaa.RelKit Go.Proofs.Ytfeeimbepdfadaa.RelValidS Go.Proofs.Ytfeeimbepdfadaa.RelValidI Go.Proofs.Ytfeeimbepdfadaa.TriP
set_option linter.unusedVariables false

theorem impl_vtr (n : Int) (a : Option Addr) (len cap B : Nat) (xss : List (List Int)) (w : World) (hl : xss.length = len) (hlen : len ≤ 1048576) (hx : ∀ j (h : j < xss.length), xss[j].length ≤ 1048576) (h : GRd w B a xss) (hB : B ≤ w.heap.size) :
    Calls Try.prog 22 #[.agg #[.int .i64 n, .slice a len cap]] w fun e w' => e = .returned (.bool (vrel n xss)) ∧ Below w.heap.size w w' := by
  have B1 := hid ((Below.refl w.heap.size w).alloc (Nat.le_refl _) (.cells #[.int .i64 n, .slice a len cap] 30))
  have V := hid (impl_valid n a len cap B xss _ hl hlen hx (h.below (B1.out.mono hB)) (by simp; omega))
  obtain ⟨c0, c1, z1, _, _⟩ := has2_new w (.int .i64 n) (.slice a len cap) 30
  obtain ⟨v, hv⟩ : ∃ v, vrel n xss = v := ⟨_, rfl⟩
  rw [hv] at V ⊢
  clear h hx hl hlen hv
  go_enter Try.func22, Try.ntmps22
  go_wp2_with fail
  with_reducible refine V.out.mono ?_
  rintro e w' ⟨rfl, hb⟩
  have HB := hid (B1.out.trans (hb.mono (by simp)))
  clear hb
  go_wp2
  go_ret
  exact ⟨rfl, HB.out⟩

theorem spec_rel (n : Int) (a : Option Addr) (len cap : Nat) (w : World) :
    Calls Try.prog 72 #[.agg #[.int .i64 n, .slice a len cap]] w fun e w' => e = .returned (.agg #[.int .i64 n, .slice a len cap]) ∧ Below w.heap.size w w' := by
  have B3 := hid (((Below.refl w.heap.size w).alloc (Nat.le_refl _) (.cells #[.int .i64 n, .slice a len cap] 30)).alloc (by simp) (.cells #[.int .i64 n, .slice a len cap] 26))
  have K2 := has2_new (w.alloc (.cells #[.int .i64 n, .slice a len cap] 30)) (.int .i64 n) (.slice a len cap) 26
  simp only [World.size_alloc] at K2
  go_enter Try.func72, Try.ntmps72
  go_wp2
  exact bodyPost_ret (v := .agg #[.int .i64 n, .slice a len cap]) (by simp [results, Try.results72, go_sem, K2.1, K2.2.1]) rfl ⟨rfl, B3.out⟩

theorem spec_vtr (n : Int) (a : Option Addr) (len cap B : Nat) (xss : List (List Int)) (w : World) (hl : xss.length = len) (hlen : len ≤ 1048576) (hx : ∀ j (h : j < xss.length), xss[j].length ≤ 1048576) (h : GRd w B a xss) (hB : B ≤ w.heap.size) :
    Calls Try.prog 34 #[.agg #[.int .i64 n, .slice a len cap]] w fun e w' => e = .returned (.bool (vrel n xss)) ∧ Below w.heap.size w w' := by
  have B1 := hid ((Below.refl w.heap.size w).alloc (Nat.le_refl _) (.cells #[.int .i64 n, .slice a len cap] 30))
  have HG := hid h
  have L := hid (spec_rel n a len cap (w.alloc (.cells #[.int .i64 n, .slice a len cap] 30)))
  obtain ⟨c0, c1, z1, _, _⟩ := has2_new w (.int .i64 n) (.slice a len cap) 30
  have HX := hid hx
  have HL := hid hl
  obtain ⟨v, hv⟩ : ∃ v, vrel n xss = v := ⟨_, rfl⟩
  rw [hv]
  have HV := hid hv
  clear hv
  clear h hx hl
  go_enter Try.func34, Try.ntmps34
  go_wp2_with fail
  with_reducible refine L.out.mono ?_
  rintro e w2 ⟨rfl, hb⟩
  replace B1 := hid (B1.out.trans (hb.mono (by simp)))
  clear hb c0 c1 z1
  have hs := B1.out.size
  have V := hid (spec_valid n a len cap B xss w2 HL.out hlen HX.out (HG.out.below (B1.out.mono hB)) (by omega))
  rw [HV.out] at V
  go_wp2_with fail
  with_reducible refine V.out.mono ?_
  rintro e w3 ⟨rfl, hb⟩
  have HB := hid (B1.out.trans (hb.mono hs))
  clear hb
  go_wp2
  go_ret
  exact ⟨rfl, HB.out⟩
end Go.Proofs.Ytfeeimbepdfadaa.TriV

namespace Go.Proofs.Ytfeeimbepdfadaa.Ttr
open Go.RowKit
open Go.Proofs.Ytfeeimbepdfadaa.Num Go.Proofs.Ytfeeimbepdfadaa.IntRow Go.Proofs.Ytfeeimbepdfadaa.IntLaw Go.Proofs.Ytfeeimbepdfadaa.Grid Go.Proofs.Ytfeeimbepdfadaa.GridMore Go.Proofs.Ytfeeimbepdfadaa.GridLaw Go.Proofs.Ytfeeimbepdfadaa.GridLaw2 Go.Proofs.Ytfeeimbepdfadaa.Keep Go.Proofs.Ytfeeimbepdfadaa.Kept Go.Proofs.Ytfeeimbepdfadaa.Cells Go.Proofs.Ytfeeimbepdfadaa.RelKit Go.Proofs.Ytfeeimbepdfadaa.Asc Go.Proofs.Ytfeeimbepdfadaa.SrtD Go.Proofs.Ytfeeimbepdfadaa.Pck Go.Proofs.Ytfeeimbepdfadaa.PrjI Go.Proofs.Ytfeeimbepdfadaa.PrjS Go.Proofs.Ytfeeimbepdfadaa.PermP Go.Proofs.Ytfeeimbepdfadaa.PermS Go.Proofs.Ytfeeimbepdfadaa.SqV Go.Proofs.Ytfeeimbepdfadaa.Fidx Go.Proofs.Ytfeeimbepdfadaa.InvP Go.Proofs.Ytfeeimbepdfadaa.BldT Go.Proofs.Ytfeeimbepdfadaa.TriV
set_option linter.unusedVariables false

def ttOk (n : Int) (xss : List (List Int)) (cs : List Int) : Bool := pofOk n cs && prjOk n xss (invS cs)
def ttR (n : Int) (xss : List (List Int)) (cs : List Int) : List (List Int) := if pofOk n cs then prjR n xss (invS cs) else []
def ttN (n : Int) (xss : List (List Int)) (cs : List Int) : Int := if pofOk n cs then prjN n xss (invS cs) else 0
theorem tt_no {n : Int} {xss : List (List Int)} {cs : List Int} (h : pofOk n cs = false) : ttOk n xss cs = false ∧ ttR n xss cs = [] ∧ ttN n xss cs = 0 := by simp [ttOk, ttR, ttN, h]
theorem tt_yes {n : Int} {xss : List (List Int)} {cs : List Int} (h : pofOk n cs = true) : ttOk n xss cs = prjOk n xss (invS cs) ∧ ttR n xss cs = prjR n xss (invS cs) ∧ ttN n xss cs = prjN n xss (invS cs) := by simp [ttOk, ttR, ttN, h]
theorem tt_bad {n : Int} {xss : List (List Int)} {cs : List Int} (h : vrel n xss = false) : ttOk n xss cs = false ∧ ttR n xss cs = [] ∧ ttN n xss cs = 0 := by
  cases hp : pofOk n cs with
  | false => exact tt_no hp
  | true =>
    have h1 := tt_yes (xss := xss) hp
    have h2 := prj_no (n := n) (xss := xss) (cs := invS cs) (by simp [prj0, h])
    rw [h1.1, h1.2.1, h1.2.2]
    exact h2
theorem tot_ttR (n : Int) (xss : List (List Int)) (cs : List Int) : tot (ttR n xss cs) ≤ 24000 := by
  unfold ttR
  split
  · exact tot_prjR _ _ _
  · decide

set_option maxRecDepth 100000 in
set_option maxHeartbeats 4000000 in
theorem impl_tt (n : Int) (a b : Option Addr) (cap capb B B' : Nat) (xss : List (List Int)) (cs : List Int) (w : World) (ht : tot xss ≤ 1048576) (hm : cs.length ≤ 1048576) (h : GRd w B a xss) (h' : Rd w B' b cs) (hB : B ≤ w.heap.size) (hB' : B' ≤ w.heap.size) :
    Calls Try.prog 18 #[.agg #[.int .i64 n, .slice a xss.length cap], .slice b cs.length capb] w fun e w' => ∃ a' c' vs, e = .returned (.tuple #[.agg #[.int .i64 (ttN n xss cs), .slice a' (ttR n xss cs).length c'], .bool (ttOk n xss cs)]) ∧ GOwn w' w.heap.size eR eI (.slice a' (ttR n xss cs).length c') vs (ttR n xss cs) ∧ Below w.heap.size w w' := by
  obtain ⟨zss, hzs⟩ : ∃ z, ttR n xss cs = z := ⟨_, rfl⟩
  obtain ⟨nn, hnn⟩ : ∃ z, ttN n xss cs = z := ⟨_, rfl⟩
  obtain ⟨ok, hok⟩ : ∃ z, ttOk n xss cs = z := ⟨_, rfl⟩
  rw [hzs, hnn, hok]
  have HZ := hid hzs
  have HN := hid hnn
  have HO := hid hok
  clear hzs hnn hok
  have K1 := hid ((has2_new w (.int .i64 n) (.slice a xss.length cap) 30).alloc (.cells #[.int .i64 0, .slice none 0 0] 26))
  have K3 := hid (has2_new (w.alloc (.cells #[.int .i64 n, .slice a xss.length cap] 30)) (.int .i64 0) (.slice none 0 0) 26)
  have B3 := hid (((Below.refl w.heap.size w).alloc (Nat.le_refl _) (.cells #[.int .i64 n, .slice a xss.length cap] 30)).alloc (by simp) (.cells #[.int .i64 0, .slice none 0 0] 26))
  simp only [World.size_alloc] at K3
  have HG := hid h
  have HY := hid h'
  clear h h'
  have V := hid (impl_pof n b capb B' cs _ hm (HY.out.below (B3.out.mono hB')) (by have := B3.out.size; omega))
  obtain ⟨v, hv⟩ : ∃ v, pofOk n cs = v := ⟨_, rfl⟩
  rw [hv] at V
  have HV := hid hv
  clear hv
  have hs0 : ((w.alloc (.cells #[.int .i64 n, .slice a xss.length cap] 30)).alloc (.cells #[.int .i64 0, .slice none 0 0] 26)).heap.size = w.heap.size + 2 := by simp
  obtain ⟨c0, c1, z1, _, _⟩ := K1.out
  go_enter Try.func18, Try.ntmps18
  go_wp2_with fail
  with_reducible refine V.out.mono ?_
  rintro e w3 ⟨rfl, hb⟩
  have hs3 := hb.size
  rw [hs0] at hs3
  replace K1 := hid (K1.out.below hb)
  replace K3 := hid (K3.out.below hb)
  replace B3 := hid (B3.out.trans (hb.mono B3.out.size))
  clear hb c0 c1 z1 V hs0
  obtain ⟨c0, c1, z1, _, _⟩ := K1.out
  obtain ⟨e0, e1, z3, _, _⟩ := K3.out
  cases v with
  | false =>
    have hp := tt_no (xss := xss) HV.out
    obtain rfl : false = ok := hp.1.symm.trans HO.out
    obtain rfl : [] = zss := hp.2.1.symm.trans HZ.out
    obtain rfl : 0 = nn := hp.2.2.symm.trans HN.out
    have hset := has2_set (u := .int .i64 0) (v := .slice none 0 0) K3.out
    clear hp
    go_wp2
    exact bodyPost_ret (v := .tuple #[.agg #[.int .i64 0, .slice none 0 0], .bool false]) (by simp [results, Try.results18, go_sem, hset.1, hset.2.1]) rfl ⟨none, 0, [], rfl, GOwn.nil _ _ _ _, (B3.out.setCell (by simp) _).setCell (by simp) _⟩
  | true =>
    have hp := tt_yes (xss := xss) HV.out
    have HP1 := hid (hp.1.symm.trans HO.out)
    have HP2 := hid (hp.2.1.symm.trans HZ.out)
    have HP3 := hid (hp.2.2.symm.trans HN.out)
    have HPM := hid (show permOk cs = true by have := HV.out; simp only [pofOk, Bool.and_eq_true] at this; exact this.2)
    obtain ⟨i0, hi, hz0, hz1, hz2⟩ := info_parts IntLaw.info
    have hmk := make_ints (P := Try.prog) w3 27 3 i0 Try.underlying27 hi hz0 hz1 hz2 cs.length (by omega)
    have hat0 := hid (at_made w3 3 cs.length (by omega))
    have K1a := hid (K1.out.alloc (.cells (Array.replicate cs.length (.int .i64 0)) 3))
    have K3a := hid (K3.out.alloc (.cells (Array.replicate cs.length (.int .i64 0)) 3))
    have B3a := hid (B3.out.alloc B3.out.size (.cells (Array.replicate cs.length (.int .i64 0)) 3))
    clear hp
    go_wp2
    clear c0 c1 z1 e0 e1 z3
    go_loopw [7, 8, 20] (fun _ _ i wr => ∃ k : Nat, k ≤ cs.length ∧ i = .int .i64 k ∧ Hid (At wr w3.heap.size 3 cs.length (putP cs k)) ∧ Hid (Has2 wr w.heap.size (.int .i64 n) (.slice a xss.length cap)) ∧ Hid (Has2 wr (w.heap.size + 1) (.int .i64 0) (.slice none 0 0)) ∧ Hid (Below w.heap.size w wr)) (fun _ _ i _ => cs.length - (intOf i).toNat)
    case atStart => exact ⟨0, Nat.zero_le _, rfl, hat0, K1a, K3a, B3a⟩
    case round =>
      obtain ⟨k, hk, rfl, hat, k1, k3, hb⟩ := hrel
      clear hmk K1a K3a B3a hat0
      have hpl := putP_len cs k
      by_cases hlt : k < cs.length
      · obtain ⟨j, hj, hcj⟩ := cols_nat HPM.out k hlt
        obtain ⟨bc, offc, rfl, _, hc1⟩ := (HY.out.below (hb.out.mono hB')) (by omega)
        have g1 := hc1 k hlt
        rw [hcj] at g1
        obtain ⟨u, c1⟩ : ∃ u, wr.cell? ⟨w3.heap.size, j, none⟩ = some u := ⟨_, hat.out.cell j (by omega)⟩
        have c2 := hat.out.free j
        have hset := hid (hat.out.set j (k : Int))
        rw [← putP_step hlt hcj] at hset
        have k1b := hid (has2_far k1.out (c := w3.heap.size) (o := j) (by omega) (.int .i64 (k : Int)))
        have k3b := hid (has2_far k3.out (c := w3.heap.size) (o := j) (by omega) (.int .i64 (k : Int)))
        have HB := hid (hb.out.setCell (p := ⟨w3.heap.size, j, none⟩) (by show w.heap.size ≤ w3.heap.size; omega) (.int .i64 (k : Int)))
        have hj' : (j : Int) < (cs.length : Int) := by omega
        have hj0 : (0 : Int) ≤ (j : Int) := by omega
        have hk' : (k : Int) < (cs.length : Int) := by omega
        have hk0 : (0 : Int) ≤ (k : Int) := by omega
        clear hat hpl hc1 hcj
        go_wp2
        go_roundw
        case rel => exact ⟨k + 1, by omega, by go_num, hset, k1b, k3b, HB⟩
        case measure => simp [intOf]; omega
      · obtain rfl : k = cs.length := by omega
        have HA := hat.out
        rw [inv_eq HPM.out] at HA
        have hil := invS_len cs
        have hsz := hb.out.size
        have P := hid (impl_prj n a (some ⟨w3.heap.size, 0, none⟩) cap cs.length B wr.heap.size xss (invS cs) wr ht (by omega) (HG.out.below (hb.out.mono hB)) (at_rd HA) (by omega) (Nat.le_refl _))
        rw [HP1.out, HP2.out, HP3.out, hil] at P
        have hk' : ¬ (cs.length : Int) < (cs.length : Int) := by omega
        obtain ⟨c0, c1, z1, _, _⟩ := k1.out
        clear HA hat hpl hil
        go_wp2_with fail
        with_reducible refine P.out.mono ?_
        rintro e w4 ⟨a5, c5, vs5, rfl, hown, hb4⟩
        have hs4 := hb4.size
        have K3b := hid (k3.out.below hb4)
        have HB := hid (hb.out.trans (hb4.mono hsz))
        have HO5 := hid hown
        have hset := has2_set (u := .int .i64 nn) (v := .slice a5 zss.length c5) K3b.out
        have hz3 := K3.out.2.2.1
        clear hown hb4 P c0 c1 z1
        obtain ⟨e0, e1, z3, _, _⟩ := K3b.out
        go_wp2
        have hlw := k3.out.2.2.1
        refine bodyPost_ret (v := .tuple #[.agg #[.int .i64 nn, .slice a5 zss.length c5], .bool ok]) (by simp [results, Try.results18, go_sem, hset.1, hset.2.1]) rfl ⟨a5, c5, vs5, rfl, ?_, ?_⟩
        · exact gown_mono (gown_set (gown_set HO5.out (by omega) _) (by omega) _) (by omega)
        · exact (HB.out.setCell (by simp) _).setCell (by simp) _

theorem own_litT (w : World) (base : Nat) (e : TypeId) (hb : base ≤ w.heap.size) : Go.Proofs.Ytfeeimbepdfadaa.IntRow.Own (w.alloc (.cells #[] e)) base e (.slice (some ⟨w.heap.size, 0, none⟩) 0 0) [] :=
  World.ownsRow_made w #[] 0 hb (by decide) (by decide)

set_option maxRecDepth 100000 in
set_option maxHeartbeats 4000000 in
theorem spec_tt (n : Int) (a b : Option Addr) (cap capb B B' : Nat) (xss : List (List Int)) (cs : List Int) (w : World) (ht : tot xss ≤ 1048576) (hlen : xss.length ≤ 1048576) (hx : ∀ j (h : j < xss.length), xss[j].length ≤ 1048576) (hm : cs.length ≤ 1048576) (hcb : cs.length ≤ capb) (h : GRd w B a xss) (h' : Rd w B' b cs) (hB : B ≤ w.heap.size) (hB' : B' ≤ w.heap.size) :
    Calls Try.prog 36 #[.agg #[.int .i64 n, .slice a xss.length cap], .slice b cs.length capb] w fun e w' => ∃ a' c' vs, e = .returned (.tuple #[.agg #[.int .i64 (ttN n xss cs), .slice a' (ttR n xss cs).length c'], .bool (ttOk n xss cs)]) ∧ GOwn w' w.heap.size eR eI (.slice a' (ttR n xss cs).length c') vs (ttR n xss cs) ∧ Below w.heap.size w w' := by
  obtain ⟨zss, hzs⟩ : ∃ z, ttR n xss cs = z := ⟨_, rfl⟩
  obtain ⟨nn, hnn⟩ : ∃ z, ttN n xss cs = z := ⟨_, rfl⟩
  obtain ⟨ok, hok⟩ : ∃ z, ttOk n xss cs = z := ⟨_, rfl⟩
  rw [hzs, hnn, hok]
  have HZ := hid hzs
  have HN := hid hnn
  have HO := hid hok
  clear hzs hnn hok
  have K1 := hid ((has2_new w (.int .i64 n) (.slice a xss.length cap) 30).alloc (.cells #[.int .i64 0, .slice none 0 0] 26))
  have K3 := hid (has2_new (w.alloc (.cells #[.int .i64 n, .slice a xss.length cap] 30)) (.int .i64 0) (.slice none 0 0) 26)
  have B3 := hid (((Below.refl w.heap.size w).alloc (Nat.le_refl _) (.cells #[.int .i64 n, .slice a xss.length cap] 30)).alloc (by simp) (.cells #[.int .i64 0, .slice none 0 0] 26))
  simp only [World.size_alloc] at K3
  have HG := hid h
  have HY := hid h'
  clear h h'
  have V := hid (spec_vtr n a xss.length cap B xss _ rfl hlen hx (HG.out.below (B3.out.mono hB)) (by have := B3.out.size; omega))
  obtain ⟨v, hv⟩ : ∃ v, vrel n xss = v := ⟨_, rfl⟩
  rw [hv] at V
  have HV := hid hv
  clear hv
  have hs0 : ((w.alloc (.cells #[.int .i64 n, .slice a xss.length cap] 30)).alloc (.cells #[.int .i64 0, .slice none 0 0] 26)).heap.size = w.heap.size + 2 := by simp
  obtain ⟨c0, c1, z1, _, _⟩ := K1.out
  go_enter Try.func36, Try.ntmps36
  go_wp2_with fail
  with_reducible refine V.out.mono ?_
  rintro e w3 ⟨rfl, hb⟩
  have hs3 := hb.size
  rw [hs0] at hs3
  replace K1 := hid (K1.out.below hb)
  replace K3 := hid (K3.out.below hb)
  replace B3 := hid (B3.out.trans (hb.mono B3.out.size))
  clear hb c0 c1 z1 V hs0
  have no : ∀ (hno : vrel n xss = false ∨ pofOk n cs = false), ok = false ∧ zss = [] ∧ nn = 0 := fun hno => by
    have hp := hno.elim (fun h => tt_bad (cs := cs) h) (fun h => tt_no (xss := xss) h)
    exact ⟨HO.out.symm.trans hp.1, HZ.out.symm.trans hp.2.1, HN.out.symm.trans hp.2.2⟩
  cases v with
  | false =>
    obtain ⟨rfl, rfl, rfl⟩ := no (.inl HV.out)
    clear no
    have hset0 := has2_set (u := .int .i64 0) (v := .slice none 0 0) K3.out
    obtain ⟨c0, c1, z1, _, _⟩ := K1.out
    obtain ⟨e0, e1, z3, _, _⟩ := K3.out
    go_wp2
    exact bodyPost_ret (v := .tuple #[.agg #[.int .i64 0, .slice none 0 0], .bool false]) (by simp [results, Try.results36, go_sem, hset0.1, hset0.2.1]) rfl ⟨none, 0, [], rfl, GOwn.nil _ _ _ _, (B3.out.setCell (by simp) _).setCell (by simp) _⟩
  | true =>
    have U := hid (spec_perm b capb B' cs w3 hm hcb (HY.out.below (B3.out.mono hB')) (by omega))
    obtain ⟨pv, hpv⟩ : ∃ v, permOk cs = v := ⟨_, rfl⟩
    rw [hpv] at U
    have HPM := hid hpv
    clear hpv
    go_wp2_with fail
    with_reducible refine U.out.mono ?_
    rintro e w4 ⟨rfl, hb⟩
    have hs4 := hb.size
    replace K1 := hid (K1.out.below hb)
    replace K3 := hid (K3.out.below hb)
    replace B3 := hid (B3.out.trans (hb.mono B3.out.size))
    clear hb U
    cases pv with
    | false =>
      obtain ⟨rfl, rfl, rfl⟩ := no (.inr (by simp [pofOk, HPM.out]))
      clear no
      have hset0 := has2_set (u := .int .i64 0) (v := .slice none 0 0) K3.out
      obtain ⟨c0, c1, z1, _, _⟩ := K1.out
      obtain ⟨e0, e1, z3, _, _⟩ := K3.out
      go_wp2
      exact bodyPost_ret (v := .tuple #[.agg #[.int .i64 0, .slice none 0 0], .bool false]) (by simp [results, Try.results36, go_sem, hset0.1, hset0.2.1]) rfl ⟨none, 0, [], rfl, GOwn.nil _ _ _ _, (B3.out.setCell (by simp) _).setCell (by simp) _⟩
    | true =>
      by_cases hl : (cs.length : Int) = n
      · have htb : ((cs.length : Int) != n) = false := by simp [hl]
        have htb2 : ((cs.length : Int) == n) = true := by simp [hl]
        have hp := tt_yes (n := n) (xss := xss) (cs := cs) (by simp [pofOk, HPM.out, hl])
        have HP1 := hid (hp.1.symm.trans HO.out)
        have HP2 := hid (hp.2.1.symm.trans HZ.out)
        have HP3 := hid (hp.2.2.symm.trans HN.out)
        clear hp hl no
        obtain ⟨i0, hi, hz0, hz1, hz2⟩ := info_parts IntLaw.info
        have O0 := hid (own_litT w4 w4.heap.size 3 (Nat.le_refl _))
        have K1a := hid (K1.out.alloc (.cells #[] 3))
        have K3a := hid (K3.out.alloc (.cells #[] 3))
        have B3a := hid (B3.out.alloc B3.out.size (.cells #[] 3))
        obtain ⟨c0, c1, z1, _, _⟩ := K1.out
        obtain ⟨e0, e1, z3, _, _⟩ := K3.out
        go_wp2
        clear c0 c1 z1 e0 e1 z3 htb htb2
        go_loopw [6, 7] (fun v i wr => ∃ k : Nat, k ≤ cs.length ∧ i = .int .i64 k ∧ Hid (Go.Proofs.Ytfeeimbepdfadaa.IntRow.Own wr w4.heap.size 3 v ((List.range k).map (fun (i : Nat) => fidx cs (i : Int) 0))) ∧ Hid (Has2 wr w.heap.size (.int .i64 n) (.slice a xss.length cap)) ∧ Hid (Has2 wr (w.heap.size + 1) (.int .i64 0) (.slice none 0 0)) ∧ Hid (Below w.heap.size w wr) ∧ w4.heap.size ≤ wr.heap.size) (fun _ i _ => cs.length - (intOf i).toNat)
        case atStart => exact ⟨0, Nat.zero_le _, rfl, O0, K1a, K3a, B3a, by simp⟩
        case round =>
          obtain ⟨k, hk, rfl, hown, k1, k3, hb, hsz⟩ := hrel
          clear K1a K3a B3a O0
          by_cases hlt : k < cs.length
          · obtain ⟨z, hz⟩ : ∃ z, fidx cs (k : Int) 0 = z := ⟨_, rfl⟩
            have F := hid (spec_findF b cs.length capb B' cs (k : Int) z wr rfl hm hz (HY.out.below (hb.out.mono hB')))
            have hst := hid (invS_step cs k)
            rw [hz] at hst
            have hk' : (k : Int) < (cs.length : Int) := by omega
            have hk0 : (0 : Int) ≤ (k : Int) := by omega
            have hll : ((List.range k).map (fun (i : Nat) => fidx cs (i : Int) 0)).length ≤ 1048576 := by simp; omega
            clear hz
            go_wp2_with fail
            with_reducible refine F.out.mono ?_
            rintro e w5 ⟨rfl, rfl⟩
            go_wp2_with (at_builtin; refine append_int rfl _ _ 27 rfl w4.heap.size 3 i0 Try.underlying27 hi hz0 hz1 hz2 w5 w5 _ _ z hown.out (by rfl) (Below.refl _ _) hsz _ ?c1 (by rfl) (by omega) ?_)
            case c1 => rfl
            intro v1 w1 hown1 hbel1 hsz1 hgr
            rw [← hst.out] at hown1
            have HO1 := hid hown1
            have k1b := hid (has2_grown k1.out hgr (fun e => by have := (hown.out.lt _ e).1; omega))
            have k3b := hid (has2_grown k3.out hgr (fun e => by have := (hown.out.lt _ e).1; omega))
            have HB := hid (hb.out.trans (hbel1.mono (by omega)))
            clear hown hb k1 k3 hown1 hbel1 hgr hll
            go_wp2
            go_roundw
            case rel => exact ⟨k + 1, by omega, by go_num, HO1, k1b, k3b, HB, hsz1⟩
            case measure => simp [intOf]; omega
          · obtain rfl : k = cs.length := by omega
            have HA := hown.out
            rw [show (List.range cs.length).map (fun (i : Nat) => fidx cs (i : Int) 0) = invS cs from rfl] at HA
            have hil := invS_len cs
            obtain ⟨ai, ci, rfl, _, _, hri⟩ := HA.form
            have hsz2 := hb.out.size
            have L := hid (spec_rel n a xss.length cap wr)
            have hk' : ¬ (cs.length : Int) < (cs.length : Int) := by omega
            have HRI := hid hri
            have HIL := hid hil
            obtain ⟨c0, c1, z1, _, _⟩ := k1.out
            clear HA hown hri
            rw [hil]
            go_wp2_with fail
            with_reducible refine L.out.mono ?_
            rintro e w5 ⟨rfl, hb5⟩
            have hs5 := hb5.size
            have P := hid (spec_prj n a ai cap ci B wr.heap.size xss (invS cs) w5 ht (by omega) (HG.out.below ((hb.out.mono hB).trans (hb5.mono (by omega)))) (HRI.out.below hb5) (by omega) (by omega))
            rw [HP1.out, HP2.out, HP3.out, HIL.out] at P
            have k3c := hid (k3.out.below hb5)
            have HBc := hid (hb.out.trans (hb5.mono hsz2))
            clear hb5 L c0 c1 z1
            go_wp2_with fail
            with_reducible refine P.out.mono ?_
            rintro e w6 ⟨a5, c5, vs5, rfl, hown, hb6⟩
            have hs6 := hb6.size
            have K3b := hid ((k3c.out.below hb6).alloc (.cells #[.int .i64 nn, .slice a5 zss.length c5] 26))
            have HB := hid ((HBc.out.trans (hb6.mono HBc.out.size)).alloc (by omega) (.cells #[.int .i64 nn, .slice a5 zss.length c5] 26))
            have HO5 := hid (hown.alloc (.cells #[.int .i64 nn, .slice a5 zss.length c5] 26))
            have hset := has2_set (u := .int .i64 nn) (v := .slice a5 zss.length c5) K3b.out
            have hlw := k3.out.2.2.1
            clear hown hb6 P
            obtain ⟨e0, e1, z3, _, _⟩ := K3b.out
            go_wp2
            refine bodyPost_ret (v := .tuple #[.agg #[.int .i64 nn, .slice a5 zss.length c5], .bool ok]) (by simp [results, Try.results36, go_sem, hset.1, hset.2.1]) rfl ⟨a5, c5, vs5, rfl, ?_, ?_⟩
            · exact gown_mono (gown_set (gown_set HO5.out (by omega) _) (by omega) _) (by omega)
            · exact (HB.out.setCell (by simp) _).setCell (by simp) _
      · have htb : ((cs.length : Int) != n) = true := by simp [hl]
        have htb2 : ((cs.length : Int) == n) = false := by simp [hl]
        obtain ⟨rfl, rfl, rfl⟩ := no (.inr (by simp [pofOk, hl]))
        clear no hl
        have hset0 := has2_set (u := .int .i64 0) (v := .slice none 0 0) K3.out
        obtain ⟨c0, c1, z1, _, _⟩ := K1.out
        obtain ⟨e0, e1, z3, _, _⟩ := K3.out
        go_wp2
        exact bodyPost_ret (v := .tuple #[.agg #[.int .i64 0, .slice none 0 0], .bool false]) (by simp [results, Try.results36, go_sem, hset0.1, hset0.2.1]) rfl ⟨none, 0, [], rfl, GOwn.nil _ _ _ _, (B3.out.setCell (by simp) _).setCell (by simp) _⟩
end Go.Proofs.Ytfeeimbepdfadaa.Ttr
