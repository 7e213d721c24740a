/- slices.Sorted(slices.Values(s)) over ints, few of them: a new slice that holds the values, sorted. -/
import Derived.RangeFuncBox
import Derived.RangeFuncLeaves
import Derived.Shelf.Abstract
import Derived.Shelf.AbstractIn
import Derived.WalkKit
import Derived.OwnWalkIn
import Derived.TacticsInMore
import Derived.LoopNIn
import Derived.LoopIn
import Derived.Maps.AppendAt
import Derived.Shelf.SortM.Plain
import Derived.Shelf.SortM.SortNone
import Derived.Lib.SlKeysI
import Derived.Test.YtfeeimbepdfadaaIntRow
import Derived.Test.YtfeeimbepdfadaaNum
import Derived.Test.YtfeeimbepdfadaaSrtI
import Derived.Test.YtfeeimbepdfadaaPermP
namespace Go.Proofs.Ytfeeimbepdfadaa.SqV
open Go.RowKit Go.Shelf Go.Sort
open Go.Proofs.Ytfeeimbepdfadaa.Num Go.Proofs.Ytfeeimbepdfadaa.IntRow Go.Proofs.Ytfeeimbepdfadaa.PermP
set_option linter.unusedVariables false

attribute [local go_sem] Oper.semAt_some

/-- What has come when k rounds are over. -/
def upto (zs : List Int) (k : Nat) : List Int := (List.range k).map fun j => zs[j]?.getD 0
theorem upto_succ (zs : List Int) (k : Nat) : upto zs (k + 1) = upto zs k ++ [zs[k]?.getD 0] := by simp [upto, List.range_succ]
theorem upto_length (zs : List Int) (k : Nat) : (upto zs k).length = k := by simp [upto]
theorem upto_all (zs : List Int) : upto zs zs.length = zs := by
  apply List.ext_getElem
  · simp [upto]
  · intro i h1 h2
    simp [upto, h2]
theorem upto_take (zs : List Int) {k : Nat} (hk : k ≤ zs.length) : upto zs k = zs.take k := by
  apply List.ext_getElem
  · simp [upto, hk]
  · intro i h1 h2
    have : i < zs.length := by simp [upto] at h1; omega
    simp [upto, this]

set_option maxRecDepth 100000 in
set_option maxHeartbeats 2000000 in
/-- The closure of slices.Values, at a slice whose cells lie below n₀, for every loop body that keeps them. -/
theorem closure (F : Fence) (n : Nat) (h7 : F.fn 105) (hro : F.round = none) (hn : 1 ≤ n) (l Bs n₀ b off cap : Nat) (zs : List Int) (hreach : zs.length * 8 ≤ 140737488351232) (hb : b < n₀) (J Jx : List Int → World → Prop)
    (hY : ∀ pre x W, J pre W → pre.length < zs.length → YieldAt F (n - 1) Try.prog l #[.int .i64 x] W fun e W' =>
      (e = .returned (.bool true) ∧ J (pre ++ [x]) W' ∧ Below n₀ W W') ∨ (e = .returned (.bool false) ∧ Jx (pre ++ [x]) W'))
    (W : World) (hBs : W.cell? ⟨Bs, 0, none⟩ = some (.slice (some ⟨b, off, none⟩) zs.length cap)) (hc : ∀ j, j < zs.length → W.cell? ⟨b, off + j, none⟩ = some (.int .i64 (zs[j]?.getD 0))) (h0 : J [] W) :
    CallsIn F n Try.prog 105 #[.func (.yield l) #[] #[], .pointer (some ⟨Bs, 0, none⟩)] W fun e W' => (∃ v, e = .returned v) ∧
      ((∃ ys, ys = upto zs zs.length ∧ J ys W') ∨ (∃ pre, (∃ k, k ≤ zs.length ∧ pre = upto zs k) ∧ Jx pre W')) := by
  obtain ⟨len, hlen⟩ : ∃ len, zs.length = len := ⟨_, rfl⟩
  rw [hlen] at hY hBs hc hreach ⊢
  clear hlen
  refine callsIn_of_wp Try.func105 rfl h7 ?_ hro
  simp only [Try.ntmps105, List.size_toArray, List.length_cons, List.length_nil, Nat.reduceAdd, Nat.reduceSub, Array.replicate_succ, Array.replicate_zero, List.push_toArray, List.append_toArray, List.nil_append, List.cons_append]
  gi_wp2
  gi_loopw [7] (fun i wr => ∃ k : Nat, k ≤ len ∧ i = .int .i64 k ∧ J (upto zs k) wr ∧ Below n₀ W wr)
    (fun i _ => len - (intOf i).toNat)
  case atStart => exact ⟨0, Nat.zero_le _, rfl, h0, Below.refl _ _⟩
  case round =>
    obtain ⟨k, hk, rfl, hJs, hnx⟩ := hrel
    have hcx : k < len → wr.cell? ⟨b, off + k, none⟩ = some (.int .i64 (zs[k]?.getD 0)) := fun h => (hnx.cell (p := ⟨b, off + k, none⟩) hb).trans (hc k h)
    by_cases hlt : k < len
    · obtain ⟨fn, tmps, assign, body, hy, hR⟩ := hY _ (zs[k]?.getD 0) wr hJs (by rw [upto_length]; exact hlt)
      have hcx' := hcx hlt
      gi_wp2
      refine hR.mono ?_
      rintro e W3 (⟨rfl, hJ3, hk3⟩ | ⟨rfl, hJx3⟩)
      · gi_wp2
        go_roundw
        case rel => exact ⟨k + 1, by omega, by simp, by rw [upto_succ]; exact hJ3, hnx.trans hk3⟩
        case measure => simp [intOf]; omega
      · gi_wp2
        refine bodyPost_ret (results_none rfl _ _ _) rfl ?_
        exact ⟨⟨_, rfl⟩, .inr ⟨_, ⟨k + 1, by omega, (upto_succ _ _).symm⟩, hJx3⟩⟩
    · obtain rfl : k = len := by omega
      gi_wp2
      go_end0
      exact ⟨⟨_, rfl⟩, .inl ⟨_, rfl, hJs⟩⟩

set_option maxRecDepth 100000 in
set_option maxHeartbeats 1000000 in
/-- .. at a slice without elements. -/
theorem closure_nil (F : Fence) (n : Nat) (h7 : F.fn 105) (hro : F.round = none) (l Bs cap : Nat) (a : Option Addr) (J : List Int → World → Prop) (W : World) (hBs : W.cell? ⟨Bs, 0, none⟩ = some (.slice a 0 cap)) (h0 : J [] W) :
    CallsIn F n Try.prog 105 #[.func (.yield l) #[] #[], .pointer (some ⟨Bs, 0, none⟩)] W fun e W' => (∃ v, e = .returned v) ∧ J [] W' := by
  refine callsIn_of_wp Try.func105 rfl h7 ?_ hro
  simp only [Try.ntmps105, List.size_toArray, List.length_cons, List.length_nil, Nat.reduceAdd, Nat.reduceSub, Array.replicate_succ, Array.replicate_zero, List.push_toArray, List.append_toArray, List.nil_append, List.cons_append]
  gi_wp2
  gi_loopw [7] (fun i wr => i = .int .i64 0 ∧ J [] wr) (fun _ _ => 0)
  case atStart => exact ⟨rfl, h0⟩
  case round =>
    obtain ⟨rfl, hJs⟩ := hrel
    gi_wp2
    go_end0
    exact ⟨⟨_, rfl⟩, hJs⟩

set_option maxHeartbeats 1000000 in
/-- slices.Values(s): the slice value is boxed; the function value captures the box. -/
theorem values_in (F : Fence) (n : Nat) (h5 : F.fn 60) (hro : F.round = none) (a : Option Addr) (len cap : Nat) (w : World) :
    CallsIn F n Try.prog 60 #[.slice a len cap] w fun e w' => e = .returned (.func (.func 105) #[] #[.pointer (some ⟨w.heap.size, 0, none⟩)]) ∧ w' = w.alloc (.cells #[.slice a len cap] 27) := by
  refine callsIn_of_wp Try.func60 rfl h5 ?_ hro
  simp only [Try.ntmps60, List.size_toArray, List.length_cons, List.length_nil, Nat.reduceAdd, Nat.reduceSub, Array.replicate_succ, Array.replicate_zero, List.push_toArray, List.append_toArray, List.nil_append, List.cons_append]
  gi_wp2
  go_ret
  exact ⟨rfl, rfl⟩

/-- The value that slices.Values(s) hands back gives all of zs, in order, or a prefix. -/
theorem values_stops (F : Fence) (n : Nat) (h7 : F.fn 105) (hro : F.round = none) (hn : 1 ≤ n) (Bs n₀ B : Nat) (a : Option Addr) (cap : Nat) (zs : List Int) (hreach : zs.length * 8 ≤ 140737488351232) (w : World) (hBs : Bs < w.heap.size) (hn₀ : n₀ ≤ w.heap.size) (hB : B ≤ n₀)
    (hc : w.cell? ⟨Bs, 0, none⟩ = some (.slice a zs.length cap)) (hI : Rd w B a zs) :
    SeqStopsK F n Try.prog 105 #[.pointer (some ⟨Bs, 0, none⟩)] (fun x : Int => #[Value.int .i64 x]) (Below n₀) (fun ys => ys = zs) (fun pre => pre <+: zs) zs.length w := fun l J Jx W hW _ _ hY h0 => by
  have hc' := (hW.cell (p := ⟨Bs, 0, none⟩) hBs).trans hc
  rcases Nat.eq_zero_or_pos zs.length with hz | hz
  · obtain rfl : zs = [] := List.eq_nil_of_length_eq_zero hz
    exact (closure_nil F n h7 hro l Bs cap a J W hc' h0).mono fun e W' ⟨he, hj⟩ => ⟨he, .inl ⟨_, rfl, hj⟩⟩
  · obtain ⟨b, off, rfl, hb, hcs⟩ := (hI.below (hW.mono (by omega))) hz
    refine (closure F n h7 hro hn l Bs n₀ b off cap zs hreach (by omega) J Jx hY W hc' (fun j hj => by rw [hcs j hj, List.getElem?_eq_getElem hj]; rfl) h0).mono ?_
    rintro e W' ⟨he, ⟨ys, rfl, hj⟩ | ⟨pre, ⟨k, hk, rfl⟩, hj⟩⟩
    · exact ⟨he, .inl ⟨_, upto_all zs, hj⟩⟩
    · exact ⟨he, .inr ⟨_, by rw [upto_take zs hk]; exact List.take_prefix _ _, hj⟩⟩

theorem infoI : (Try.prog.info? 3).map (fun i => (i.zero, i.size, i.bytes)) = some (some (.int .i64 0), 1, 8) := by kernel_rfl

set_option maxRecDepth 100000 in
set_option maxHeartbeats 2000000 in
/-- slices.AppendSeq(nil, slices.Values(s)). -/
theorem append_in (F : Fence) (n : Nat) (h3 : F.fn 129) (h7 : F.fn 105) (hro : F.round = none) (hn : 3 ≤ n) (Bs B : Nat) (a : Option Addr) (cap : Nat) (zs : List Int) (hlen : zs.length ≤ 1048576) (w : World) (hBs : Bs < w.heap.size) (hB0 : B ≤ w.heap.size)
    (hc : w.cell? ⟨Bs, 0, none⟩ = some (.slice a zs.length cap)) (hI : Rd w B a zs) :
    CallsIn F n Try.prog 129 #[.slice none 0 0, .func (.func 105) #[] #[.pointer (some ⟨Bs, 0, none⟩)]] w fun e W' => ∃ v, e = .returned v ∧ W'.ownsRow w.heap.size 3 1 v zs.length (zs.map (Value.int .i64)) ∧ Below w.heap.size w W' := by
  have h1 : 1 ≤ n := by omega
  obtain ⟨i0, hi, hz0, hz1, hz2⟩ := info_parts infoI
  refine callsIn_of_wp_marks Try.func129 rfl h3 ?_ hro
  simp only [Try.ntmps129, List.size_toArray, List.length_cons, List.length_nil, Nat.reduceAdd, Nat.reduceSub, Array.replicate_succ, Array.replicate_zero, List.push_toArray, List.append_toArray, List.nil_append, List.cons_append]
  have bO := Boxed.new w 27 (.slice none 0 0)
  have hBb : Below w.heap.size w (w.alloc (.cells #[.slice none 0 0] 27)) := (Below.refl _ w).alloc (Nat.le_refl _) _
  have hseq := values_stops F (n - 1) h7 hro (by omega) Bs w.heap.size B a cap zs (by omega) (w.alloc (.cells #[.slice none 0 0] 27)) (by simp; omega) (by simp) hB0 ((hBb.cell (p := ⟨Bs, 0, none⟩) hBs).trans hc) (hI.below (hBb.mono hB0))
  gi_wp2
  refine wpIn_rangeFunc_ownG hro h1 (gf := 105) (lb := #[.pointer (some ⟨Bs, 0, none⟩)]) rfl h7 (enters_of Try.func105 (by kernel_rfl) rfl)
    hseq belowK_t (belowK_b (by simp)) (Below.refl _ _) (fun _ => rfl)
    (fun (pre : List Int) W => (∃ v, Boxed W w.heap.size 27 v ∧ W.ownsRow w.heap.size 3 1 v pre.length (pre.map (Value.int .i64)) ∧ True) ∧ Below w.heap.size w W)
    (fun _ _ _ => False)
    (OwnFrom.and (Own.from (holdsRow_own w.heap.size w.heap.size 27 3 1 (fun pre : List Int => pre.length) (fun pre : List Int => pre.map (Value.int .i64)) (fun (pre : List Int) v => True)) _) (ownFrom_below (Nat.le_refl _) (by simp)))
    (fun _ _ _ _ _ hs _ _ => hs)
    ⟨⟨_, bO, World.ownsRow_nil _ _ _ _, trivial⟩, hBb⟩
    (fun x => { tmps := #[.slice none 0 0, .func (.func 105) #[] #[.pointer (some ⟨Bs, 0, none⟩)], .pointer (some ⟨w.heap.size, 0, none⟩), undef, .slice none 0 0, .int .i64 x, .func (.func 105) #[] #[.pointer (some ⟨Bs, 0, none⟩)], .int .i64 x, undef, undef, undef, undef, undef], defers := [] }) ?assign ?body ?done ?stop
  case assign =>
    intro l x W K hK
    gi_wp2
    exact hK
  case body =>
    rintro l pre x W ⟨⟨v, hv, hrow, _⟩, hB⟩ hlt
    have hcv := hv.cell
    gi_wp2_with (gi_at_builtin; refine wpListIn_append_own _ rfl _ _ 27 rfl w.heap.size 3 i0 (.int .i64 0) 1 8 Try.underlying27 hi hz0 hz1 hz2 rfl (by decide) _ _ _ rfl (hrow.alloc _) ⟨W.heap.size, 0, none⟩ 1 1 [.int .i64 x] rfl rfl (cell_one_new _ _ _) (by simp [Value.oneCell']) (by unfold maxLen; omega) (by omega) (by have := hB.size; simp; omega) ?_; intro v' w1 hown' hgrow _; obtain ⟨g', cap', rfl⟩ := ownsRow_succ hown'; obtain ⟨hv1, hv2, hr2, hk2, hb2⟩ := hv.appended (by decide) hrow hB.size (Nat.le_refl _) hown' hgrow; have hc1 := hv1.cell; have hf1 := hv1.frozen)
    exact ⟨hk2.from _, hb2, ⟨_, hv2, by simpa using hr2, trivial⟩, hB.trans hb2⟩
  case done =>
    rintro D ys W hD rfl ⟨⟨v, hv, hrow, _⟩, hB⟩ hK
    have hcv := hv.cell
    gi_wp2
    refine ⟨by simp, .inl ⟨_, _, rfl, run_takeDeferred hK, ?_⟩⟩
    exact ⟨_, results_tmp rfl _ _ _, v, rfl, ownsRow_putObj hrow _ hK rfl, hB.trans (belowK_b (w := w) (Nat.le_refl _) W D _ _ (by simp at hD; omega) hK rfl rfl)⟩
  case stop =>
    rintro D c pre W _ _ h _
    exact h.elim

abbrev eN : TypeId := 3
theorem lib_append (Bs B : Nat) (a : Option Addr) (cap : Nat) (zs : List Int) (hlen : zs.length ≤ 1048576) (w : World) (hBs : Bs < w.heap.size) (hB0 : B ≤ w.heap.size)
    (hc : w.cell? ⟨Bs, 0, none⟩ = some (.slice a zs.length cap)) (hI : Rd w B a zs) :
    Calls Try.prog 129 #[.slice none 0 0, .func (.func 105) #[] #[.pointer (some ⟨Bs, 0, none⟩)]] w fun e W' => ∃ v, e = .returned v ∧ Go.Proofs.Ytfeeimbepdfadaa.IntRow.Own W' w.heap.size eN v zs ∧ Below w.heap.size w W' :=
  ((callsIn_wide (n := 4)).1 (append_in Fence.wide 4 trivial trivial rfl (by omega) Bs B a cap zs hlen w hBs hB0 hc hI)).mono fun _ _ ⟨v, h1, h2, h3⟩ => ⟨v, h1, h2, h3⟩
theorem lib_values (a : Option Addr) (len cap : Nat) (w : World) :
    Calls Try.prog 60 #[.slice a len cap] w fun e w' => e = .returned (.func (.func 105) #[] #[.pointer (some ⟨w.heap.size, 0, none⟩)]) ∧ w' = w.alloc (.cells #[.slice a len cap] 27) :=
  (callsIn_wide (n := 4)).1 (values_in Fence.wide 4 trivial rfl a len cap w)
theorem lib_collect (Bs B : Nat) (a : Option Addr) (cap : Nat) (zs : List Int) (hlen : zs.length ≤ 1048576) (w : World) (hBs : Bs < w.heap.size) (hB0 : B ≤ w.heap.size)
    (hc : w.cell? ⟨Bs, 0, none⟩ = some (.slice a zs.length cap)) (hI : Rd w B a zs) :
    Calls Try.prog 103 #[.func (.func 105) #[] #[.pointer (some ⟨Bs, 0, none⟩)]] w fun e W' => ∃ v, e = .returned v ∧ Go.Proofs.Ytfeeimbepdfadaa.IntRow.Own W' w.heap.size eN v zs ∧ Below w.heap.size w W' := by
  have A := hid (lib_append Bs B a cap zs hlen w hBs hB0 hc hI)
  clear hc hI
  go_enter Try.func103, Try.ntmps103
  go_wp2_with fail
  with_reducible refine A.out.mono ?_
  rintro e w2 ⟨v, rfl, hown, hb⟩
  have HO := hid hown
  have HB := hid hb
  clear hown hb
  go_wp2
  go_ret
  exact ⟨v, rfl, HO.out, HB.out⟩
theorem lib_sort (lo : Nat) (v : Value) (zs : List Int) (w : World) (h : Go.Proofs.Ytfeeimbepdfadaa.IntRow.Own w lo eN v zs) (hz : zs.length ≤ 1048576) :
    Calls Try.prog 104 #[v] w fun e w' => e = .returned (.tuple #[]) ∧ Go.Proofs.Ytfeeimbepdfadaa.IntRow.Own w' lo eN v (srt zs) ∧ w.grownBy w' v.ownBlock := by
  rcases h.2 with ⟨rfl, h0⟩ | ⟨g, cap, cur, rfl, hb, hg, hn, hc, hs, ht⟩
  · obtain rfl : zs = [] := List.eq_nil_of_length_eq_zero h0
    have := AnyM.slices_Sort_int_none Try.sortI none 0 w
    change Calls Try.prog 104 _ _ _ at this
    refine this.mono ?_
    rintro e w' ⟨rfl, rfl⟩
    exact ⟨rfl, by simpa [srt] using h, World.grownBy.refl _ _⟩
  · have hH : Holds (Value.int .i64) w g 0 zs.toArray := holds_of_block_i hg (by simpa [ic] using ht)
    have hgl : g < w.heap.size := (Array.getElem?_eq_some_iff.1 hg).1
    have := AnyM.slices_Sort_int Try.sortI g 0 cap zs w hH hgl (by omega)
    change Calls Try.prog 104 _ _ _ at this
    refine this.mono ?_
    rintro e w' ⟨rfl, k, os, rfl⟩
    refine ⟨rfl, ?_, grownBy_sorted_i _⟩
    unfold Go.Proofs.Ytfeeimbepdfadaa.IntRow.Own
    rw [srt_len]
    exact ownsRow_sorted_i (srt_len zs) hb hg hn hc hs
theorem lib_sorted (Bs B : Nat) (a : Option Addr) (cap : Nat) (zs : List Int) (hlen : zs.length ≤ 1048576) (w : World) (hBs : Bs < w.heap.size) (hB0 : B ≤ w.heap.size)
    (hc : w.cell? ⟨Bs, 0, none⟩ = some (.slice a zs.length cap)) (hI : Rd w B a zs) :
    Calls Try.prog 59 #[.func (.func 105) #[] #[.pointer (some ⟨Bs, 0, none⟩)]] w fun e W' => ∃ v, e = .returned v ∧ Go.Proofs.Ytfeeimbepdfadaa.IntRow.Own W' w.heap.size eN v (srt zs) ∧ Below w.heap.size w W' := by
  have A := hid (lib_collect Bs B a cap zs hlen w hBs hB0 hc hI)
  clear hc hI
  go_enter Try.func59, Try.ntmps59
  go_wp2_with fail
  with_reducible refine A.out.mono ?_
  rintro e w2 ⟨v, rfl, hown, hb⟩
  have S := hid (lib_sort w.heap.size v zs w2 hown hlen)
  have HL := hid hown.lt
  have HB := hid hb
  clear hown hb
  go_wp2_with fail
  with_reducible refine S.out.mono ?_
  rintro e w3 ⟨rfl, hown3, hgr⟩
  have HO := hid hown3
  have HB3 := hid (HB.out.grown hgr HB.out.size (fun j hj => (HL.out j hj).1))
  clear hown3 hgr
  go_wp2
  go_ret
  exact ⟨v, rfl, HO.out, HB3.out⟩

set_option maxRecDepth 100000 in
set_option maxHeartbeats 2000000 in
theorem impl_perm (a : Option Addr) (cap B : Nat) (cs : List Int) (w : World) (hn : cs.length ≤ 1048576) (h : Rd w B a cs) (hB : B ≤ w.heap.size) :
    Calls Try.prog 16 #[.slice a cs.length cap] w fun e w' => e = .returned (.bool (permOk cs)) ∧ Below w.heap.size w w' := by
  obtain ⟨ok, hok⟩ : ∃ z, permOk cs = z := ⟨_, rfl⟩
  rw [hok]
  have HOK := hid hok
  have HR := hid h
  clear hok h
  by_cases h5 : cs.length ≤ 5
  · have h5' : ¬ (5 : Int) < (cs.length : Int) := by omega
    have H5 := hid h5
    have V := hid (lib_values a cs.length cap w)
    have hs1 : (w.alloc (.cells #[.slice a cs.length cap] 27)).heap.size = w.heap.size + 1 := by simp
    have S := hid (lib_sorted w.heap.size B a cap cs hn (w.alloc (.cells #[.slice a cs.length cap] 27)) (by simp) (by simp; omega) ((Boxed.new w _ _).cell) (HR.out.alloc hB _))
    have B1 := hid ((Below.refl w.heap.size w).alloc (Nat.le_refl _) (.cells #[.slice a cs.length cap] 27))
    obtain ⟨ss, hss⟩ : ∃ z, srt cs = z := ⟨_, rfl⟩
    rw [hss] at S
    have HSS := hid hss
    have hl : ss.length = cs.length := by rw [← hss]; exact srt_len cs
    have HL := hid hl
    clear hss hl h5
    go_enter Try.func16, Try.ntmps16
    go_wp2_with fail
    with_reducible refine V.out.mono ?_
    rintro e w2 ⟨rfl, rfl⟩
    go_wp2_with fail
    with_reducible refine S.out.mono ?_
    rintro e w3 ⟨v, rfl, hown, hb⟩
    have HB := hid (B1.out.trans (hb.mono (by rw [hs1]; omega)))
    obtain ⟨av, capv, rfl, _, _, hrd⟩ := hown.form
    have HV := hid hrd
    have hls : ss.length ≤ 1048576 := by have := HL.out; omega
    clear hown hb hrd S V B1 h5'
    go_wp2
    go_loop [3, 4, 12] (fun _ _ i => ∃ k : Nat, k ≤ ss.length ∧ i = .int .i64 k ∧ Hid (∀ j (h : j < ss.length), j < k → ss[j] = (j : Int))) (fun _ _ i => ss.length - (intOf i).toNat)
    case atStart => exact ⟨0, Nat.zero_le _, rfl, hid (fun j _ h => by omega)⟩
    case round =>
      obtain ⟨k, hk, rfl, hat⟩ := hrel
      by_cases hlt : k < ss.length
      · obtain ⟨b, off, rfl, hbB, hc⟩ := HV.out (by omega)
        have g := hc k hlt
        obtain ⟨u, hu⟩ : ∃ u, ss[k] = u := ⟨_, rfl⟩
        rw [hu] at g
        have HU := hid hu
        have hlt' : (k : Int) < (ss.length : Int) := by omega
        have h0' : (0 : Int) ≤ (k : Int) := by omega
        clear hc hu
        by_cases he : u = (k : Int)
        · have ht : (u != (k : Int)) = false := by simp [he]
          have ht2 : (u == (k : Int)) = true := by simp [he]
          have HN := hid (show ∀ j (h : j < ss.length), j < k + 1 → ss[j] = (j : Int) from fun j h hj => by
            by_cases e : j = k
            · subst e; exact HU.out.trans he
            · exact hat.out j h (by omega))
          clear he
          go_wp2
          go_round
          case rel => exact ⟨k + 1, by omega, by go_num, HN⟩
          case measure => simp [intOf]; omega
        · have ht : (u != (k : Int)) = true := by simp [he]
          have ht2 : (u == (k : Int)) = false := by simp [he]
          have hf := perm_no (cs := cs) k (by rw [HSS.out]; exact hlt) (by simp only [HSS.out]; rw [HU.out]; exact he)
          obtain rfl : false = ok := hf.symm.trans HOK.out
          clear he hf
          go_wp2
          go_ret
          exact ⟨rfl, HB.out⟩
      · have hf := perm_yes (cs := cs) H5.out (fun i hi => by
          have hi' : i < ss.length := by rw [← HSS.out]; exact hi
          simp only [HSS.out]
          exact hat.out i hi' (by omega))
        obtain rfl : true = ok := hf.symm.trans HOK.out
        have hlt' : ¬ (k : Int) < (ss.length : Int) := by omega
        clear hf
        go_wp2
        go_ret
        exact ⟨rfl, HB.out⟩
  · have hf := perm_long (cs := cs) (by omega)
    obtain rfl : false = ok := hf.symm.trans HOK.out
    have h5' : (5 : Int) < (cs.length : Int) := by omega
    clear hf
    go_enter Try.func16, Try.ntmps16
    go_wp2
    go_ret
    exact ⟨rfl, Below.refl _ _⟩
end Go.Proofs.Ytfeeimbepdfadaa.SqV
