/- The library's slices.Repeat at the row [-1], for a few times: a row of -1 of the call's own. -/
import Derived.Test.YtaeeogighoobdaaProg
import Derived.Test.YtaeeogighoobdaaNum
import Derived.Test.YtaeeogighoobdaaIntRow
import Derived.Test.YtaeeogighoobdaaIntLaw
import Derived.Test.YtaeeogighoobdaaHasL
import Derived.Test.YtaeeogighoobdaaCatE
import Derived.Test.YtaeeogighoobdaaSetV
import Derived.Laws.CopyOwn
import Derived.Deep.RegionHeld3
import Derived.Deep.DeepCutAuto
namespace Go.Proofs.Ytaeeogighoobdaa.RepI
open Go.RowKit Go.Sort
open Go.Proofs.Ytaeeogighoobdaa.Num Go.Proofs.Ytaeeogighoobdaa.IntRow Go.Proofs.Ytaeeogighoobdaa.IntLaw Go.Proofs.Ytaeeogighoobdaa.HasL Go.Proofs.Ytaeeogighoobdaa.CatE Go.Proofs.Ytaeeogighoobdaa.SetV
set_option linter.unusedVariables false

theorem copy_into {P : Program} (w W : World) (T elem ty : TypeId) (H off dLen dCap : Nat) (ad : Addr) (sLen sCap : Nat) (cur cs : List Value) (hu : P.underlying T = some (.slice elem)) (hsz : (P.info? elem).map (·.size) = some 1)
    (hg : W.heap[H]? = some (.cells cur.toArray elem (0, 0))) (hn : cs.length = Nat.min sLen dLen) (hsrc : ∀ j v, cs[j]? = some v → W.cell? (ad.add j) = some v) (hfit : off + cs.length ≤ cur.length) (h1 : ∀ v ∈ cs, v.oneCell' = true)
    (hb : Below w.heap.size w W) (hH : w.heap.size ≤ H) :
    ∃ W', (Builtin.copy_ #[T, T] ty #[.slice (some ⟨H, off, none⟩) dLen dCap, .slice (some ad) sLen sCap]).run P W = .ok (goInt cs.length) W' ∧ Hid (W'.heap[H]? = some (.cells (splice cur off cs).toArray elem (0, 0))) ∧ Hid (Below w.heap.size w W') := by
  have hrun := run_copy_row (P := P) W T T ty elem H off dLen dCap ad sLen sCap cur.toArray elem cs hu hsz hg hn hsrc (by simpa using hfit) h1
  refine ⟨_, hrun, hid ?_, hid (below_setRow hb hH _)⟩
  simpa [splice] using setRow_heap W H _ _ elem _ hg

theorem mul1 (n : Nat) (w : World) (hn : n ≤ 4) :
    Calls Try.prog 84 #[.int .u64 1, .int .u64 (n : Int)] w fun e w' => e = .returned (.tuple #[.int .u64 0, .int .u64 (n : Int)]) ∧ w = w' := by
  have M : ∀ n : Nat, n ≤ 4 → Calls Try.prog 93 #[.int .u64 1, .int .u64 (n : Int)] w fun e w' => e = .returned (.tuple #[.int .u64 0, .int .u64 (n : Int)]) ∧ w = w' := by
    intro n hn
    have b1 : bits .and .u64 1 4294967295 = 1 := by decide
    rcases (by omega : n = 0 ∨ n = 1 ∨ n = 2 ∨ n = 3 ∨ n = 4) with rfl | rfl | rfl | rfl | rfl
    · have b2 : bits .and .u64 0 4294967295 = 0 := by decide
      go_enter Try.func93, Try.ntmps93
      go_wp2
      go_ret2
      exact ⟨rfl, rfl⟩
    · have b2 : bits .and .u64 0 4294967295 = 0 := by decide
      go_enter Try.func93, Try.ntmps93
      go_wp2
      go_ret2
      exact ⟨rfl, rfl⟩
    · have b2 : bits .and .u64 0 4294967295 = 0 := by decide
      have b3 : bits .and .u64 2 4294967295 = 2 := by decide
      go_enter Try.func93, Try.ntmps93
      go_wp2
      go_ret2
      exact ⟨rfl, rfl⟩
    · have b2 : bits .and .u64 0 4294967295 = 0 := by decide
      have b3 : bits .and .u64 3 4294967295 = 3 := by decide
      go_enter Try.func93, Try.ntmps93
      go_wp2
      go_ret2
      exact ⟨rfl, rfl⟩
    · have b2 : bits .and .u64 0 4294967295 = 0 := by decide
      have b3 : bits .and .u64 4 4294967295 = 4 := by decide
      go_enter Try.func93, Try.ntmps93
      go_wp2
      go_ret2
      exact ⟨rfl, rfl⟩
  have C := hid (M n hn)
  clear M
  have u1 : IntKind.u64.wrap (n : Int) = (n : Int) := wrap_u n (by omega)
  go_enter Try.func84, Try.ntmps84
  go_wp2_with fail
  with_reducible refine C.out.mono ?_
  rintro e w1 ⟨rfl, rfl⟩
  go_wp2
  go_ret2
  exact ⟨rfl, rfl⟩

/-- The cells when m are filled. -/
def half (n m : Nat) : List Value := List.replicate m (.int .i64 (-1)) ++ List.replicate (n - m) (.int .i64 0)
theorem half_len {n m : Nat} (h : m ≤ n) : (half n m).length = n := by simp [half]; omega
theorem half_splice {n m c : Nat} (h : m + c ≤ n) : splice (half n m) m (List.replicate c (.int .i64 (-1))) = half n (m + c) := by
  unfold splice half
  rw [List.take_left' (by simp), List.drop_append, List.drop_eq_nil_of_le (by simp)]
  simp only [List.length_replicate, List.nil_append, List.drop_replicate]
  rw [← List.append_assoc, List.replicate_append_replicate]
  congr 2
  omega
theorem half_cell {n m g : Nat} {W : World} {e : TypeId} (hm : m ≤ n) (h : W.heap[g]? = some (.cells (half n m).toArray e (0, 0))) (c : Nat) (hc : c ≤ m) : ∀ j v, (List.replicate c (Value.int .i64 (-1)))[j]? = some v → W.cell? ((⟨g, 0, none⟩ : Addr).add j) = some v := fun j v hv => by
  rw [List.getElem?_replicate] at hv
  split at hv
  · rename_i hj
    have hv' : Value.int .i64 (-1) = v := Option.some.inj hv
    subst hv'
    rw [Go.WideShapes.add_plain, Nat.zero_add]
    rw [cell_of_row _ _ j _ e (0, 0) h]
    have : j < (half n m).length := by rw [half_len hm]; omega
    simp only [List.getElem?_toArray]
    rw [half, List.getElem?_append_left (by simp; omega), List.getElem?_replicate, if_pos (by omega)]
  · cases hv

set_option maxRecDepth 100000 in
set_option maxHeartbeats 1000000 in
theorem lib_repeat (vb n : Nat) (w : World) (hn : n ≤ 4) (hn1 : 1 ≤ n) (hv : w.cell? ⟨vb, 0, none⟩ = some (.int .i64 (-1))) (hvb : vb < w.heap.size) :
    Calls Try.prog 66 #[.slice (some ⟨vb, 0, none⟩) 1 1, .int .i64 (n : Int)] w fun e w' => ∃ g, e = .returned (.slice (some ⟨g, 0, none⟩) n n) ∧ w.heap.size ≤ g ∧ At w' g 3 n (List.replicate n (-1)) ∧ Below w.heap.size w w' := by
  obtain ⟨i0, hi0, hz0, hz1, hz2⟩ := info_parts IntLaw.info
  have hsz : (Try.prog.info? 3).map (·.size) = some 1 := by rw [hi0]; simp [hz1]
  have hmk := make_ints (P := Try.prog) w 23 3 i0 Try.underlying23 hi0 hz0 hz1 hz2 n (by omega)
  have HB0 := hid ((Below.refl w.heap.size w).alloc (Nat.le_refl _) (.cells (Array.replicate n (.int .i64 0)) 3))
  have h0 : (w.alloc (.cells (Array.replicate n (.int .i64 0)) 3)).heap[w.heap.size]? = some (.cells (half n 0).toArray 3 (0, 0)) := by
    rw [heap_alloc_new]
    simp [half]
  have hc0 : (w.alloc (.cells (Array.replicate n (.int .i64 0)) 3)).cell? ⟨vb, 0, none⟩ = some (.int .i64 (-1)) := (HB0.out.cell (p := ⟨vb, 0, none⟩) hvb).trans hv
  have hmin : (List.replicate 1 (Value.int .i64 (-1))).length = Nat.min 1 n := by simp [Nat.min_def]; omega
  obtain ⟨w1, hrun1, h1, hb1⟩ := copy_into (P := Try.prog) w _ 23 3 3 w.heap.size 0 n n ⟨vb, 0, none⟩ 1 1 (half n 0) (List.replicate 1 (.int .i64 (-1))) Try.underlying23 hsz h0 hmin (fun j v hj => by
      rw [List.getElem?_replicate] at hj
      split at hj
      · have hj' : Value.int .i64 (-1) = v := Option.some.inj hj
        subst hj'
        have : j = 0 := by omega
        subst this
        simpa [Addr.add] using hc0
      · cases hj) (by rw [half_len (Nat.zero_le _)]; simp; omega) (fun v hv => by rw [List.eq_of_mem_replicate hv]; rfl) HB0.out (Nat.le_refl _)
  have h1' := hid (show w1.heap[w.heap.size]? = some (.cells (half n 1).toArray 3 (0, 0)) by have := h1.out; rw [half_splice (by omega)] at this; exact this)
  have C := hid (mul1 n w hn)
  have u1 : IntKind.u64.wrap (n : Int) = (n : Int) := wrap_u n (by omega)
  have u2 : IntKind.i64.wrap (n : Int) = (n : Int) := Num.wrap_small n (by omega)
  have l1 : goInt (List.replicate 1 (Value.int .i64 (-1))).length = .int .i64 1 := rfl
  rw [l1] at hrun1
  have t1 : ¬ (9223372036854775807 : Int) < (n : Int) := by omega
  clear h0 hc0 h1 hmin hv
  go_enter Try.func66, Try.ntmps66
  go_wp2_with fail
  with_reducible refine C.out.mono ?_
  rintro e w2 ⟨rfl, rfl⟩
  go_wp2
  clear hmk hrun1
  go_loopw [8] (fun i wr => ∃ m : Nat, 1 ≤ m ∧ m ≤ n ∧ i = .int .i64 m ∧ Hid (wr.heap[w.heap.size]? = some (.cells (half n m).toArray 3 (0, 0))) ∧ Hid (Below w.heap.size w wr)) (fun i _ => n - (intOf i).toNat)
  case atStart => exact ⟨1, Nat.le_refl _, hn1, rfl, h1', hb1⟩
  case round =>
    obtain ⟨m, hm1, hm, rfl, hH, hb⟩ := hrel
    by_cases hlt : m < n
    · have hlt' : (m : Int) < (n : Int) := by omega
      obtain ⟨c, hc⟩ : ∃ c, Nat.min m (n - m) = c := ⟨_, rfl⟩
      have hcm : c ≤ m := by rw [← hc]; exact Nat.min_le_left _ _
      have hcn : m + c ≤ n := by have : c ≤ n - m := by rw [← hc]; exact Nat.min_le_right _ _
                                 omega
      have hc1 : 1 ≤ c := by rw [← hc]; simp only [Nat.min_def]; split <;> omega
      have hHd := hid (show wr.drew.heap[w.heap.size]? = some (.cells (half n m).toArray 3 (0, 0)) from hH.out)
      have hbd := hid hb.out.drew
      have SU := run_uptok (P := Try.prog) Try.underlying23 hi0 (some ⟨w.heap.size, 0, none⟩) n n m hm
      have SF := run_fromk (P := Try.prog) Try.underlying23 hi0 hz1 (some ⟨w.heap.size, 0, none⟩) n n m hm
      have hif : (if n = m then (some (⟨w.heap.size, 0, none⟩ : Addr)) else (some (⟨w.heap.size, 0, none⟩ : Addr)).map (·.add (m * 1))) = some ⟨w.heap.size, m, none⟩ := by
        rw [if_neg (by omega)]
        simp [Go.WideShapes.add_plain]
      rw [hif] at SF
      obtain ⟨p, hp⟩ : ∃ p, n - m = p := ⟨_, rfl⟩
      rw [hp] at SF hc
      obtain ⟨w3, hrun, h3, hb3⟩ := copy_into (P := Try.prog) w wr.drew 23 3 3 w.heap.size m p p ⟨w.heap.size, 0, none⟩ m n (half n m) (List.replicate c (.int .i64 (-1))) Try.underlying23 hsz hHd.out (by simp; exact hc.symm) (half_cell hm hHd.out c hcm) (by rw [half_len hm]; simp; omega) (fun v hv => by rw [List.eq_of_mem_replicate hv]; rfl) hbd.out (Nat.le_refl _)
      have hgo : goInt (List.replicate c (Value.int .i64 (-1))).length = .int .i64 (c : Int) := by rw [List.length_replicate]; rfl
      rw [hgo] at hrun
      have H3 := hid (show w3.heap[w.heap.size]? = some (.cells (half n (m + c)).toArray 3 (0, 0)) by have := h3.out; rw [half_splice hcn] at this; exact this)
      have u3 : IntKind.i64.wrap ((m : Int) + (c : Int)) = ((m + c : Nat) : Int) := by rw [show (m : Int) + (c : Int) = ((m + c : Nat) : Int) by omega]; exact Num.wrap_small (m + c) (by omega)
      obtain ⟨q, hq⟩ : ∃ q, m + c = q := ⟨_, rfl⟩
      rw [hq] at H3 u3
      have hq1 : m < q := by omega
      have hq2 : q ≤ n := by omega
      clear h3 hp hc hif hH hb hHd hbd hq hgo
      go_upto_region 9 with fail
      go_region
      all_goals
        go_wp2
        go_roundw
        case rel => exact ⟨q, by omega, hq2, rfl, H3, hb3⟩
        case measure => simp [intOf]; omega
    · have e : m = n := by omega
      subst e
      have HA := hid (show At wr w.heap.size 3 m (List.replicate m (-1)) from ⟨by simp [ic], .inr ⟨w.heap.size, m, (half m m).toArray, by simp, Nat.le_refl _, hH.out, by simp, by unfold maxLen; omega, by simp [half_len (Nat.le_refl _)], by simp [half, ic]⟩⟩)
      go_wp2
      go_ret
      exact ⟨w.heap.size, rfl, Nat.le_refl _, HA.out, hb.out⟩
end Go.Proofs.Ytaeeogighoobdaa.RepI
