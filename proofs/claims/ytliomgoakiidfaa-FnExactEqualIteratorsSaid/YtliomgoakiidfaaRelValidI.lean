/- The test of validity of relations, the program's (impl.IsValidRelation). -/
import Derived.Test.YtliomgoakiidfaaRowCmp
import Derived.Test.YtliomgoakiidfaaRelValidS
namespace Go.Proofs.Ytliomgoakiidfaa.RelValidI
open Go.RowKit
open Go.Proofs.Ytliomgoakiidfaa.Num Go.Proofs.Ytliomgoakiidfaa.IntRow Go.Proofs.Ytliomgoakiidfaa.Vals Go.Proofs.Ytliomgoakiidfaa.Grid Go.Proofs.Ytliomgoakiidfaa.CmpL Go.Proofs.Ytliomgoakiidfaa.RowCmp Go.Proofs.Ytliomgoakiidfaa.Asc Go.Proofs.Ytliomgoakiidfaa.Cells Go.Proofs.Ytliomgoakiidfaa.RelValidS
set_option linter.unusedVariables false

theorem impl_row (a : Option Addr) (cap B : Nat) (n : Int) (xs : List Int) (w : World) (hn : xs.length ≤ 1048576) (h : Rd w B a xs) :
    Calls Try.prog 95 #[.slice a xs.length cap, .int .i64 n] w fun e w' => e = .returned (.bool (rowOk n xs)) ∧ w = w' := by
  by_cases hl : (xs.length : Int) = n
  · have ht : ((xs.length : Int) == n) = true := by simp [hl]
    have hr := hid (show rowOk n xs = vals xs by simp [rowOk, hl])
    have A := hid (impl_are a cap B xs w hn h)
    clear hl h
    go_enter Try.func95, Try.ntmps95
    go_wp2_with fail
    refine A.out.mono ?_
    rintro e w' ⟨rfl, rfl⟩
    go_wp2
    go_ret
    exact ⟨by rw [hr.out]; rfl, rfl⟩
  · have ht : ((xs.length : Int) == n) = false := by simp [hl]
    have hr := hid (show rowOk n xs = false by simp [rowOk, hl])
    clear hl h
    go_enter Try.func95, Try.ntmps95
    go_wp2
    go_ret
    exact ⟨by rw [hr.out]; rfl, rfl⟩

theorem ivalid_no (n : Int) (a : Option Addr) (len cap : Nat) (w : World) (hl : len ≤ 9223372036854775807) (hno : n < 0 ∨ 5 < n ∨ (0 ≤ n ∧ n ≤ 5 ∧ 4000 < len)) :
    Calls Try.prog 85 #[.agg #[.int .i64 n, .slice a len cap]] w fun e w' => e = .returned (.bool false) ∧ Below w.heap.size w w' := by
  have B1 := hid ((Below.refl w.heap.size w).alloc (Nat.le_refl _) (.cells #[.int .i64 n, .slice a len cap] 70))
  rcases (by omega : n < 0 ∨ (¬ n < 0 ∧ 5 < n) ∨ (¬ n < 0 ∧ ¬ 5 < n ∧ (4000 : Int) < (len : Int))) with h1 | ⟨h1, h2⟩ | ⟨h1, h2, h3⟩ <;>
  · clear hno
    go_enter Try.func85, Try.ntmps85
    go_wp2
    go_ret
    exact ⟨rfl, B1.out⟩

set_option maxRecDepth 100000 in
set_option maxHeartbeats 4000000 in
theorem ivalid_main (n : Int) (a : Option Addr) (cap len B : Nat) (xss : List (List Int)) (w : World) (hl : xss.length = len) (hn0 : 0 ≤ n) (hn5 : n ≤ 5) (hlen : len ≤ 4000) (hx : ∀ j (h : j < xss.length), xss[j].length ≤ 1048576) (h : GRd w B a xss) (hB : B ≤ w.heap.size) :
    Calls Try.prog 85 #[.agg #[.int .i64 n, .slice a len cap]] w fun e w' => e = .returned (.bool (vrel n xss)) ∧ Below w.heap.size w w' := by
  obtain ⟨c10, c11, c12, _, _⟩ := has2_new w (.int .i64 n) (.slice a len cap) 70
  have B1 := hid ((Below.refl w.heap.size w).alloc (Nat.le_refl _) (.cells #[.int .i64 n, .slice a len cap] 70))
  have hlt4 : ¬ (4000 : Int) < (len : Int) := by omega
  have hn0' : ¬ n < 0 := by omega
  have hn5' : ¬ 5 < n := by omega
  have HG := hid (h.below (B1.out.mono hB))
  clear h
  go_enter Try.func85, Try.ntmps85
  go_wp2
  go_loop [3, 4, 22] (fun _ _ i => ∃ k : Nat, k ≤ len ∧ i = .int .i64 k ∧ Hid (Pre n xss k)) (fun _ _ i => len - (intOf i).toNat)
  case atStart => exact ⟨0, Nat.zero_le _, rfl, hid (Pre.zero _ _)⟩
  case round =>
    obtain ⟨k, hk, rfl, hpre⟩ := hrel
    by_cases hlt : k < len
    · have hk1 : k < xss.length := by omega
      obtain ⟨b, off, rfl, hbB, hc⟩ := HG.out (by omega)
      obtain ⟨aj, capj, g, r⟩ := hc k hk1
      have hxk := hx k hk1
      have hlt' : (k : Int) < (len : Int) := by omega
      have h0' : (0 : Int) ≤ (k : Int) := by omega
      have R := hid (impl_row aj capj B n xss[k] _ hxk r)
      cases hrow : rowOk n xss[k] with
      | false =>
        have hf := hid (no_row (n := n) k hk1 hrow)
        rw [hrow] at R
        clear hc r hx
        go_wp2_with fail
        refine R.out.mono ?_
        rintro e w' ⟨rfl, rfl⟩
        go_wp2
        go_ret
        exact ⟨by rw [hf.out]; rfl, B1.out⟩
      | true =>
        rw [hrow] at R
        by_cases hk0 : 0 < k
        · obtain ⟨ap, capp, gp, rp⟩ := hc (k - 1) (by omega)
          obtain ⟨c, hcc⟩ : ∃ c, cmpL (xss[k - 1]'(by omega)) xss[k] = c := ⟨_, rfl⟩
          have E := hid (by
            have := impl_cmp ap aj capp capj B B (xss[k - 1]'(by omega)) xss[k] _ (hx (k - 1) (by omega)) hxk rp r
            rw [hcc] at this
            exact this)
          have hkp : (0 : Int) < (k : Int) := by omega
          have hk1' : (0 : Int) ≤ (k : Int) - 1 := by omega
          have hk2' : (k : Int) - 1 < (len : Int) := by omega
          have et : ((k : Int) - 1).toNat = k - 1 := by omega
          by_cases hneg : c < 0
          · have ht : ¬ (0 ≤ c) := by omega
            have HP := hid (hpre.out.step hk1 hrow (fun _ => by rw [hcc]; exact hneg))
            clear hc r rp hx hcc
            go_wp2_with fail
            refine R.out.mono ?_
            rintro e w' ⟨rfl, rfl⟩
            go_wp2_with fail
            refine E.out.mono ?_
            rintro e w' ⟨rfl, rfl⟩
            go_wp2
            go_round
            case rel => exact ⟨k + 1, by omega, by go_num, HP⟩
            case measure => simp [intOf]; omega
          · have ht : 0 ≤ c := by omega
            have hf := hid (no_step (n := n) k hk1 hk0 (by rw [hcc]; exact hneg))
            clear hc r rp hx hcc
            go_wp2_with fail
            refine R.out.mono ?_
            rintro e w' ⟨rfl, rfl⟩
            go_wp2_with fail
            refine E.out.mono ?_
            rintro e w' ⟨rfl, rfl⟩
            go_wp2
            go_ret
            exact ⟨by rw [hf.out]; rfl, B1.out⟩
        · have hkp : ¬ (0 : Int) < (k : Int) := by omega
          have HP := hid (hpre.out.step hk1 hrow (fun h => absurd h hk0))
          clear hc r hx
          go_wp2_with fail
          refine R.out.mono ?_
          rintro e w' ⟨rfl, rfl⟩
          go_wp2
          go_round
          case rel => exact ⟨k + 1, by omega, by go_num, HP⟩
          case measure => simp [intOf]; omega
    · have hf := hid (hpre.out)
      have e : k = xss.length := by omega
      have hall := hid (Pre.all (n := n) (xss := xss) (by rw [← e]; exact hf.out) hn0 hn5 (by omega))
      clear hx hf e
      go_wp2
      go_ret
      exact ⟨by rw [hall.out]; rfl, B1.out⟩

/-- impl.IsValidRelation at every relation of some size. -/
theorem impl_valid (n : Int) (a : Option Addr) (len cap B : Nat) (xss : List (List Int)) (w : World) (hl : xss.length = len) (hlen : len ≤ 1048576) (hx : ∀ j (h : j < xss.length), xss[j].length ≤ 1048576) (h : GRd w B a xss) (hB : B ≤ w.heap.size) :
    Calls Try.prog 85 #[.agg #[.int .i64 n, .slice a len cap]] w fun e w' => e = .returned (.bool (vrel n xss)) ∧ Below w.heap.size w w' := by
  by_cases h1 : n < 0 ∨ 5 < n
  · rw [no_arity h1]
    exact ivalid_no n a len cap w (by omega) (by omega)
  · by_cases h2 : 4000 < len
    · rw [no_len (by omega)]
      exact ivalid_no n a len cap w (by omega) (by omega)
    · exact ivalid_main n a cap len B xss w hl (by omega) (by omega) (by omega) hx h hB
end Go.Proofs.Ytliomgoakiidfaa.RelValidI
