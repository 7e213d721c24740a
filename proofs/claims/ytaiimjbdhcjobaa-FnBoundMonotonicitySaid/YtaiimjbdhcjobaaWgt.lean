/- Admissible weights: the model's test and the program's. -/
import Derived.Test.YtaiimjbdhcjobaaRats
import Derived.Test.YtaiimjbdhcjobaaOps
import Derived.Test.YtaiimjbdhcjobaaOpsSpec
import Derived.Test.YtaiimjbdhcjobaaQryP
namespace Go.Proofs.Ytaiimjbdhcjobaa.Wgt
open Go.RowKit
open Go.Proofs.Ytaiimjbdhcjobaa.Num Go.Proofs.Ytaiimjbdhcjobaa.IntRow Go.Proofs.Ytaiimjbdhcjobaa.Rdr Go.Proofs.Ytaiimjbdhcjobaa.HasL Go.Proofs.Ytaiimjbdhcjobaa.Rat Go.Proofs.Ytaiimjbdhcjobaa.Rats Go.Proofs.Ytaiimjbdhcjobaa.Ops Go.Proofs.Ytaiimjbdhcjobaa.OpsSpec Go.Proofs.Ytaiimjbdhcjobaa.QryP
set_option linter.unusedVariables false

def wt (r : RatD) : Bool := vr r.1 r.2 && decide (0 ≤ r.1)
def adm1 (r : RatD) : Bool := wt r && (decide (r.1 ≤ 1000) && decide (r.2 ≤ 1000))
def adm (xs : List RatD) : Bool := xs.all adm1
theorem wt_v {r : RatD} (h : vr r.1 r.2 = false) : wt r = false := by rw [wt, h]; rfl
theorem wt_n {r : RatD} (h : r.1 < 0) : wt r = false := by rw [wt, decide_eq_false (by omega), Bool.and_false]
theorem wt_yes {r : RatD} (h : vr r.1 r.2 = true) (h2 : 0 ≤ r.1) : wt r = true := by rw [wt, h, decide_eq_true h2]; rfl
theorem wt_vr {r : RatD} (h : wt r = true) : vr r.1 r.2 = true ∧ 0 ≤ r.1 := by
  unfold wt at h
  rw [Bool.and_eq_true, decide_eq_true_eq] at h
  exact h
theorem adm1_wt {r : RatD} (h : wt r = false) : adm1 r = false := by rw [adm1, h]; rfl
theorem adm1_n {r : RatD} (h : 1000 < r.1) : adm1 r = false := by rw [adm1, decide_eq_false (show ¬ r.1 ≤ 1000 by omega), Bool.false_and, Bool.and_false]
theorem adm1_d {r : RatD} (h : 1000 < r.2) : adm1 r = false := by rw [adm1, decide_eq_false (show ¬ r.2 ≤ 1000 by omega), Bool.and_false, Bool.and_false]
theorem adm1_yes {r : RatD} (h : wt r = true) (h1 : r.1 ≤ 1000) (h2 : r.2 ≤ 1000) : adm1 r = true := by rw [adm1, h, decide_eq_true h1, decide_eq_true h2]; rfl
theorem adm_no {xs : List RatD} (k : Nat) (h : k < xs.length) (e : adm1 xs[k] = false) : adm xs = false := all_no k h e
theorem adm_yes {xs : List RatD} (h : ∀ j (h : j < xs.length), adm1 xs[j] = true) : adm xs = true := all_yes h
theorem adm_at {xs : List RatD} (h : adm xs = true) (j : Nat) (hj : j < xs.length) : adm1 xs[j] = true := by
  unfold adm at h
  rw [List.all_eq_true] at h
  exact h _ (List.getElem_mem hj)

theorem impl_wt (r : RatD) (w : World) (h1 : Ib r.1) (h2 : Ib r.2) : Calls Try.prog 122 #[.agg #[.int .i64 r.1, .int .i64 r.2]] w fun e w' => e = .returned (.bool (wt r)) ∧ Below w.heap.size w w' := by
  have K := hid (hasl_new w [.int .i64 r.1, .int .i64 r.2] 30)
  have B1 := hid ((Below.refl w.heap.size w).alloc (Nat.le_refl _) (.cells #[.int .i64 r.1, .int .i64 r.2] 30))
  cases hv : vr r.1 r.2 with
  | false =>
    have V := hid (fun W => valid_no r.1 r.2 W h1 h2 hv)
    have HF := hid (wt_v hv)
    clear hv h1 h2
    go_enter Try.func122, Try.ntmps122
    go_wp2_with fail
    refine (V.out _).mono ?_
    rintro e w1 ⟨rfl, hb⟩
    have HB := hid (B1.out.trans (hb.mono B1.out.size))
    clear hb
    go_wp2
    go_ret
    exact ⟨by rw [HF.out]; rfl, HB.out⟩
  | true =>
    have V := hid (fun W => valid_yes r.1 r.2 W hv)
    by_cases h0 : 0 ≤ r.1
    · have HF := hid (wt_yes hv h0)
      have HD := hid (decide_eq_true h0)
      clear hv h1 h2
      go_enter Try.func122, Try.ntmps122
      go_wp2_with fail
      refine (V.out _).mono ?_
      rintro e w1 ⟨rfl, hb⟩
      have HB := hid (B1.out.trans (hb.mono B1.out.size))
      obtain ⟨k0, k1, k2, k3, k4⟩ := (K.out.below hb).two
      clear hb
      go_wp2
      go_ret
      exact ⟨by rw [HF.out, ← HD.out]; rfl, HB.out⟩
    · have HF := hid (wt_n (r := r) (by omega))
      have h0' : r.1 < 0 := by omega
      have HD := hid (decide_eq_false h0)
      clear hv h1 h2
      go_enter Try.func122, Try.ntmps122
      go_wp2_with fail
      refine (V.out _).mono ?_
      rintro e w1 ⟨rfl, hb⟩
      have HB := hid (B1.out.trans (hb.mono B1.out.size))
      obtain ⟨k0, k1, k2, k3, k4⟩ := (K.out.below hb).two
      clear hb
      go_wp2
      go_ret
      exact ⟨by rw [HF.out, ← HD.out]; rfl, HB.out⟩

end Go.Proofs.Ytaiimjbdhcjobaa.Wgt
