/- A number that is valid and not negative (isValidWeight); lists of such. -/
import Derived.Test.YtjnphlgmmjdeiaaRats
import Derived.Test.YtjnphlgmmjdeiaaOps
import Derived.Test.YtjnphlgmmjdeiaaOpsSpec
import Derived.Test.YtjnphlgmmjdeiaaAllV
namespace Go.Proofs.Ytjnphlgmmjdeiaa.Wt
open Go.RowKit
open Go.Proofs.Ytjnphlgmmjdeiaa.Num Go.Proofs.Ytjnphlgmmjdeiaa.IntRow Go.Proofs.Ytjnphlgmmjdeiaa.Rdr Go.Proofs.Ytjnphlgmmjdeiaa.HasL Go.Proofs.Ytjnphlgmmjdeiaa.Rat Go.Proofs.Ytjnphlgmmjdeiaa.Valid Go.Proofs.Ytjnphlgmmjdeiaa.Rats Go.Proofs.Ytjnphlgmmjdeiaa.Ops Go.Proofs.Ytjnphlgmmjdeiaa.OpsSpec Go.Proofs.Ytjnphlgmmjdeiaa.AllV
set_option linter.unusedVariables false

def wt (r : RatD) : Bool := vr r.1 r.2 && decide (0 ≤ r.1)
theorem wt_v {r : RatD} (h : vr r.1 r.2 = false) : wt r = false := by rw [wt, h]; rfl
theorem wt_n {r : RatD} (h : r.1 < 0) : wt r = false := by rw [wt, decide_eq_false (by omega), Bool.and_false]
theorem wt_yes {r : RatD} (h : vr r.1 r.2 = true) (h2 : 0 ≤ r.1) : wt r = true := by rw [wt, h, decide_eq_true h2]; rfl
theorem wt_vr {r : RatD} (h : wt r = true) : vr r.1 r.2 = true ∧ 0 ≤ r.1 := by
  unfold wt at h
  rw [Bool.and_eq_true, decide_eq_true_eq] at h
  exact h
def nn (xs : List RatD) : Bool := xs.all wt
def nnTo (xs : List RatD) (k : Nat) : Prop := ∀ j (h : j < xs.length), j < k → wt xs[j] = true
theorem nn_yes {xs : List RatD} (h : nnTo xs xs.length) : nn xs = true := List.all_eq_true.2 fun p hp => by
  obtain ⟨j, hj, rfl⟩ := List.getElem_of_mem hp
  exact h j hj hj
theorem nn_no {xs : List RatD} {k : Nat} (hk : k < xs.length) (h : wt xs[k] = false) : nn xs = false := by
  cases hb : nn xs with
  | false => rfl
  | true =>
    have := List.all_eq_true.1 hb xs[k] (List.getElem_mem _)
    rw [h] at this
    cases this
theorem nn_at {xs : List RatD} (h : nn xs = true) (k : Nat) (hk : k < xs.length) : wt xs[k] = true := List.all_eq_true.1 h xs[k] (List.getElem_mem _)
theorem nnTo_step {xs : List RatD} {k : Nat} (h : nnTo xs k) (hk : k < xs.length) (hv : wt xs[k] = true) : nnTo xs (k + 1) := fun j hj hjk => by
  by_cases e : j = k
  · subst e; exact hv
  · exact h j hj (by omega)

theorem impl_wt (r : RatD) (w : World) (h1 : Ib r.1) (h2 : Ib r.2) : Calls Try.prog 101 #[.agg #[.int .i64 r.1, .int .i64 r.2]] w fun e w' => e = .returned (.bool (wt r)) ∧ Below w.heap.size w w' := by
  have K := hid (hasl_new w [.int .i64 r.1, .int .i64 r.2] 35)
  have B1 := hid ((Below.refl w.heap.size w).alloc (Nat.le_refl _) (.cells #[.int .i64 r.1, .int .i64 r.2] 35))
  cases hv : vr r.1 r.2 with
  | false =>
    have V := hid (fun W => valid_no r.1 r.2 W h1 h2 hv)
    have HF := hid (wt_v hv)
    clear hv h1 h2
    go_enter Try.func101, Try.ntmps101
    go_wp2_with fail
    refine (V.out _).mono ?_
    rintro e w1 ⟨rfl, hb⟩
    have HB := hid (B1.out.trans (hb.mono B1.out.size))
    clear hb
    go_wp2
    go_ret
    exact ⟨by rw [HF.out]; rfl, HB.out⟩
  | true =>
    have V := hid (fun W => valid_yes r.1 r.2 W hv)
    by_cases h0 : 0 ≤ r.1
    · have HF := hid (wt_yes hv h0)
      have HD := hid (decide_eq_true h0)
      clear hv h1 h2
      go_enter Try.func101, Try.ntmps101
      go_wp2_with fail
      refine (V.out _).mono ?_
      rintro e w1 ⟨rfl, hb⟩
      have HB := hid (B1.out.trans (hb.mono B1.out.size))
      obtain ⟨k0, k1, k2, k3, k4⟩ := (K.out.below hb).two
      clear hb
      go_wp2
      go_ret
      exact ⟨by rw [HF.out, ← HD.out]; rfl, HB.out⟩
    · have HF := hid (wt_n (r := r) (by omega))
      have h0' : r.1 < 0 := by omega
      have HD := hid (decide_eq_false h0)
      clear hv h1 h2
      go_enter Try.func101, Try.ntmps101
      go_wp2_with fail
      refine (V.out _).mono ?_
      rintro e w1 ⟨rfl, hb⟩
      have HB := hid (B1.out.trans (hb.mono B1.out.size))
      obtain ⟨k0, k1, k2, k3, k4⟩ := (K.out.below hb).two
      clear hb
      go_wp2
      go_ret
      exact ⟨by rw [HF.out, ← HD.out]; rfl, HB.out⟩

theorem impl_nn (a : Option Addr) (cap : Nat) (xs : List RatD) (lo hi : Nat) (w : World) (hn : xs.length ≤ 9223372036854775806) (h : Els 2 rRat w lo hi a xs) (hh : hi ≤ w.heap.size) :
    Calls Try.prog 68 #[.slice a xs.length cap] w fun e w' => e = .returned (.bool (nn xs)) ∧ Below w.heap.size w w' := by
  go_enter Try.func68, Try.ntmps68
  go_wp2_with fail
  go_loopw [4, 7] (fun _ i wr => ∃ k : Nat, k ≤ xs.length ∧ i = .int .i64 k ∧ Hid (nnTo xs k) ∧ Hid (Below w.heap.size w wr)) (fun _ i _ => xs.length - (intOf i).toNat)
  case atStart => exact ⟨0, Nat.zero_le _, rfl, hid (fun j _ hj => by omega), hid (Below.refl _ _)⟩
  case round =>
    obtain ⟨k, hk, rfl, hok, hb⟩ := hrel
    by_cases hlt : k < xs.length
    · obtain ⟨b, off, rfl, _, hbB, c0, c1⟩ := rats_at (h.grow good_rat hb.out hh) k hlt
      have hbd := rats_bd h k hlt
      have hlt' : (k : Int) < (xs.length : Int) := by omega
      have h0' : (0 : Int) ≤ (k : Int) := by omega
      have hsz := hb.out.size
      have N1 := hid (hasl_new wr [.int .i64 xs[k].1, .int .i64 xs[k].2] 35)
      have B1 := hid (hb.out.alloc hsz (.cells #[.int .i64 xs[k].1, .int .i64 xs[k].2] 35))
      obtain ⟨n0, n1, n2, n3, n4⟩ := N1.out.two
      cases hv : wt xs[k] with
      | true =>
        have A := hid (fun W => impl_wt xs[k] W hbd.1 hbd.2)
        rw [hv] at A
        have HO := hid (nnTo_step hok.out hlt hv)
        clear h hbd hok hb hv
        go_wp2_with fail
        refine (A.out _).mono ?_
        rintro e w2 ⟨rfl, hb2⟩
        have HB := hid (B1.out.trans (hb2.mono (by (try simp only [World.size_alloc]); omega)))
        clear hb2
        go_wp2_with fail
        go_roundw
        case rel => exact ⟨k + 1, by omega, by go_num, HO, HB⟩
        case measure => simp [intOf]; omega
      | false =>
        have A := hid (fun W => impl_wt xs[k] W hbd.1 hbd.2)
        rw [hv] at A
        have HO := hid (nn_no hlt hv)
        clear h hbd hok hb hv
        go_wp2_with fail
        refine (A.out _).mono ?_
        rintro e w2 ⟨rfl, hb2⟩
        have HB := hid (B1.out.trans (hb2.mono (by (try simp only [World.size_alloc]); omega)))
        clear hb2
        go_wp2_with fail
        go_ret
        exact ⟨by rw [HO.out]; rfl, HB.out⟩
    · have e : k = xs.length := by omega
      subst e
      have HO := hid (nn_yes hok.out)
      clear h hok
      go_wp2_with fail
      go_ret
      exact ⟨by rw [HO.out]; rfl, hb.out⟩

end Go.Proofs.Ytjnphlgmmjdeiaa.Wt
