/- Admissible weights: the model's test and the program's. -/
import Derived.Test.YthghggnlfnbbgabDoorRats
import Derived.Test.YthghggnlfnbbgabDoorOps
import Derived.Test.YthghggnlfnbbgabDoorOpsSpec
import Derived.Test.YthghggnlfnbbgabDoorQryP
namespace Go.Proofs.YthghggnlfnbbgabDoor.Wgt
open Go.RowKit
open Go.Proofs.YthghggnlfnbbgabDoor.Num Go.Proofs.YthghggnlfnbbgabDoor.IntRow Go.Proofs.YthghggnlfnbbgabDoor.Rdr Go.Proofs.YthghggnlfnbbgabDoor.HasL Go.Proofs.YthghggnlfnbbgabDoor.Rat Go.Proofs.YthghggnlfnbbgabDoor.Rats Go.Proofs.YthghggnlfnbbgabDoor.Ops Go.Proofs.YthghggnlfnbbgabDoor.OpsSpec Go.Proofs.YthghggnlfnbbgabDoor.QryP
set_option linter.unusedVariables false

def wt (r : RatD) : Bool := vr r.1 r.2 && decide (0 ≤ r.1)
def adm1 (r : RatD) : Bool := wt r && (decide (r.1 ≤ 1000) && decide (r.2 ≤ 1000))
def adm (xs : List RatD) : Bool := xs.all adm1
theorem wt_v {r : RatD} (h : vr r.1 r.2 = false) : wt r = false := by rw [wt, h]; rfl
theorem wt_n {r : RatD} (h : r.1 < 0) : wt r = false := by rw [wt, decide_eq_false (by omega), Bool.and_false]
theorem wt_yes {r : RatD} (h : vr r.1 r.2 = true) (h2 : 0 ≤ r.1) : wt r = true := by rw [wt, h, decide_eq_true h2]; rfl
theorem wt_vr {r : RatD} (h : wt r = true) : vr r.1 r.2 = true ∧ 0 ≤ r.1 := by
  unfold wt at h
  rw [Bool.and_eq_true, decide_eq_true_eq] at h
  exact h
theorem adm1_wt {r : RatD} (h : wt r = false) : adm1 r = false := by rw [adm1, h]; rfl
theorem adm1_n {r : RatD} (h : 1000 < r.1) : adm1 r = false := by rw [adm1, decide_eq_false (show ¬ r.1 ≤ 1000 by omega), Bool.false_and, Bool.and_false]
theorem adm1_d {r : RatD} (h : 1000 < r.2) : adm1 r = false := by rw [adm1, decide_eq_false (show ¬ r.2 ≤ 1000 by omega), Bool.and_false, Bool.and_false]
theorem adm1_yes {r : RatD} (h : wt r = true) (h1 : r.1 ≤ 1000) (h2 : r.2 ≤ 1000) : adm1 r = true := by rw [adm1, h, decide_eq_true h1, decide_eq_true h2]; rfl
theorem adm_no {xs : List RatD} (k : Nat) (h : k < xs.length) (e : adm1 xs[k] = false) : adm xs = false := all_no k h e
theorem adm_yes {xs : List RatD} (h : ∀ j (h : j < xs.length), adm1 xs[j] = true) : adm xs = true := all_yes h
theorem adm_at {xs : List RatD} (h : adm xs = true) (j : Nat) (hj : j < xs.length) : adm1 xs[j] = true := by
  unfold adm at h
  rw [List.all_eq_true] at h
  exact h _ (List.getElem_mem hj)

theorem impl_wt (r : RatD) (w : World) (h1 : Ib r.1) (h2 : Ib r.2) : Calls Tryd.prog 42 #[.agg #[.int .i64 r.1, .int .i64 r.2]] w fun e w' => e = .returned (.bool (wt r)) ∧ Below w.heap.size w w' := by
  have K := hid (hasl_new w [.int .i64 r.1, .int .i64 r.2] 47)
  have B1 := hid ((Below.refl w.heap.size w).alloc (Nat.le_refl _) (.cells #[.int .i64 r.1, .int .i64 r.2] 47))
  cases hv : vr r.1 r.2 with
  | false =>
    have V := hid (fun W => valid_no r.1 r.2 W h1 h2 hv)
    have HF := hid (wt_v hv)
    clear hv h1 h2
    go_enter Tryd.func42, Tryd.ntmps42
    go_wp2_with fail
    refine (V.out _).mono ?_
    rintro e w1 ⟨rfl, hb⟩
    have HB := hid (B1.out.trans (hb.mono B1.out.size))
    clear hb
    go_wp2
    go_ret
    exact ⟨by rw [HF.out]; rfl, HB.out⟩
  | true =>
    have V := hid (fun W => valid_yes r.1 r.2 W hv)
    by_cases h0 : 0 ≤ r.1
    · have HF := hid (wt_yes hv h0)
      have HD := hid (decide_eq_true h0)
      clear hv h1 h2
      go_enter Tryd.func42, Tryd.ntmps42
      go_wp2_with fail
      refine (V.out _).mono ?_
      rintro e w1 ⟨rfl, hb⟩
      have HB := hid (B1.out.trans (hb.mono B1.out.size))
      obtain ⟨k0, k1, k2, k3, k4⟩ := (K.out.below hb).two
      clear hb
      go_wp2
      go_ret
      exact ⟨by rw [HF.out, ← HD.out]; rfl, HB.out⟩
    · have HF := hid (wt_n (r := r) (by omega))
      have h0' : r.1 < 0 := by omega
      have HD := hid (decide_eq_false h0)
      clear hv h1 h2
      go_enter Tryd.func42, Tryd.ntmps42
      go_wp2_with fail
      refine (V.out _).mono ?_
      rintro e w1 ⟨rfl, hb⟩
      have HB := hid (B1.out.trans (hb.mono B1.out.size))
      obtain ⟨k0, k1, k2, k3, k4⟩ := (K.out.below hb).two
      clear hb
      go_wp2
      go_ret
      exact ⟨by rw [HF.out, ← HD.out]; rfl, HB.out⟩

set_option maxRecDepth 100000 in
theorem impl_adm (a : Option Addr) (cap : Nat) (xs : List RatD) (lo hi : Nat) (w : World) (hn : xs.length ≤ 9223372036854775806) (h : Els 2 rRat w lo hi a xs) (hh : hi ≤ w.heap.size) :
    Calls Tryd.prog 23 #[.slice a xs.length cap] w fun e w' => e = .returned (.bool (adm xs)) ∧ Below w.heap.size w w' := by
  go_enter Tryd.func23, Tryd.ntmps23
  go_wp2
  go_loopw [4, 7] (fun _ i wr => ∃ k : Nat, k ≤ xs.length ∧ i = .int .i64 k ∧ Hid (∀ j (h : j < xs.length), j < k → adm1 xs[j] = true) ∧ Hid (Below w.heap.size w wr)) (fun _ i _ => xs.length - (intOf i).toNat)
  case atStart => exact ⟨0, Nat.zero_le _, rfl, hid (fun j _ h => by omega), hid (Below.refl _ _)⟩
  case round =>
    obtain ⟨k, hk, rfl, ha, hb⟩ := hrel
    by_cases hlt : k < xs.length
    · obtain ⟨b, off, rfl, _, hbB, c0, c1⟩ := rats_at (h.grow good_rat hb.out hh) k hlt
      have hbd := rats_bd h k hlt
      have hlt' : (k : Int) < (xs.length : Int) := by omega
      have h0' : (0 : Int) ≤ (k : Int) := by omega
      have K := hid (hasl_new wr [.int .i64 xs[k].1, .int .i64 xs[k].2] 47)
      have B1 := hid (hb.out.alloc hb.out.size (.cells #[.int .i64 xs[k].1, .int .i64 xs[k].2] 47))
      have V0 := hid (fun W => impl_wt xs[k] W hbd.1 hbd.2)
      obtain ⟨z, hz⟩ : ∃ z, wt xs[k] = z := ⟨_, rfl⟩
      rw [hz] at V0
      obtain ⟨p0, p1, p2, p3, p4⟩ := K.out.two
      cases z with
      | false =>
        have HF := hid (adm_no k hlt (adm1_wt hz))
        clear h hz hbd ha hb
        go_wp2_with fail
        refine (V0.out _).mono ?_
        rintro e w1 ⟨rfl, hb1⟩
        have HB := hid (B1.out.trans (hb1.mono B1.out.size))
        clear hb1 p0 p1 p2 p3 p4
        go_wp2
        go_ret
        exact ⟨by rw [HF.out]; rfl, HB.out⟩
      | true =>
        have H0 := (wt_vr hz).2
        by_cases hN : 1000 < xs[k].1
        · have HF := hid (adm_no k hlt (adm1_n hN))
          clear h hz hbd ha hb
          go_wp2_with fail
          refine (V0.out _).mono ?_
          rintro e w1 ⟨rfl, hb1⟩
          have HB := hid (B1.out.trans (hb1.mono B1.out.size))
          clear p0 p1 p2 p3 p4
          obtain ⟨p0, p1, p2, p3, p4⟩ := (K.out.below hb1).two
          clear hb1
          go_wp2
          go_ret
          exact ⟨by rw [HF.out]; rfl, HB.out⟩
        · by_cases hD : 1000 < xs[k].2
          · have HF := hid (adm_no k hlt (adm1_d hD))
            clear h hz hbd ha hb
            go_wp2_with fail
            refine (V0.out _).mono ?_
            rintro e w1 ⟨rfl, hb1⟩
            have HB := hid (B1.out.trans (hb1.mono B1.out.size))
            clear p0 p1 p2 p3 p4
            obtain ⟨p0, p1, p2, p3, p4⟩ := (K.out.below hb1).two
            clear hb1
            go_wp2
            go_ret
            exact ⟨by rw [HF.out]; rfl, HB.out⟩
          · have HA := hid (fun j (hj : j < xs.length) (hjk : j < k + 1) => show adm1 xs[j] = true by
              by_cases e : j = k
              · subst e; exact adm1_yes hz (by omega) (by omega)
              · exact ha.out j hj (by omega))
            clear h hz hbd ha hb
            go_wp2_with fail
            refine (V0.out _).mono ?_
            rintro e w1 ⟨rfl, hb1⟩
            have HB := hid (B1.out.trans (hb1.mono B1.out.size))
            clear p0 p1 p2 p3 p4
            obtain ⟨p0, p1, p2, p3, p4⟩ := (K.out.below hb1).two
            clear hb1
            go_wp2
            go_roundw
            case rel => exact ⟨k + 1, by omega, by go_num, HA, HB⟩
            case measure => simp [intOf]; omega
    · have HF := hid (adm_yes (fun j hj => ha.out j hj (by omega)))
      have hlt' : ¬ (k : Int) < (xs.length : Int) := by omega
      clear h ha
      go_wp2
      go_ret
      exact ⟨by rw [HF.out]; rfl, hb.out⟩

set_option maxRecDepth 100000 in
theorem spec_small (a : Option Addr) (cap : Nat) (xs : List RatD) (n : Int) (lo hi : Nat) (w : World) (hn : xs.length ≤ 9223372036854775806) (h : Els 2 rRat w lo hi a xs) (hh : hi ≤ w.heap.size) :
    Calls Tryd.prog 15 #[.slice a xs.length cap, .int .i64 n] w fun e w' => e = .returned (.bool (adm xs && ((xs.length : Int) == n))) ∧ Below w.heap.size w w' := by
  go_enter Tryd.func15, Tryd.ntmps15
  go_wp2
  go_loopw [5] (fun i wr => ∃ k : Nat, k ≤ xs.length ∧ i = .int .i64 k ∧ Hid (∀ j (h : j < xs.length), j < k → adm1 xs[j] = true) ∧ Hid (Below w.heap.size w wr)) (fun i _ => xs.length - (intOf i).toNat)
  case atStart => exact ⟨0, Nat.zero_le _, rfl, hid (fun j _ h => by omega), hid (Below.refl _ _)⟩
  case round =>
    obtain ⟨k, hk, rfl, ha, hb⟩ := hrel
    by_cases hlt : k < xs.length
    · have hbd := rats_bd h k hlt
      have hlt' : (k : Int) < (xs.length : Int) := by omega
      have h0' : (0 : Int) ≤ (k : Int) := by omega
      obtain ⟨z, hz⟩ : ∃ z, vr xs[k].1 xs[k].2 = z := ⟨_, rfl⟩
      cases z with
      | false =>
        have V := hid (fun W => svalid_no xs[k].1 xs[k].2 W hbd.1 hbd.2 hz)
        have HF := hid (show (adm xs && ((xs.length : Int) == n)) = false by rw [adm_no k hlt (adm1_wt (wt_v hz))]; rfl)
        obtain ⟨b, off, rfl, _, hbB, c0, c1⟩ := rats_at (h.grow good_rat hb.out hh) k hlt
        clear h hz hbd ha
        go_wp2_with fail
        refine (V.out _).mono ?_
        rintro e w1 ⟨rfl, hb1⟩
        have HB := hid (hb.out.trans (hb1.mono hb.out.size))
        clear hb1 c0 c1
        go_wp2
        go_ret
        exact ⟨by rw [HF.out]; rfl, HB.out⟩
      | true =>
        have V := hid (fun W => svalid_yes xs[k].1 xs[k].2 W hz)
        have HR := hid (fun W (hW : Below w.heap.size w W) => rats_at (h.grow good_rat hW hh) k hlt)
        by_cases h1 : xs[k].1 < 0
        · have HF := hid (show (adm xs && ((xs.length : Int) == n)) = false by rw [adm_no k hlt (adm1_wt (wt_n h1))]; rfl)
          obtain ⟨b, off, he, _, hbB, c0, c1⟩ := HR.out _ hb.out
          subst he
          clear h hz hbd ha
          go_wp2_with fail
          refine (V.out _).mono ?_
          rintro e w1 ⟨rfl, hb1⟩
          have HB := hid (hb.out.trans (hb1.mono hb.out.size))
          clear hb1 c0 c1
          obtain ⟨b2, off2, he, _, hbB, c0, c1⟩ := HR.out _ HB.out
          obtain ⟨rfl, rfl⟩ : b = b2 ∧ off = off2 := by simpa using he
          go_wp2
          go_ret
          exact ⟨by rw [HF.out]; rfl, HB.out⟩
        · by_cases h2 : 1000 < xs[k].1
          · have HF := hid (show (adm xs && ((xs.length : Int) == n)) = false by rw [adm_no k hlt (adm1_n h2)]; rfl)
            obtain ⟨b, off, he, _, hbB, c0, c1⟩ := HR.out _ hb.out
            subst he
            clear h hz hbd ha
            go_wp2_with fail
            refine (V.out _).mono ?_
            rintro e w1 ⟨rfl, hb1⟩
            have HB := hid (hb.out.trans (hb1.mono hb.out.size))
            clear hb1 c0 c1
            obtain ⟨b2, off2, he, _, hbB, c0, c1⟩ := HR.out _ HB.out
            obtain ⟨rfl, rfl⟩ : b = b2 ∧ off = off2 := by simpa using he
            go_wp2
            go_ret
            exact ⟨by rw [HF.out]; rfl, HB.out⟩
          · by_cases h3 : 1000 < xs[k].2
            · have HF := hid (show (adm xs && ((xs.length : Int) == n)) = false by rw [adm_no k hlt (adm1_d h3)]; rfl)
              obtain ⟨b, off, he, _, hbB, c0, c1⟩ := HR.out _ hb.out
              subst he
              clear h hz hbd ha
              go_wp2_with fail
              refine (V.out _).mono ?_
              rintro e w1 ⟨rfl, hb1⟩
              have HB := hid (hb.out.trans (hb1.mono hb.out.size))
              clear hb1 c0 c1
              obtain ⟨b2, off2, he, _, hbB, c0, c1⟩ := HR.out _ HB.out
              obtain ⟨rfl, rfl⟩ : b = b2 ∧ off = off2 := by simpa using he
              go_wp2
              go_ret
              exact ⟨by rw [HF.out]; rfl, HB.out⟩
            · have HA := hid (fun j (hj : j < xs.length) (hjk : j < k + 1) => show adm1 xs[j] = true by
                by_cases e : j = k
                · subst e; exact adm1_yes (wt_yes hz (by omega)) (by omega) (by omega)
                · exact ha.out j hj (by omega))
              obtain ⟨b, off, he, _, hbB, c0, c1⟩ := HR.out _ hb.out
              subst he
              clear h hz hbd ha
              go_wp2_with fail
              refine (V.out _).mono ?_
              rintro e w1 ⟨rfl, hb1⟩
              have HB := hid (hb.out.trans (hb1.mono hb.out.size))
              clear hb1 c0 c1
              obtain ⟨b2, off2, he, _, hbB, c0, c1⟩ := HR.out _ HB.out
              obtain ⟨rfl, rfl⟩ : b = b2 ∧ off = off2 := by simpa using he
              go_wp2
              go_roundw
              case rel => exact ⟨k + 1, by omega, by go_num, HA, HB⟩
              case measure => simp [intOf]; omega
    · have HF := hid (adm_yes (fun j hj => ha.out j hj (by omega)))
      have hlt' : ¬ (k : Int) < (xs.length : Int) := by omega
      clear h ha
      go_wp2
      go_ret
      exact ⟨by rw [HF.out, Bool.true_and]; rfl, hb.out⟩
end Go.Proofs.YthghggnlfnbbgabDoor.Wgt
