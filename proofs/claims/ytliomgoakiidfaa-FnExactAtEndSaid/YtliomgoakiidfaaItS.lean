/- Iterators of tries, the model's: is a position the first row of its key; the iterator's validity. -/
import Derived.Test.YtliomgoakiidfaaItV
namespace Go.Proofs.Ytliomgoakiidfaa.ItS
open Go.RowKit Go.Sort
open Go.Proofs.Ytliomgoakiidfaa.Num Go.Proofs.Ytliomgoakiidfaa.IntRow Go.Proofs.Ytliomgoakiidfaa.Vals Go.Proofs.Ytliomgoakiidfaa.Grid Go.Proofs.Ytliomgoakiidfaa.CmpL Go.Proofs.Ytliomgoakiidfaa.RowCmp Go.Proofs.Ytliomgoakiidfaa.RowCmpS Go.Proofs.Ytliomgoakiidfaa.Asc Go.Proofs.Ytliomgoakiidfaa.IntLaw Go.Proofs.Ytliomgoakiidfaa.GridMore Go.Proofs.Ytliomgoakiidfaa.GridLaw Go.Proofs.Ytliomgoakiidfaa.GridLaw2 Go.Proofs.Ytliomgoakiidfaa.Keep Go.Proofs.Ytliomgoakiidfaa.Kept Go.Proofs.Ytliomgoakiidfaa.Cells Go.Proofs.Ytliomgoakiidfaa.RelKit Go.Proofs.Ytliomgoakiidfaa.HasL Go.Proofs.Ytliomgoakiidfaa.ItLaw Go.Proofs.Ytliomgoakiidfaa.ItP Go.Proofs.Ytliomgoakiidfaa.TriV Go.Proofs.Ytliomgoakiidfaa.ItI Go.Proofs.Ytliomgoakiidfaa.ItV
set_option linter.unusedVariables false
set_option linter.unusedSimpArgs false

theorem in_any (x a b : Int) (c : Bool) (hc : (decide (a ≤ x) && decide (x ≤ b)) = c) (w : World) : Calls Try.prog 61 #[.int .i64 x, .int .i64 a, .int .i64 b] w fun e w' => e = .returned (.bool c) ∧ w = w' := by
  by_cases h1 : a ≤ x
  · by_cases h2 : x ≤ b
    · obtain rfl : true = c := by rw [← hc]; simp [h1, h2]
      clear hc
      go_enter Try.func61, Try.ntmps61
      go_wp2
      go_ret
      exact ⟨rfl, rfl⟩
    · obtain rfl : false = c := by rw [← hc]; simp [h1, h2]
      clear hc
      go_enter Try.func61, Try.ntmps61
      go_wp2
      go_ret
      exact ⟨rfl, rfl⟩
  · obtain rfl : false = c := by rw [← hc]; simp [h1]
    clear hc
    go_enter Try.func61, Try.ntmps61
    go_wp2
    go_ret
    exact ⟨rfl, rfl⟩

set_option maxRecDepth 100000 in
set_option maxHeartbeats 4000000 in
theorem spec_first (n : Int) (a l h p : Option Addr) (cap capl caph capp : Nat) (xss : List (List Int)) (L H P : List Int) (B : Nat) (k pp : Nat) (w : World) (hs : szI xss L H P ≤ 1048576) (r : ItRd w B a l h p cap capl caph capp xss L H P) (hB : B ≤ w.heap.size) (hkP : k < P.length) (hkL : k < L.length) (hkH : k < H.length) (hp : at0 P k = (pp : Int)) (hpl : pp ≤ xss.length) (hne : at0 L k ≠ (pp : Int) → 0 < pp) (hrl : ∀ i (h : i < xss.length), k < xss[i].length) :
    Calls Try.prog 62 #[.agg #[.int .i64 n, .slice a xss.length cap, .slice l L.length capl, .slice h H.length caph, .slice p P.length capp], .int .i64 (k : Int)] w fun e w' => e = .returned (.bool (decide ((pp : Int) = at0 L k) || (decide ((pp : Int) < (xss.length : Int)) && decide (key xss k pp ≠ key xss k (pp - 1))) || decide ((pp : Int) = at0 H k))) ∧ Below w.heap.size w w' := by
  obtain ⟨n1, nl, nx, n3, n4, n5, _, _⟩ := szI_parts hs
  have BB := hid ((Below.refl w.heap.size w).alloc (Nat.le_refl _) (.cells #[.int .i64 n, .slice a xss.length cap, .slice l L.length capl, .slice h H.length caph, .slice p P.length capp] 29))
  have K0 := hid (hasl_new w [.int .i64 n, .slice a xss.length cap, .slice l L.length capl, .slice h H.length caph, .slice p P.length capp] 29)
  have HR := r.below (BB.out.mono hB)
  obtain ⟨bp, offp, rfl, hbp, hcp⟩ := HR.p (by omega)
  obtain ⟨bl, offl, rfl, hbl, hcl⟩ := HR.l (by omega)
  obtain ⟨bh, offh, rfl, hbh, hch⟩ := HR.h (by omega)
  have gp := hcp k hkP
  have gl := hcl k hkL
  have gh := hch k hkH
  rw [← at0_get hkP, hp] at gp
  rw [← at0_get hkL] at gl
  rw [← at0_get hkH] at gh
  have GT := hid HR.t
  obtain ⟨lz, hlz⟩ : ∃ z, at0 L k = z := ⟨_, rfl⟩
  obtain ⟨hz, hhz⟩ : ∃ z, at0 H k = z := ⟨_, rfl⟩
  rw [hlz] at gl hne ⊢
  rw [hhz] at gh ⊢
  have h1 : (k : Int) < (P.length : Int) := by omega
  have h2 : (k : Int) < (L.length : Int) := by omega
  have h3 : (k : Int) < (H.length : Int) := by omega
  have h4 : (0 : Int) ≤ (k : Int) := by omega
  have h5 : (0 : Int) ≤ (pp : Int) := by omega
  obtain ⟨c0, c1, c2, c3, c4, _, _, _, _, _, z0⟩ := five K0.out
  have RL := hid hrl
  have NX := hid nx
  obtain ⟨v, hv⟩ : ∃ v, (decide ((pp : Int) = lz) || (decide ((pp : Int) < (xss.length : Int)) && decide (key xss k pp ≠ key xss k (pp - 1))) || decide ((pp : Int) = hz)) = v := ⟨_, rfl⟩
  rw [hv]
  clear hcp hcl hch HR r hp hlz hhz hs hrl nx
  by_cases q1 : (pp : Int) = lz
  · have e1 : ((pp : Int) == lz) = true := by simp [q1]
    obtain rfl : true = v := by rw [← hv]; simp [q1]
    clear hv q1 hne
    go_enter Try.func62, Try.ntmps62
    go_wp2_with fail
    go_quiet (fail)
    go_wp2
    go_ret
    exact ⟨rfl, bel_drewN BB.out (by simp) _⟩
  · have e1 : ((pp : Int) == lz) = false := by simp [q1]
    have hpos := hne (fun e => q1 e.symm)
    obtain ⟨pq, hpq⟩ : ∃ pq, pp - 1 = pq := ⟨_, rfl⟩
    by_cases q2 : pp < xss.length
    · obtain ⟨b0, off, rfl, hb0, hc⟩ := GT.out (by omega)
      obtain ⟨a1, cap1, g1, ro1⟩ := hc pp q2
      obtain ⟨a2, cap2, g2, ro2⟩ := hc pq (by omega)
      obtain ⟨br1, offr1, rfl, _, hcr1⟩ := ro1 (by have := RL.out pp q2; omega)
      obtain ⟨br2, offr2, rfl, _, hcr2⟩ := ro2 (by have := RL.out pq (by omega); omega)
      have gk1 := hcr1 k (RL.out pp q2)
      have gk2 := hcr2 k (RL.out pq (by omega))
      rw [← key_at] at gk1 gk2
      obtain ⟨m1, hm1⟩ : ∃ m, xss[pp].length = m := ⟨_, rfl⟩
      obtain ⟨m2, hm2⟩ : ∃ m, (xss[pq]'(by omega)).length = m := ⟨_, rfl⟩
      have hk1 : (k : Int) < (m1 : Int) := by have := RL.out pp q2; omega
      have hk2 : (k : Int) < (m2 : Int) := by have := RL.out pq (by omega); omega
      have hl1 : m1 ≤ 1048576 := by have := NX.out pp q2; omega
      have hl2 : m2 ≤ 1048576 := by have := NX.out pq (by omega); omega
      rw [hm1] at g1
      rw [hm2] at g2
      rw [hpq] at hv
      obtain ⟨x1, hx1⟩ : ∃ x, key xss k pp = x := ⟨_, rfl⟩
      obtain ⟨x2, hx2⟩ : ∃ x, key xss k pq = x := ⟨_, rfl⟩
      rw [hx1] at gk1 hv
      rw [hx2] at gk2 hv
      have hw : IntKind.i64.wrap ((pp : Int) - 1) = (pq : Int) := by rw [IntWalk.i64_in _ (by omega)]; omega
      have h6 : (pp : Int) < (xss.length : Int) := by omega
      have h7 : (pq : Int) < (xss.length : Int) := by omega
      have h8 : (0 : Int) ≤ (pq : Int) := by omega
      have h9 : decide ((pp : Int) < (xss.length : Int)) = true := by simp; omega
      have h10 : decide (pp < xss.length) = true := by simp; omega
      by_cases q3 : x1 = x2
      · have e3 : (x1 != x2) = false := by simp [q3]
        obtain rfl : ((pp : Int) == hz) = v := by
          rw [← hv]; simp [q1, q3]
          by_cases q8 : (pp : Int) = hz <;> simp [q8]
        clear hv q1 q3 hne hpq hx1 hx2 hm1 hm2 hcr1 hcr2 ro1 ro2 hc
        go_enter Try.func62, Try.ntmps62
        go_wp2_with fail
        go_quiet (fail)
        go_wp2
        go_ret
        exact ⟨rfl, bel_drewN BB.out (by simp) _⟩
      · have e3 : (x1 != x2) = true := by simp [q3]
        obtain rfl : true = v := by rw [← hv]; simp [q3, h6]
        clear hv q1 q3 hne hpq hx1 hx2 hm1 hm2 hcr1 hcr2 ro1 ro2 hc
        go_enter Try.func62, Try.ntmps62
        go_wp2_with fail
        go_quiet (fail)
        go_wp2
        go_ret
        exact ⟨rfl, bel_drewN BB.out (by simp) _⟩
    · have h6 : ¬ (pp : Int) < (xss.length : Int) := by omega
      have h9 : decide ((pp : Int) < (xss.length : Int)) = false := by simp; omega
      have h10 : decide (pp < xss.length) = false := by simp; omega
      obtain rfl : ((pp : Int) == hz) = v := by
        rw [← hv]; simp only [h9, Bool.false_and, Bool.or_false]; simp [q1]
        by_cases q8 : (pp : Int) = hz <;> simp [q8]
      clear hv q1 hne hpq
      go_enter Try.func62, Try.ntmps62
      go_wp2_with fail
      go_quiet (fail)
      go_wp2
      go_ret
      exact ⟨rfl, bel_drewN BB.out (by simp) _⟩

end Go.Proofs.Ytliomgoakiidfaa.ItS
