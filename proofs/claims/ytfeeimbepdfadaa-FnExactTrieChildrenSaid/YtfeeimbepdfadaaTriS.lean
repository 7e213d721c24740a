/- The range of the rows with a prefix, the model's (spec.TriePrefixRange). -/
import Derived.Test.YtfeeimbepdfadaaTriV
import Derived.Test.YtfeeimbepdfadaaGridCap
namespace Go.Proofs.Ytfeeimbepdfadaa.TriS
open Go.RowKit
open Go.Proofs.Ytfeeimbepdfadaa.Num Go.Proofs.Ytfeeimbepdfadaa.IntRow Go.Proofs.Ytfeeimbepdfadaa.Vals Go.Proofs.Ytfeeimbepdfadaa.Grid Go.Proofs.Ytfeeimbepdfadaa.CmpL Go.Proofs.Ytfeeimbepdfadaa.RowCmp Go.Proofs.Ytfeeimbepdfadaa.RowCmpS Go.Proofs.Ytfeeimbepdfadaa.Asc Go.Proofs.Ytfeeimbepdfadaa.IntLaw Go.Proofs.Ytfeeimbepdfadaa.GridMore Go.Proofs.Ytfeeimbepdfadaa.GridLaw Go.Proofs.Ytfeeimbepdfadaa.GridLaw2 Go.Proofs.Ytfeeimbepdfadaa.Keep Go.Proofs.Ytfeeimbepdfadaa.Kept Go.Proofs.Ytfeeimbepdfadaa.Cells Go.Proofs.Ytfeeimbepdfadaa.RelKit Go.Proofs.Ytfeeimbepdfadaa.GridCap Go.Proofs.Ytfeeimbepdfadaa.RelValidS Go.Proofs.Ytfeeimbepdfadaa.RelValidI Go.Proofs.Ytfeeimbepdfadaa.TriP Go.Proofs.Ytfeeimbepdfadaa.TriV
set_option linter.unusedVariables false

theorem rd_take' {w : World} {B : Nat} {a : Option Addr} {xs : List Int} (h : Rd w B a xs) (k : Nat) : Rd w B a (xs.take k) := fun hp => by
  have hp' : 0 < xs.length := by simp at hp; omega
  obtain ⟨b, off, e, hb, hc⟩ := h hp'
  refine ⟨b, off, e, hb, fun j hj => ?_⟩
  have hj' : j < xs.length := by simp at hj; omega
  rw [hc j hj', List.getElem_take]
theorem rg_no' {n : Int} {xss : List (List Int)} {p : List Int} (h : rgOk n xss p = false) : rlo n xss p = 0 ∧ rhi n xss p = 0 := by simp [rlo, rhi, h]
theorem rg_yes' {n : Int} {xss : List (List Int)} {p : List Int} (h : rgOk n xss p = true) : rlo n xss p = lowN xss p ∧ rhi n xss p = highN xss p := by simp [rlo, rhi, h]
/-- Rows k1 .. k2 - 1 have the prefix. -/
def Same (xss : List (List Int)) (p : List Int) (k1 k2 : Nat) : Prop := ∀ t (h : t < xss.length), k1 ≤ t → t < k2 → pc p xss[t] = 0
def Less (xss : List (List Int)) (p : List Int) (k : Nat) : Prop := ∀ t (h : t < xss.length), t < k → pc p xss[t] < 0
theorem Less.step {xss : List (List Int)} {p : List Int} {k : Nat} (h : Less xss p k) (hk : k < xss.length) (hc : pc p xss[k] < 0) : Less xss p (k + 1) := fun t ht htk => by
  rcases Nat.lt_or_eq_of_le (Nat.lt_succ_iff.1 htk) with e | e
  · exact h t ht e
  · subst e; exact hc
theorem Same.step {xss : List (List Int)} {p : List Int} {k1 k2 : Nat} (h : Same xss p k1 k2) (hk : k2 < xss.length) (hc : pc p xss[k2] = 0) : Same xss p k1 (k2 + 1) := fun t ht h1 htk => by
  rcases Nat.lt_or_eq_of_le (Nat.lt_succ_iff.1 htk) with e | e
  · exact h t ht h1 e
  · subst e; exact hc
/-- Both walks have stopped. -/
theorem ends {xss : List (List Int)} {p : List Int} {k1 k2 : Nat} (ha : Asc xss) (hk1 : k1 ≤ k2) (hk2 : k2 ≤ xss.length) (h1 : Less xss p k1) (s1 : ∀ h : k1 < xss.length, 0 ≤ pc p xss[k1]) (h2 : Same xss p k1 k2) (s2 : ∀ h : k2 < xss.length, pc p xss[k2] ≠ 0) : lowN xss p = k1 ∧ highN xss p = k2 := by
  refine ⟨low_at ha p k1 (by omega) h1 s1, high_at ha p k2 hk2 (fun t ht htk => ?_) (fun hl => ?_)⟩
  · rcases Nat.lt_or_ge t k1 with e | e
    · have := h1 t ht e; omega
    · have := h2 t ht e htk; omega
  · have h3 := s2 hl
    have h4 := s1 (by omega)
    have h5 := pc_mono ha p (i := k1) (j := k2) (by omega) hl hk1
    omega

/-- The model's comparison of a cut row. -/
theorem cut_cmp (aj b : Option Addr) (capj capb B B' : Nat) (xs p : List Int) (W : World) (c : Int) (hcc : pc p xs = c) (hl : p.length ≤ xs.length) (hx : xs.length ≤ 1048576) (r : Rd W B aj xs) (r' : Rd W B' b p) (hB : B ≤ W.heap.size) (hB' : B' ≤ W.heap.size) :
    Calls Try.prog 64 #[.slice aj p.length capj, .slice b p.length capb] W fun e w' => e = .returned (.int .i64 c) ∧ Below W.heap.size W w' := by
  have hlen : (xs.take p.length).length = p.length := by simp; omega
  have := spec_cmp aj b capj capb B B' (xs.take p.length) p W (by omega) (by omega) (rd_take' r _) r' hB hB'
  rw [hlen, show cmpL (xs.take p.length) p = c from hcc] at this
  exact this

set_option maxRecDepth 100000 in
set_option maxHeartbeats 4000000 in
theorem spec_trg (n : Int) (a b : Option Addr) (cap capb B B' : Nat) (xss : List (List Int)) (p : List Int) (w : World) (hlen : xss.length ≤ 1048576) (hx : ∀ j (h : j < xss.length), xss[j].length ≤ 1048576) (hp : p.length ≤ 1048576) (h : GRc w B a xss) (h' : Rd w B' b p) (hB : B ≤ w.heap.size) (hB' : B' ≤ w.heap.size) :
    Calls Try.prog 41 #[.agg #[.int .i64 n, .slice a xss.length cap], .slice b p.length capb] w fun e w' => e = .returned (.tuple #[.int .i64 (rlo n xss p : Nat), .int .i64 (rhi n xss p : Nat)]) ∧ Below w.heap.size w w' := by
  obtain ⟨lo, hlo⟩ : ∃ z, rlo n xss p = z := ⟨_, rfl⟩
  obtain ⟨hi, hhi⟩ : ∃ z, rhi n xss p = z := ⟨_, rfl⟩
  rw [hlo, hhi]
  have HLO := hid hlo
  have HHI := hid hhi
  clear hlo hhi
  have K1 := hid (has2_new w (.int .i64 n) (.slice a xss.length cap) 30)
  have B2 := hid ((Below.refl w.heap.size w).alloc (Nat.le_refl _) (.cells #[.int .i64 n, .slice a xss.length cap] 30))
  have HG := hid h
  have HY := hid h'
  clear h h'
  have V := hid (spec_vtr n a xss.length cap B xss _ rfl hlen hx (HG.out.rd.below (B2.out.mono hB)) (by have := B2.out.size; omega))
  obtain ⟨v, hv⟩ : ∃ v, vrel n xss = v := ⟨_, rfl⟩
  rw [hv] at V
  have HV := hid hv
  have HX := hid hx
  clear hv hx
  obtain ⟨c0, c1, z1, _, _⟩ := K1.out
  go_enter Try.func41, Try.ntmps41
  go_wp2_with fail
  with_reducible refine V.out.mono ?_
  rintro e w3 ⟨rfl, hb⟩
  replace K1 := hid (K1.out.below hb)
  replace B2 := hid (B2.out.trans (hb.mono B2.out.size))
  clear hb c0 c1 z1 V
  obtain ⟨c0, c1, z1, _, _⟩ := K1.out
  cases v with
  | false =>
    have h0 := rg_no' (n := n) (xss := xss) (p := p) (by simp [rgOk, HV.out])
    obtain rfl : 0 = lo := h0.1.symm.trans HLO.out
    obtain rfl : 0 = hi := h0.2.symm.trans HHI.out
    clear h0
    go_wp2
    go_ret2
    exact ⟨rfl, B2.out⟩
  | true =>
    by_cases hpn : (p.length : Int) ≤ n
    · have h0 := rg_yes' (n := n) (xss := xss) (p := p) (by simp [rgOk, HV.out, hpn])
      have HL1 := hid (h0.1.symm.trans HLO.out)
      have HL2 := hid (h0.2.symm.trans HHI.out)
      clear h0
      have ht : ¬ (n < (p.length : Int)) := by omega
      have HR := hid (fun j (hj : j < xss.length) => show p.length ≤ xss[j].length by
        obtain ⟨_, _, hrow, _⟩ := vrel_parts HV.out
        have := (hrow _ (List.getElem_mem hj)).1
        omega)
      have HA := hid (vrel_parts HV.out).2.2.2
      go_wp2
      clear c0 c1 z1
      go_loopw [6] (fun s6 wr => ∃ k : Nat, k ≤ xss.length ∧ s6 = .int .i64 k ∧ Hid (Less xss p k) ∧ Hid (Has2 wr w.heap.size (.int .i64 n) (.slice a xss.length cap)) ∧ Hid (Below w.heap.size w wr)) (fun s6 _ => xss.length - (intOf s6).toNat)
      case atStart => exact ⟨0, Nat.zero_le _, rfl, hid (fun t _ h => absurd h (Nat.not_lt_zero _)), K1, B2⟩
      case round =>
        obtain ⟨k, hk, rfl, hless, k1, hb⟩ := hrel
        clear K1 B2
        by_cases hlt : k < xss.length
        · obtain ⟨b0, off, rfl, hbB, hc⟩ := (HG.out.below (hb.out.mono hB)) (by omega)
          obtain ⟨aj, capj, g, hcap, r⟩ := hc k hlt
          have hpl := HR.out k hlt
          have hxl := HX.out k hlt
          have hsz := hb.out.size
          obtain ⟨c, hcc⟩ : ∃ c, pc p xss[k] = c := ⟨_, rfl⟩
          have E := hid (cut_cmp aj b capj capb B B' xss[k] p wr c hcc hpl hxl r (HY.out.below (hb.out.mono hB')) (by omega) (by omega))
          have hlt' : (k : Int) < (xss.length : Int) := by omega
          have h0' : (0 : Int) ≤ (k : Int) := by omega
          have hpc : (p.length : Int) ≤ (capj : Int) := by omega
          have hp0 : (0 : Int) ≤ (p.length : Int) := by omega
          have HCC := hid hcc
          clear hc r hcc
          obtain ⟨d0, d1, z2, _, _⟩ := k1.out
          by_cases hneg : c < 0
          · have HS := hid (hless.out.step hlt (by rw [HCC.out]; exact hneg))
            go_wp2_with fail
            with_reducible refine E.out.mono ?_
            rintro e w4 ⟨rfl, hb4⟩
            have k1b := hid (k1.out.below hb4)
            have HB4 := hid (hb.out.trans (hb4.mono hsz))
            clear hb4 E d0 d1 z2
            obtain ⟨d0, d1, z2, _, _⟩ := k1b.out
            go_wp2
            go_roundw
            case rel => exact ⟨k + 1, by omega, by go_num, HS, k1b, HB4⟩
            case measure => simp [intOf]; omega
          · have HST := hid (show ∀ h : k < xss.length, 0 ≤ pc p xss[k] from fun _ => by rw [HCC.out]; omega)
            go_wp2_with fail
            with_reducible refine E.out.mono ?_
            rintro e w4 ⟨rfl, hb4⟩
            have k1b := hid (k1.out.below hb4)
            have HB4 := hid (hb.out.trans (hb4.mono hsz))
            clear hb4 E d0 d1 z2 k1 hb hpl hxl HCC hcap g hlt' hsz hpc
            obtain ⟨w5, rfl⟩ : ∃ wo : World, wo = w4 := ⟨_, rfl⟩
            go_wp2
            go_loopw [7] (fun s7 wr => ∃ k2 : Nat, k ≤ k2 ∧ k2 ≤ xss.length ∧ s7 = .int .i64 k2 ∧ Hid (Same xss p k k2) ∧ Hid (Has2 wr w.heap.size (.int .i64 n) (.slice (some ⟨b0, off, none⟩) xss.length cap)) ∧ Hid (Below w.heap.size w wr)) (fun s7 _ => xss.length - (intOf s7).toNat)
            case atStart => exact ⟨k, Nat.le_refl _, hk, rfl, hid (fun t _ h1 h2 => by omega), k1b, HB4⟩
            case round =>
              obtain ⟨k2, hk12, hk2, rfl, hsame, k1, hb⟩ := hrel
              clear k1b HB4
              by_cases hlt2 : k2 < xss.length
              · obtain ⟨b0', off', hab, hbB', hc'⟩ := (HG.out.below (hb.out.mono hB)) (by omega)
                obtain ⟨aj2, capj2, g2, hcap2, r2⟩ := hc' k2 hlt2
                cases hab
                have hpl2 := HR.out k2 hlt2
                have hxl2 := HX.out k2 hlt2
                have hsz2 := hb.out.size
                obtain ⟨c2, hcc2⟩ : ∃ c, pc p xss[k2] = c := ⟨_, rfl⟩
                have E2 := hid (cut_cmp aj2 b capj2 capb B B' xss[k2] p wr c2 hcc2 hpl2 hxl2 r2 (HY.out.below (hb.out.mono hB')) (by omega) (by omega))
                have hlt2' : (k2 : Int) < (xss.length : Int) := by omega
                have h02' : (0 : Int) ≤ (k2 : Int) := by omega
                have hpc2 : (p.length : Int) ≤ (capj2 : Int) := by omega
                have hp02 : (0 : Int) ≤ (p.length : Int) := by omega
                have HCC2 := hid hcc2
                clear hc' r2 hcc2
                obtain ⟨d0, d1, z2, _, _⟩ := k1.out
                by_cases hz : c2 = 0
                · have HS := hid (hsame.out.step hlt2 (by rw [HCC2.out]; exact hz))
                  subst hz
                  go_wp2_with fail
                  with_reducible refine E2.out.mono ?_
                  rintro e w6 ⟨rfl, hb6⟩
                  have k1c := hid (k1.out.below hb6)
                  have HB6 := hid (hb.out.trans (hb6.mono hsz2))
                  clear hb6 E2 d0 d1 z2
                  obtain ⟨d0, d1, z2, _, _⟩ := k1c.out
                  go_wp2
                  go_roundw
                  case rel => exact ⟨k2 + 1, by omega, by omega, by go_num, HS, k1c, HB6⟩
                  case measure => simp [intOf]; omega
                · have hz' : (c2 == 0) = false := by simp [hz]
                  have hend := ends HA.out hk12 hk2 hless.out HST.out hsame.out (fun _ => by rw [HCC2.out]; exact hz)
                  obtain rfl : lo = k := HL1.out.symm.trans hend.1
                  obtain rfl : hi = k2 := HL2.out.symm.trans hend.2
                  clear hz hend
                  go_wp2_with fail
                  with_reducible refine E2.out.mono ?_
                  rintro e w6 ⟨rfl, hb6⟩
                  have HB6 := hid (hb.out.trans (hb6.mono hsz2))
                  clear hb6 E2 d0 d1 z2
                  go_wp2
                  go_ret2
                  exact ⟨rfl, HB6.out⟩
              · have hlt2' : ¬ (k2 : Int) < (xss.length : Int) := by omega
                have hend := ends HA.out hk12 hk2 hless.out HST.out hsame.out (fun h => absurd h hlt2)
                obtain rfl : lo = k := HL1.out.symm.trans hend.1
                obtain rfl : hi = k2 := HL2.out.symm.trans hend.2
                clear hend
                obtain ⟨d0, d1, z2, _, _⟩ := k1.out
                go_wp2
                go_ret2
                exact ⟨rfl, hb.out⟩
        · have HST := hid (show ∀ h : k < xss.length, 0 ≤ pc p xss[k] from fun h => absurd h hlt)
          have hlt' : ¬ (k : Int) < (xss.length : Int) := by omega
          obtain ⟨d0, d1, z2, _, _⟩ := k1.out
          have k1b := k1
          have HB4 := hb
          obtain ⟨w5, rfl⟩ : ∃ wo : World, wo = wr := ⟨_, rfl⟩
          go_wp2
          clear d0 d1 z2 k1 hb hlt'
          go_loopw [7] (fun s7 wr => ∃ k2 : Nat, k ≤ k2 ∧ k2 ≤ xss.length ∧ s7 = .int .i64 k2 ∧ Hid (Same xss p k k2) ∧ Hid (Has2 wr w.heap.size (.int .i64 n) (.slice a xss.length cap)) ∧ Hid (Below w.heap.size w wr)) (fun s7 _ => xss.length - (intOf s7).toNat)
          case atStart => exact ⟨k, Nat.le_refl _, hk, rfl, hid (fun t _ h1 h2 => by omega), k1b, HB4⟩
          case round =>
            obtain ⟨k2, hk12, hk2, rfl, hsame, k1, hb⟩ := hrel
            clear k1b HB4
            by_cases hlt2 : k2 < xss.length
            · exfalso; omega
            · have hlt2' : ¬ (k2 : Int) < (xss.length : Int) := by omega
              have hend := ends HA.out hk12 hk2 hless.out HST.out hsame.out (fun h => absurd h hlt2)
              obtain rfl : lo = k := HL1.out.symm.trans hend.1
              obtain rfl : hi = k2 := HL2.out.symm.trans hend.2
              clear hend
              obtain ⟨d0, d1, z2, _, _⟩ := k1.out
              go_wp2
              go_ret2
              exact ⟨rfl, hb.out⟩
    · have h0 := rg_no' (n := n) (xss := xss) (p := p) (by simp [rgOk, hpn])
      obtain rfl : 0 = lo := h0.1.symm.trans HLO.out
      obtain rfl : 0 = hi := h0.2.symm.trans HHI.out
      clear h0
      have ht : n < (p.length : Int) := by omega
      go_wp2
      go_ret2
      exact ⟨rfl, B2.out⟩
end Go.Proofs.Ytfeeimbepdfadaa.TriS
