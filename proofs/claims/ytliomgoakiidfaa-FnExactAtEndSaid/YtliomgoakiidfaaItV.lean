/- Iterators of tries, the program's: the range of a level, its validity; the iterator's validity. -/
import Derived.Test.YtliomgoakiidfaaItI
namespace Go.Proofs.Ytliomgoakiidfaa.ItV
open Go.RowKit Go.Sort
open Go.Proofs.Ytliomgoakiidfaa.Num Go.Proofs.Ytliomgoakiidfaa.IntRow Go.Proofs.Ytliomgoakiidfaa.Vals Go.Proofs.Ytliomgoakiidfaa.Grid Go.Proofs.Ytliomgoakiidfaa.CmpL Go.Proofs.Ytliomgoakiidfaa.RowCmp Go.Proofs.Ytliomgoakiidfaa.RowCmpS Go.Proofs.Ytliomgoakiidfaa.Asc Go.Proofs.Ytliomgoakiidfaa.IntLaw Go.Proofs.Ytliomgoakiidfaa.GridMore Go.Proofs.Ytliomgoakiidfaa.GridLaw Go.Proofs.Ytliomgoakiidfaa.GridLaw2 Go.Proofs.Ytliomgoakiidfaa.Keep Go.Proofs.Ytliomgoakiidfaa.Kept Go.Proofs.Ytliomgoakiidfaa.Cells Go.Proofs.Ytliomgoakiidfaa.RelKit Go.Proofs.Ytliomgoakiidfaa.HasL Go.Proofs.Ytliomgoakiidfaa.ItLaw Go.Proofs.Ytliomgoakiidfaa.ItP Go.Proofs.Ytliomgoakiidfaa.TriV Go.Proofs.Ytliomgoakiidfaa.ItI
set_option linter.unusedVariables false
set_option linter.unusedSimpArgs false

/-- Ascending rows of m values each. -/
structure Tr (m : Nat) (xss : List (List Int)) : Prop where
  asc : Asc xss
  row : ∀ r (h : r < xss.length), xss[r].length = m
  val : ∀ k r, 0 ≤ key xss k r ∧ key xss k r ≤ 99
  len : xss.length ≤ 4000
  m5 : m ≤ 5
theorem tr_of {n : Int} {xss : List (List Int)} (h : vrel n xss = true) : ∃ m : Nat, n = (m : Int) ∧ Tr m xss := by
  obtain ⟨h1, h2, h3, h4⟩ := vrel_parts h
  refine ⟨n.toNat, by omega, h4, fun r hr => ?_, fun k r => ?_, h2, by omega⟩
  · have := (h3 _ (List.getElem_mem hr)).1; omega
  · unfold key
    by_cases hr : r < xss.length
    · rw [List.getElem?_eq_getElem hr, Option.getD_some]
      by_cases hk : k < xss[r].length
      · rw [List.getElem?_eq_getElem hk, Option.getD_some]
        exact okv_iff.1 (vals_at (h3 _ (List.getElem_mem hr)).2 k hk)
      · rw [List.getElem?_eq_none (l := xss[r]) (by omega)]; simp
    · rw [List.getElem?_eq_none (l := xss) (by omega)]; simp
/-- The level above can be searched. -/
def Up (xss : List (List Int)) (H P : List Int) (k : Nat) : Prop := ∀ j, k = j + 1 → j < P.length ∧ j < H.length ∧ ∃ pp e : Nat, at0 P j = (pp : Int) ∧ at0 H j = (e : Int) ∧ pp < e ∧ e ≤ xss.length ∧ (∀ i (h : i < xss.length), j < xss[i].length) ∧ Mono xss j pp e ∧ (0 ≤ key xss j pp ∧ key xss j pp ≤ 99)
theorem up_of {xss : List (List Int)} {L H P : List Int} {m k : Nat} (ht : Tr m xss) (hkm : k ≤ m) (hl : Lv xss L H P k) (hk : k ≤ P.length) (hH : H.length = P.length) (hne : k = P.length → k ≠ 0 → at0 P (k - 1) ≠ at0 H (k - 1)) : Up xss H P k := fun j e => by
  subst e
  obtain ⟨h1, h2, h3, h4, h5, _⟩ := lv_parts (hl j (by omega))
  have hn : at0 P j ≠ ((rgL xss H P j).2 : Int) := fun e => by
    have h6 := h5 e
    exact hne h6.symm.symm (by omega) (by show at0 P j = at0 H j; omega)
  have h0 := rg_all ht.asc ht.row j (by omega) (fun i hi => hl i (by omega)) (fun e => by omega) (by omega)
  have hm := mono_of ht.asc ht.row (by omega : j < m) h0.agree h0.top
  have htop := h0.top
  refine ⟨by omega, by omega, (at0 P j).toNat, (rgL xss H P j).2, by omega, h2, by omega, htop, fun i hi => by rw [ht.row i hi]; omega, hm.sub (by omega) (Nat.le_refl _), ht.val _ _⟩

set_option maxHeartbeats 1000000 in
theorem impl_rg0 (n : Int) (a l h p : Option Addr) (cap capl caph capp : Nat) (xss : List (List Int)) (L H P : List Int) (B : Nat) (w : World) :
    Calls Try.prog 55 #[.agg #[.int .i64 n, .slice a xss.length cap, .slice l L.length capl, .slice h H.length caph, .slice p P.length capp], .int .i64 0] w fun e w' => e = .returned (.tuple #[.int .i64 0, .int .i64 (xss.length : Nat)]) ∧ Below w.heap.size w w' := by
  have BB := hid ((Below.refl w.heap.size w).alloc (Nat.le_refl _) (.cells #[.int .i64 n, .slice a xss.length cap, .slice l L.length capl, .slice h H.length caph, .slice p P.length capp] 29))
  have K0 := hid (hasl_new w [.int .i64 n, .slice a xss.length cap, .slice l L.length capl, .slice h H.length caph, .slice p P.length capp] 29)
  obtain ⟨c0, c1, c2, c3, c4, _, _, _, _, _, _⟩ := five K0.out
  go_enter Try.func55, Try.ntmps55
  go_wp2_with fail
  go_quiet (fail)
  go_wp2
  go_ret2
  exact ⟨rfl, bel_drewN BB.out (by simp) _⟩

set_option maxRecDepth 100000 in
set_option maxHeartbeats 2000000 in
theorem impl_rg1 (n : Int) (a l h p : Option Addr) (cap capl caph capp : Nat) (xss : List (List Int)) (L H P : List Int) (B : Nat) (j : Nat) (kz : Int) (hkz : kz = (j : Int) + 1) (w : World) (hs : szI xss L H P ≤ 1048576) (r : ItRd w B a l h p cap capl caph capp xss L H P) (hB : B ≤ w.heap.size) (hu : Up xss H P (j + 1)) :
    Calls Try.prog 55 #[.agg #[.int .i64 n, .slice a xss.length cap, .slice l L.length capl, .slice h H.length caph, .slice p P.length capp], .int .i64 kz] w fun e w' => e = .returned (.tuple #[.int .i64 ((rgL xss H P (j + 1)).1 : Nat), .int .i64 ((rgL xss H P (j + 1)).2 : Nat)]) ∧ Below w.heap.size w w' := by
  obtain ⟨n1, nl, nx, n3, n4, n5, _, _⟩ := szI_parts hs
  obtain ⟨hjP, hjH, pp, e, hp, he, hpe, hel, hrl, hmo, hkb0⟩ := hu j rfl
  obtain ⟨hi, hhi⟩ : ∃ z, sr xss j pp e (key xss j pp + 1) = z := ⟨_, rfl⟩
  have hR : rgL xss H P (j + 1) = (pp, hi) := by
    show ((at0 P j).toNat, sr xss j (at0 P j).toNat (at0 H j).toNat (key xss j (at0 P j).toNat + 1)) = _
    rw [hp, he, Int.toNat_natCast, Int.toNat_natCast, hhi]
  rw [hR]
  have B1 := hid ((Below.refl w.heap.size w).alloc (Nat.le_refl _) (.cells #[.int .i64 n, .slice a xss.length cap, .slice l L.length capl, .slice h H.length caph, .slice p P.length capp] 29))
  have K0 := hid (hasl_new w [.int .i64 n, .slice a xss.length cap, .slice l L.length capl, .slice h H.length caph, .slice p P.length capp] 29)
  have R := hid r
  have CS := hid (fun (v : Int) (hv : v = key xss j pp + 1) W (hW : Below w.heap.size w W) => by
    have := impl_seek n a l h p cap capl caph capp xss L H P B j pp e v W hs (R.out.below (hW.mono hB)) (Nat.le_trans hB hW.size) hjH he (by omega) hel hrl hmo
    rw [hv, hhi, ← hv] at this
    exact this)
  have CK := hid (fun W (hW : Below w.heap.size w W) => impl_key n a l h p cap capl caph capp xss L H P B j pp W hs (R.out.below (hW.mono hB)) (Nat.le_trans hB hW.size) hjP hp (by omega) (hrl pp (by omega)))
  have hkb : -9223372036854775808 ≤ key xss j pp + 1 ∧ key xss j pp + 1 ≤ 9223372036854775807 := by omega
  obtain ⟨kv, hkv⟩ : ∃ z, key xss j pp = z := ⟨_, rfl⟩
  rw [hkv] at CK CS hkb
  obtain ⟨bp, offp, rfl, hbp, hcp⟩ := (r.p.below (B1.out.mono hB)) (by omega)
  have gk := hcp j hjP
  rw [← at0_get hjP, hp] at gk
  have ht0 : (kz == 0) = false := by simp; omega
  have hwj : IntKind.i64.wrap (kz - 1) = (j : Int) := by rw [IntWalk.i64_in _ (by omega)]; omega
  have hwk : IntKind.i64.wrap (kv + 1) = kv + 1 := IntWalk.i64_in _ (by omega)
  have h1 : (j : Int) < (P.length : Int) := by omega
  have h4 : (0 : Int) ≤ (j : Int) := by omega
  obtain ⟨c0, c1, c2, c3, c4, _, _, _, _, _, z0⟩ := five K0.out
  have hk0 := kp_refl (w.alloc (.cells #[.int .i64 n, .slice a xss.length cap, .slice l L.length capl, .slice h H.length caph, .slice (some ⟨bp, offp, none⟩) P.length capp] 29))
  clear hkz hcp r hmo hrl hu hR hhi hkv hp he hkb nx
  go_enter Try.func55, Try.ntmps55
  go_wp2_with fail
  clear gk
  go_region_held3 (fun w' => w'.cell? ⟨w.heap.size, 0, none⟩ = some (.int .i64 n) ∧ w'.cell? ⟨w.heap.size, 1, none⟩ = some (.slice a xss.length cap) ∧ w'.cell? ⟨w.heap.size, 2, none⟩ = some (.slice l L.length capl) ∧ w'.cell? ⟨w.heap.size, 3, none⟩ = some (.slice h H.length caph) ∧ w'.cell? ⟨w.heap.size, 4, none⟩ = some (.slice (some ⟨bp, offp, none⟩) P.length capp) ∧ Kp (w.alloc (.cells #[.int .i64 n, .slice a xss.length cap, .slice l L.length capl, .slice h H.length caph, .slice (some ⟨bp, offp, none⟩) P.length capp] 29)) 0 w')
    (first
        | (go_split_ands
           repeat' apply And.intro
           all_goals (first | (with_reducible assumption) | (with_reducible exact cell_drew (by assumption)) | (with_reducible exact Kp.drew (by assumption)) | (with_reducible exact Kp.cell (by assumption) hb1 (by omega) (by assumption)) | (with_reducible exact Kp.call (by assumption) hb1))))
    (first
      | (go_split_ands; go_at_call 69; (with_reducible refine (CK.out _ (B1.out.trans ((Kp.bel (n := 0) (by with_reducible assumption)).mono (by simp)))).mono ?_); rintro e wK ⟨rfl, hb1⟩)
      | (go_split_ands; go_at_call 71; (with_reducible refine (CS.out _ rfl _ (B1.out.trans ((Kp.bel (n := 0) (by with_reducible assumption)).mono (by simp)))).mono ?_); rintro e wS ⟨rfl, hb1⟩))
  all_goals
    go_wp2_with fail
    go_split_ands
    go_ret2
    exact ⟨rfl, B1.out.trans ((Kp.bel (n := 0) (by with_reducible assumption)).mono (by simp))⟩

/-- The range of a level: every level whose upper one can be searched. -/
theorem impl_rg (n : Int) (a l h p : Option Addr) (cap capl caph capp : Nat) (xss : List (List Int)) (L H P : List Int) (B : Nat) (k : Nat) (w : World) (hs : szI xss L H P ≤ 1048576) (r : ItRd w B a l h p cap capl caph capp xss L H P) (hB : B ≤ w.heap.size) (hu : Up xss H P k) :
    Calls Try.prog 55 #[.agg #[.int .i64 n, .slice a xss.length cap, .slice l L.length capl, .slice h H.length caph, .slice p P.length capp], .int .i64 (k : Int)] w fun e w' => e = .returned (.tuple #[.int .i64 ((rgL xss H P k).1 : Nat), .int .i64 ((rgL xss H P k).2 : Nat)]) ∧ Below w.heap.size w w' := by
  cases k with
  | zero => exact impl_rg0 n a l h p cap capl caph capp xss L H P B w
  | succ j => exact impl_rg1 n a l h p cap capl caph capp xss L H P B j _ (by omega) w hs r hB hu

set_option maxRecDepth 100000 in
set_option maxHeartbeats 4000000 in
theorem impl_lv (n : Int) (a l h p : Option Addr) (cap capl caph capp : Nat) (xss : List (List Int)) (L H P : List Int) (B : Nat) (k : Nat) (w : World) (hs : szI xss L H P ≤ 1048576) (r : ItRd w B a l h p cap capl caph capp xss L H P) (hB : B ≤ w.heap.size) (hu : Up xss H P k) (hkP : k < P.length) (hkL : k < L.length) (hkH : k < H.length) (hg : Rg xss H P k) (hm : Mono xss k (rgL xss H P k).1 (rgL xss H P k).2) (hrl : ∀ i (h : i < xss.length), k < xss[i].length) :
    Calls Try.prog 59 #[.agg #[.int .i64 n, .slice a xss.length cap, .slice l L.length capl, .slice h H.length caph, .slice p P.length capp], .int .i64 (k : Int)] w fun e w' => e = .returned (.bool (lvI xss L H P k)) ∧ Below w.heap.size w w' := by
  obtain ⟨n1, nl, nx, n3, n4, n5, _, _⟩ := szI_parts hs
  have htop := hg.top
  have hlehi := hg.le
  have B1 := hid ((Below.refl w.heap.size w).alloc (Nat.le_refl _) (.cells #[.int .i64 n, .slice a xss.length cap, .slice l L.length capl, .slice h H.length caph, .slice p P.length capp] 29))
  have K0 := hid (hasl_new w [.int .i64 n, .slice a xss.length cap, .slice l L.length capl, .slice h H.length caph, .slice p P.length capp] 29)
  have R := hid r
  have CR := hid (impl_rg n a l h p cap capl caph capp xss L H P B k _ hs (R.out.below (B1.out.mono hB)) (Nat.le_trans hB B1.out.size) hu)
  obtain ⟨v, hv⟩ : ∃ v, lvI xss L H P k = v := ⟨_, rfl⟩
  have hv0 := hv
  unfold lvI at hv
  obtain ⟨lo, hlo⟩ : ∃ z, (rgL xss H P k).1 = z := ⟨_, rfl⟩
  obtain ⟨hi, hhi⟩ : ∃ z, (rgL xss H P k).2 = z := ⟨_, rfl⟩
  rw [hlo, hhi] at hv CR hm
  rw [hhi] at htop
  rw [hlo, hhi] at hlehi
  rw [hv0]
  have CS := hid (fun (e : Nat) (he : at0 H k = (e : Int)) (h1 : lo ≤ e) (h2 : e = hi) (z : Int) W (hW : Below w.heap.size w W) => impl_seek n a l h p cap capl caph capp xss L H P B k lo e z W hs (R.out.below (hW.mono hB)) (Nat.le_trans hB hW.size) hkH he h1 (by omega) hrl (by rw [h2]; exact hm))
  have CK := hid (fun (pp : Nat) (hp : at0 P k = (pp : Int)) (hpl : pp < xss.length) W (hW : Below w.heap.size w W) => impl_key n a l h p cap capl caph capp xss L H P B k pp W hs (R.out.below (hW.mono hB)) (Nat.le_trans hB hW.size) hkP hp hpl (hrl pp hpl))
  have HR := r.below (B1.out.mono hB)
  obtain ⟨bp, offp, rfl, hbp, hcp⟩ := HR.p (by omega)
  obtain ⟨bl, offl, rfl, hbl, hcl⟩ := HR.l (by omega)
  obtain ⟨bh, offh, rfl, hbh, hch⟩ := HR.h (by omega)
  have gp := hcp k hkP
  have gl := hcl k hkL
  have gh := hch k hkH
  rw [← at0_get hkP] at gp
  rw [← at0_get hkL] at gl
  rw [← at0_get hkH] at gh
  obtain ⟨pz, hpz⟩ : ∃ z, at0 P k = z := ⟨_, rfl⟩
  obtain ⟨lz, hlz⟩ : ∃ z, at0 L k = z := ⟨_, rfl⟩
  obtain ⟨hz, hhz⟩ : ∃ z, at0 H k = z := ⟨_, rfl⟩
  rw [hpz] at gp hv CK
  rw [hlz] at gl hv
  rw [hhz] at gh hv CS
  have GP := hid gp
  have GL := hid gl
  have GH := hid gh
  have HV := hid hv
  have h1 : (k : Int) < (P.length : Int) := by omega
  have h2 : (k : Int) < (L.length : Int) := by omega
  have h3 : (k : Int) < (H.length : Int) := by omega
  have h4 : (0 : Int) ≤ (k : Int) := by omega
  have hwl : IntKind.i64.wrap ((P.length : Int) - 1) = (P.length : Int) - 1 := IntWalk.i64_in _ (by omega)
  obtain ⟨c0, c1, c2, c3, c4, _, _, _, _, _, z0⟩ := five K0.out
  have HW1 := hid (show (w.alloc (.cells #[.int .i64 n, .slice a xss.length cap, .slice (some ⟨bl, offl, none⟩) L.length capl, .slice (some ⟨bh, offh, none⟩) H.length caph, .slice (some ⟨bp, offp, none⟩) P.length capp] 29)).heap.size = w.heap.size + 1 by simp)
  clear gp gl gh hcp hcl hch HR r hpz hlz hhz hv hv0 hm hrl hg hlo hhi hu nx hs
  go_enter Try.func59, Try.ntmps59
  go_wp2_with fail
  with_reducible refine CR.out.mono ?_
  rintro e w1 ⟨rfl, hb⟩
  have hs1 := hb.size
  rw [HW1.out] at hs1
  replace K0 := hid (K0.out.below hb)
  have gp := (hb.cell (p := ⟨bp, offp + k, none⟩) (by rw [HW1.out]; show bp < _; omega)).trans GP.out
  have gl := (hb.cell (p := ⟨bl, offl + k, none⟩) (by rw [HW1.out]; show bl < _; omega)).trans GL.out
  have gh := (hb.cell (p := ⟨bh, offh + k, none⟩) (by rw [HW1.out]; show bh < _; omega)).trans GH.out
  have BB := hid (B1.out.trans (hb.mono B1.out.size))
  clear c0 c1 c2 c3 c4 z0 hb CR
  obtain ⟨c0, c1, c2, c3, c4, _, _, _, _, _, z0⟩ := five K0.out
  have hv := HV.out
  clear HV GP GL GH HW1
  by_cases q1 : lz = (lo : Int)
  · have e1 : (lz != (lo : Int)) = false := by simp [q1]
    by_cases q2 : hz = (hi : Int)
    · have e2 : (hz != (hi : Int)) = false := by simp [q2]
      by_cases q3 : pz < (lo : Int)
      · obtain rfl : false = v := by rw [← hv]; simp; omega
        clear hv q1 q2
        go_wp2
        go_ret
        exact ⟨rfl, BB.out⟩
      · by_cases q4 : (hi : Int) < pz
        · obtain rfl : false = v := by rw [← hv]; simp; omega
          clear hv q1 q2
          go_wp2
          go_ret
          exact ⟨rfl, BB.out⟩
        · by_cases q5 : pz = (hi : Int)
          · have e5 : (pz == (hi : Int)) = true := by simp [q5]
            obtain rfl : ((k : Int) == (P.length : Int) - 1) = v := by
              rw [← hv]
              have q6 : (lo : Int) ≤ (hi : Int) := by omega
              simp [q1, q2, q5, q6]
              by_cases q7 : k + 1 = P.length
              · simp [q7]; omega
              · simp [q7]; omega
            clear hv q1 q2 q5
            go_wp2
            go_ret
            exact ⟨rfl, BB.out⟩
          · have e5 : (pz == (hi : Int)) = false := by simp [q5]
            obtain ⟨pp, rfl⟩ : ∃ pp : Nat, pz = (pp : Int) := ⟨pz.toNat, by omega⟩
            subst q2
            obtain ⟨sv, hsv⟩ : ∃ z, sr xss k lo hi (key xss k pp) = z := ⟨_, rfl⟩
            obtain rfl : ((pp : Int) == (sv : Int)) = v := by
              rw [← hv]
              have q6 : (lo : Int) ≤ (pp : Int) := by omega
              have q7 : (pp : Int) ≤ (hi : Int) := by omega
              rw [if_neg q5]
              simp only [Int.toNat_natCast, hsv]
              simp [q1, q6, q7]
              by_cases q8 : (pp : Int) = (sv : Int) <;> simp [q8]
            have CK2 := hid (CK.out pp rfl (by omega))
            have CS2 := hid (fun W hW => by have := CS.out hi rfl hlehi rfl (key xss k pp) W hW; rw [hsv] at this; exact this)
            obtain ⟨kv, hkv⟩ : ∃ z, key xss k pp = z := ⟨_, rfl⟩
            rw [hkv] at CK2 CS2
            have hk0 := kp_refl w1
            clear hv q1 q5 hsv hkv CK CS
            go_wp2_with fail
            clear gp gl gh
            go_region_held3 (fun w' => w'.cell? ⟨w.heap.size, 0, none⟩ = some (.int .i64 n) ∧ w'.cell? ⟨w.heap.size, 1, none⟩ = some (.slice a xss.length cap) ∧ w'.cell? ⟨w.heap.size, 2, none⟩ = some (.slice (some ⟨bl, offl, none⟩) L.length capl) ∧ w'.cell? ⟨w.heap.size, 3, none⟩ = some (.slice (some ⟨bh, offh, none⟩) H.length caph) ∧ w'.cell? ⟨w.heap.size, 4, none⟩ = some (.slice (some ⟨bp, offp, none⟩) P.length capp) ∧ Kp w1 0 w')
              (first
        | (go_split_ands
           repeat' apply And.intro
           all_goals (first | (with_reducible assumption) | (with_reducible exact cell_drew (by assumption)) | (with_reducible exact Kp.drew (by assumption)) | (with_reducible exact Kp.cell (by assumption) hb1 (by omega) (by assumption)) | (with_reducible exact Kp.call (by assumption) hb1))))
              (first
                | (go_split_ands; go_at_call 69; (with_reducible refine (CK2.out _ (BB.out.trans ((Kp.bel (n := 0) (by with_reducible assumption)).mono (by omega)))).mono ?_); rintro e wK ⟨rfl, hb1⟩)
                | (go_split_ands; go_at_call 71; (with_reducible refine (CS2.out _ (BB.out.trans ((Kp.bel (n := 0) (by with_reducible assumption)).mono (by omega)))).mono ?_); rintro e wS ⟨rfl, hb1⟩))
            all_goals
              go_wp2_with fail
              go_split_ands
              go_ret
              exact ⟨rfl, BB.out.trans ((Kp.bel (n := 0) (by with_reducible assumption)).mono (by omega))⟩
    · have e2 : (hz != (hi : Int)) = true := by simp [q2]
      obtain rfl : false = v := by rw [← hv]; simp [q2]
      clear hv q1 q2
      go_wp2
      go_ret
      exact ⟨rfl, BB.out⟩
  · have e1 : (lz != (lo : Int)) = true := by simp [q1]
    obtain rfl : false = v := by rw [← hv]; simp [q1]
    clear hv q1
    go_wp2
    go_ret
    exact ⟨rfl, BB.out⟩

theorem lv_ready {xss : List (List Int)} {L H P : List Int} {m k : Nat} (ht : Tr m xss) (hl : L.length = P.length) (hh : H.length = P.length) (hpm : P.length ≤ m) (hk : k < P.length) (h : Lv xss L H P k) : Up xss H P k ∧ Rg xss H P k ∧ Mono xss k (rgL xss H P k).1 (rgL xss H P k).2 ∧ (∀ i (hi : i < xss.length), k < xss[i].length) := by
  have hg := rg_all ht.asc ht.row k (by omega) h (fun e => by omega) (by omega)
  exact ⟨up_of ht (by omega) h (by omega) hh (fun e => by omega), hg, mono_of ht.asc ht.row (by omega) hg.agree hg.top, fun i hi => by rw [ht.row i hi]; omega⟩

set_option maxRecDepth 100000 in
set_option maxHeartbeats 4000000 in
theorem impl_vit (n : Int) (a l h p : Option Addr) (cap capl caph capp : Nat) (xss : List (List Int)) (L H P : List Int) (B : Nat) (w : World) (hs : szI xss L H P ≤ 1048576) (r : ItRd w B a l h p cap capl caph capp xss L H P) (hB : B ≤ w.heap.size) :
    Calls Try.prog 19 #[.agg #[.int .i64 n, .slice a xss.length cap, .slice l L.length capl, .slice h H.length caph, .slice p P.length capp]] w fun e w' => e = .returned (.bool (vit n xss L H P)) ∧ Below w.heap.size w w' := by
  obtain ⟨n1, nl, nx, n3, n4, n5, _, _⟩ := szI_parts hs
  have B1 := hid ((Below.refl w.heap.size w).alloc (Nat.le_refl _) (.cells #[.int .i64 n, .slice a xss.length cap, .slice l L.length capl, .slice h H.length caph, .slice p P.length capp] 29))
  have K0 := hid (hasl_new w [.int .i64 n, .slice a xss.length cap, .slice l L.length capl, .slice h H.length caph, .slice p P.length capp] 29)
  have R := hid r
  have V := hid (impl_vtr n a xss.length cap B xss _ rfl nl nx (R.out.t.below (B1.out.mono hB)) (Nat.le_trans hB B1.out.size))
  have HS := hid hs
  have NX := hid nx
  obtain ⟨c0, c1, c2, c3, c4, _, _, _, _, _, z0⟩ := five K0.out
  clear r hs nx
  by_cases q1 : L.length = P.length
  · have e1 : ((L.length : Int) != (P.length : Int)) = false := by simp [q1]
    by_cases q2 : H.length = P.length
    · have e2 : ((H.length : Int) != (P.length : Int)) = false := by simp [q2]
      by_cases q3 : n < (P.length : Int)
      · have hv := hid (vit_no_lens (xss := xss) (show lens n L H P = false from by rw [← Bool.not_eq_true, lens_iff]; omega))
        clear q1 q2
        go_enter Try.func19, Try.ntmps19
        go_wp2
        go_ret
        exact ⟨by rw [hv.out]; rfl, B1.out⟩
      · have Q := hid (And.intro q1 q2)
        have hlens := hid (show lens n L H P = true from lens_iff.2 ⟨q1, q2, by omega⟩)
        clear q1 q2
        obtain ⟨v, hv⟩ : ∃ v, vrel n xss = v := ⟨_, rfl⟩
        rw [hv] at V
        have HV := hid hv
        clear hv
        go_enter Try.func19, Try.ntmps19
        go_wp2_with fail
        with_reducible refine V.out.mono ?_
        rintro e w1 ⟨rfl, hb⟩
        have BB := hid (B1.out.trans (hb.mono B1.out.size))
        replace K0 := hid (K0.out.below hb)
        clear c0 c1 c2 c3 c4 z0 hb V B1
        obtain ⟨c0, c1, c2, c3, c4, _, _, _, _, _, z0⟩ := five K0.out
        cases v with
        | false =>
          have hv := hid (vit_no_rel (L := L) (H := H) (P := P) HV.out)
          go_wp2
          go_ret
          exact ⟨by rw [hv.out]; rfl, BB.out⟩
        | true =>
          obtain ⟨m, hnm, ht0⟩ := tr_of HV.out
          have HT := hid ht0
          have hpm : P.length ≤ m := by omega
          have HNM := hid hnm
          clear hnm ht0
          go_wp2
          clear c0 c1 c2 c3 c4 z0
          go_loopw [4, 34] (fun _ i wr => ∃ k : Nat, k ≤ P.length ∧ i = .int .i64 k ∧ Hid (Lv xss L H P k) ∧ Hid (HasL wr w.heap.size [.int .i64 n, .slice a xss.length cap, .slice l L.length capl, .slice h H.length caph, .slice p P.length capp]) ∧ Hid (Below w.heap.size w wr)) (fun _ i _ => P.length - (intOf i).toNat)
          case atStart => exact ⟨0, Nat.zero_le _, rfl, hid (Lv.zero _ _ _ _), K0, BB⟩
          case round =>
            obtain ⟨k, hk, rfl, hlv, k0, hb⟩ := hrel
            clear K0 BB
            obtain ⟨c0, c1, c2, c3, c4, _, _, _, _, _, z0⟩ := five k0.out
            by_cases hlt : k < P.length
            · have rdy := lv_ready HT.out Q.out.1 Q.out.2 hpm hlt hlv.out
              have C := hid (impl_lv n a l h p cap capl caph capp xss L H P B k wr HS.out (R.out.below (hb.out.mono hB)) (Nat.le_trans hB hb.out.size) rdy.1 hlt (by have := Q.out.1; omega) (by have := Q.out.2; omega) rdy.2.1 rdy.2.2.1 rdy.2.2.2)
              clear rdy
              obtain ⟨v, hv⟩ : ∃ v, lvI xss L H P k = v := ⟨_, rfl⟩
              rw [hv] at C
              have HV2 := hid hv
              clear hv
              have hlt' : (k : Int) < (P.length : Int) := by omega
              go_wp2_with fail
              with_reducible refine C.out.mono ?_
              rintro e w2 ⟨rfl, hb2⟩
              have BB := hid (hb.out.trans (hb2.mono hb.out.size))
              have K1 := hid (k0.out.below hb2)
              clear c0 c1 c2 c3 c4 z0 hb2 C
              cases v with
              | false =>
                have hv := hid (vit_no_lv (n := n) k hlt HV2.out)
                go_wp2
                go_ret
                exact ⟨by rw [hv.out]; rfl, BB.out⟩
              | true =>
                have hs := hid (hlv.out.step HV2.out)
                go_wp2
                go_roundw
                case rel => exact ⟨k + 1, by omega, by go_num, hs, K1, BB⟩
                case measure => simp [intOf]; omega
            · obtain rfl : k = P.length := by omega
              have hv := hid (vit_yes hlens.out HV.out hlv.out)
              go_wp2
              go_ret
              exact ⟨by rw [hv.out]; rfl, hb.out⟩
    · have e2 : ((H.length : Int) != (P.length : Int)) = true := by simp [q2]; omega
      have hv := hid (vit_no_lens (xss := xss) (show lens n L H P = false from by rw [← Bool.not_eq_true, lens_iff]; omega))
      clear q1 q2
      go_enter Try.func19, Try.ntmps19
      go_wp2
      go_ret
      exact ⟨by rw [hv.out]; rfl, B1.out⟩
  · have e1 : ((L.length : Int) != (P.length : Int)) = true := by simp [q1]; omega
    have hv := hid (vit_no_lens (xss := xss) (show lens n L H P = false from by rw [← Bool.not_eq_true, lens_iff]; omega))
    clear q1
    go_enter Try.func19, Try.ntmps19
    go_wp2
    go_ret
    exact ⟨by rw [hv.out]; rfl, B1.out⟩
end Go.Proofs.Ytliomgoakiidfaa.ItV
