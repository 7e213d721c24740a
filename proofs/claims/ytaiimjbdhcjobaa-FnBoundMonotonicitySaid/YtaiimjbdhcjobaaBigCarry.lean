/- The contract of spec.l3Carry. -/
import Derived.Test.YtaiimjbdhcjobaaBigCols
namespace Go.Proofs.Ytaiimjbdhcjobaa.BigCarry
open Go.RowKit
open Go.Proofs.Ytaiimjbdhcjobaa.Num Go.Proofs.Ytaiimjbdhcjobaa.IntRow Go.Proofs.Ytaiimjbdhcjobaa.IntLaw Go.Proofs.Ytaiimjbdhcjobaa.Dig Go.Proofs.Ytaiimjbdhcjobaa.BigValid Go.Proofs.Ytaiimjbdhcjobaa.BigFrom Go.Proofs.Ytaiimjbdhcjobaa.BigCols
set_option linter.unusedVariables false

theorem part_bound {S D : List Nat} {c : Nat} (h : Part S D c) (hk : S.length ≤ D.length) (hc : 0 < c) (hv : vl S < 10 ^ 122) : D.length < 122 := by
  have h2 := h.2
  rw [List.drop_eq_nil_of_le hk, vl] at h2
  have h3 : 10 ^ D.length * 1 ≤ 10 ^ D.length * (c + 0) := Nat.mul_le_mul_left _ (by omega)
  have h4 : 10 ^ D.length < 10 ^ 122 := by
    generalize 10 ^ 122 = M at *
    omega
  exact (Nat.pow_lt_pow_iff_right (by omega)).1 h4
/-- The length of the slice that lies in block b. -/
def lenAt (w : World) (b : Nat) : Nat := match w.cell? ⟨b, 0, none⟩ with | some (.slice _ n _) => n | _ => 0
theorem lenAt_one {w : World} {b n cap : Nat} {a : Option Addr} (h : One w b (.slice a n cap)) : lenAt w b = n := by
  unfold lenAt
  rw [h.1]

theorem own_lower {w : World} {g lo m : Nat} {e : TypeId} {v : Value} {cs : List Value} (h : w.ownsRow g e 1 v m cs) (hl : lo ≤ g) : w.ownsRow lo e 1 v m cs := by
  obtain ⟨h1, h2⟩ := h
  refine ⟨h1, ?_⟩
  rcases h2 with h2 | ⟨g2, cap', cur, hv, hg, r⟩
  · exact .inl h2
  · exact .inr ⟨g2, cap', cur, hv, by omega, r⟩
theorem cut_zero {L : List Nat} {m : Nat} (hm : m + 1 ≤ L.length) (h : L[m] = 0) (hv : vl (L.take (m + 1)) = vl L) : vl (L.take m) = vl L := by
  rw [← hv, take_zero L m (by omega) h]
theorem cut_end {L : List Nat} {m : Nat} (hs : Small L) (hm : m ≤ L.length) (hv : vl (L.take m) = vl L) (h : ∀ j (hj : j < L.length), j + 1 = m → L[j] ≠ 0) : dg (vl L) = L.take m := by
  rcases m with _ | m
  · rw [← hv]; simp [vl, dg_zero]
  · rw [← hv]
    exact take_norm L m hs (by omega) (h m (by omega) rfl)

set_option maxRecDepth 100000 in
theorem spec_carry (a : Option Addr) (cap B n : Nat) (S : List Nat) (w : World) (hn : S.length = n) (hn2 : n ≤ 121) (hb : ∀ d ∈ S, d ≤ 1000000) (hv : vl S < 10 ^ 122) (h : Rd w B a (ci S)) (hB : B ≤ w.heap.size) :
    Calls Try.prog 148 #[.slice a n cap] w fun e w' => ∃ a' cap', e = .returned (.tuple #[.agg #[.slice a' (rx (dg (vl S))).length cap'], .bool (rb (dg (vl S)))]) ∧ Own w' w.heap.size 3 (.slice a' (rx (dg (vl S))).length cap') (rx (dg (vl S))) ∧ Below w.heap.size w w' := by
  obtain ⟨i0, hi, hz0, hz1, hz2⟩ := info_parts info
  have HN := hid hn
  have HB := hid hb
  have HV := hid hv
  clear hb hv hn
  have K0 := hid ((one_new w (.slice none 0 0) 53).alloc (.cells #[.slice none 0 0] 53))
  have K1 := hid (one_new (w.alloc (.cells #[.slice none 0 0] 53)) (.slice none 0 0) 53)
  simp only [World.size_alloc] at K1
  have KB := hid (((Below.refl w.heap.size w).alloc (Nat.le_refl _) (.cells #[.slice none 0 0] 53)).alloc (by simp) (.cells #[.slice none 0 0] 53))
  go_enter Try.func148, Try.ntmps148
  go_wp2
  go_loopw [5, 6] (fun cv i wr => ∃ (k c : Nat) (L : List Nat) (a1 : Option Addr) (cap1 : Nat), i = .int .i64 k ∧ cv = .int .i64 c ∧ k ≤ 130 ∧ c ≤ 1000000 ∧ Hid (L.length = k) ∧ Hid (Part S L c) ∧ One wr (w.heap.size + 1) (.slice a1 (ci L).length cap1) ∧ Own wr (w.heap.size + 2) 3 (.slice a1 (ci L).length cap1) (ci L) ∧ One wr w.heap.size (.slice none 0 0) ∧ Below w.heap.size w wr ∧ w.heap.size + 2 ≤ wr.heap.size) (fun cv i _ => (n - (intOf i).toNat) * 10000000 + (intOf cv).toNat)
  case atStart => exact ⟨0, 0, [], none, 0, rfl, rfl, by omega, by omega, hid rfl, hid (part_zero S), K1.out, Own.nil _ _ _, K0.out, KB.out, by simp⟩
  case round =>
    obtain ⟨k, c, L, a1, cap1, rfl, rfl, hk, hc, hL, hP, hone, hown, hone0, hbel, hsz⟩ := hrel
    have hcl : (ci L).length ≤ 130 := by rw [ci_length, hL.out]; exact hk
    by_cases hlt : k < n
    · have hkS : k < S.length := by have := HN.out; omega
      have hx := HB.out S[k] (List.getElem_mem hkS)
      obtain ⟨b, off, rfl, hbB, hcell⟩ := (h.below (hbel.mono hB)) (by rw [ci_length]; omega)
      have g1 := hcell k (by rw [ci_length]; omega)
      rw [ci_at] at g1
      obtain ⟨x, hxe⟩ : ∃ x : Nat, Hid (S[k] = x) := ⟨_, hid rfl⟩
      have hx1 : x ≤ 1000000 := by rw [← hxe.out]; exact hx
      rw [hxe.out] at g1
      obtain ⟨d, hd⟩ : ∃ d : Nat, Hid (d = (x + c) % 10) := ⟨_, hid rfl⟩
      obtain ⟨q, hq⟩ : ∃ q : Nat, Hid (q = (x + c) / 10) := ⟨_, hid rfl⟩
      have hP2 : Hid (Part S (L ++ [d]) q) := by
        have := hP.out
        have e := hL.out
        have p := part_step this (by omega)
        simp only [e, hxe.out] at p
        rw [hd.out, hq.out]
        exact p
      have e1 : ((c : Int) + (x : Int)) % 10 = (d : Int) := by have := hd.out; omega
      have e2 : ((c : Int) + (x : Int)) / 10 = (q : Int) := by have := hq.out; omega
      have hq9 : q ≤ 1000000 := by have := hq.out; omega
      have hL2 : Hid ((L ++ [d]).length = k + 1) := by have := hL.out; exact hid (by simp; omega)
      have eL := hid (show ci (L ++ [d]) = ci L ++ [(d : Int)] by rw [ci_snoc])
      have hxm : (x : Int) ≤ 1000000 := by omega
      have hcm : (c : Int) ≤ 1000000 := by omega
      have hlt' : decide ((k : Int) < (n : Int)) = true := by simp; omega
      have HO := hid hone
      obtain ⟨c0, f0, z0⟩ := hone
      clear hx hcell h
      go_wp2_with (at_builtin; refine append_int rfl _ _ 42 rfl (w.heap.size + 2) 3 i0 Try.underlying42 hi hz0 hz1 hz2 wr wr _ (ci L) (d : Int) hown (by rfl) (Below.refl _ _) hsz _ ?c1 (by rfl) (by omega) ?_)
      case c1 => first | rfl | exact e1
      intro v1 w1 hown1 hbel1 hsz1 hgr
      have o1 := hid (one_grown HO.out hown hgr (by omega))
      have o0 := hid (one_grown hone0 hown hgr (by omega))
      have b1 := hid (hbel.trans (hbel1.mono (by omega)))
      obtain ⟨a2, cap2, rfl, _, _, _⟩ := hown1.form
      have eN := hid (show (ci L ++ [(d : Int)]).length = (ci L).length + 1 by simp)
      rw [eN.out] at hown1
      have o2 := hid (o1.out.set (.slice a2 ((ci L).length + 1) cap2))
      have o3 := hid (o0.out.far (p := ⟨w.heap.size + 1, 0, none⟩) (by simp) (.slice a2 ((ci L).length + 1) cap2))
      have ow2 := hid (own_far hown1 (p := ⟨w.heap.size + 1, 0, none⟩) (by simp) (.slice a2 ((ci L).length + 1) cap2))
      have b2 := hid (b1.out.setCell (p := ⟨w.heap.size + 1, 0, none⟩) (by simp) (.slice a2 ((ci L).length + 1) cap2))
      obtain ⟨c1, f1, z1⟩ := o1.out
      clear hown hbel hsz hown1 c0 f0 z0 hone0 hbel1 hgr g1
      go_wp2
      go_roundw
      case rel => exact ⟨k + 1, q, L ++ [d], a2, cap2, by go_num, by first | rfl | rw [e2], by omega, hq9, hL2, hP2, by rw [eL.out, eN.out]; exact o2.out, by rw [eL.out, eN.out]; exact ow2.out, o3.out, b2.out, by simp; omega⟩
      case measure => simp [intOf]; omega
    · by_cases hc0 : 0 < c
      · have hkb : k < 122 := by have := part_bound hP.out (by have := HN.out; have := hL.out; omega) hc0 HV.out; have := hL.out; omega
        obtain ⟨d, hd⟩ : ∃ d : Nat, Hid (d = c % 10) := ⟨_, hid rfl⟩
        obtain ⟨q, hq⟩ : ∃ q : Nat, Hid (q = c / 10) := ⟨_, hid rfl⟩
        have hP2 : Hid (Part S (L ++ [d]) q) := by
          rw [hd.out, hq.out]
          exact part_more hP.out (by have := HN.out; have := hL.out; omega)
        have e1 : (c : Int) % 10 = (d : Int) := by have := hd.out; omega
        have e2 : (c : Int) / 10 = (q : Int) := by have := hq.out; omega
        have hq9 : q ≤ 1000000 := by have := hq.out; omega
        have hqc : q < c := by have := hq.out; omega
        have hL2 : Hid ((L ++ [d]).length = k + 1) := by have := hL.out; exact hid (by simp; omega)
        have eL := hid (show ci (L ++ [d]) = ci L ++ [(d : Int)] by rw [ci_snoc])
        have hcm : (c : Int) ≤ 1000000 := by omega
        have hlt' : decide ((k : Int) < (n : Int)) = false := by simp; omega
        have hlt2 : decide ((0 : Int) < (c : Int)) = true := by simp; omega
        have HO := hid hone
        obtain ⟨c0, f0, z0⟩ := hone
        clear h
        go_wp2_with (at_builtin; refine append_int rfl _ _ 42 rfl (w.heap.size + 2) 3 i0 Try.underlying42 hi hz0 hz1 hz2 wr wr _ (ci L) (d : Int) hown (by rfl) (Below.refl _ _) hsz _ ?c1 (by rfl) (by omega) ?_)
        case c1 => first | rfl | exact e1
        intro v1 w1 hown1 hbel1 hsz1 hgr
        have o1 := hid (one_grown HO.out hown hgr (by omega))
        have o0 := hid (one_grown hone0 hown hgr (by omega))
        have b1 := hid (hbel.trans (hbel1.mono (by omega)))
        obtain ⟨a2, cap2, rfl, _, _, _⟩ := hown1.form
        have eN := hid (show (ci L ++ [(d : Int)]).length = (ci L).length + 1 by simp)
        rw [eN.out] at hown1
        have o2 := hid (o1.out.set (.slice a2 ((ci L).length + 1) cap2))
        have o3 := hid (o0.out.far (p := ⟨w.heap.size + 1, 0, none⟩) (by simp) (.slice a2 ((ci L).length + 1) cap2))
        have ow2 := hid (own_far hown1 (p := ⟨w.heap.size + 1, 0, none⟩) (by simp) (.slice a2 ((ci L).length + 1) cap2))
        have b2 := hid (b1.out.setCell (p := ⟨w.heap.size + 1, 0, none⟩) (by simp) (.slice a2 ((ci L).length + 1) cap2))
        obtain ⟨c1, f1, z1⟩ := o1.out
        clear hown hbel hsz hown1 c0 f0 z0 hone0 hbel1 hgr
        go_wp2
        go_roundw
        case rel => exact ⟨k + 1, q, L ++ [d], a2, cap2, by go_num, by first | rfl | rw [e2], by omega, hq9, hL2, hP2, by rw [eL.out, eN.out]; exact o2.out, by rw [eL.out, eN.out]; exact ow2.out, o3.out, b2.out, by simp; omega⟩
        case measure => simp [intOf]; omega
      · have hlt' : decide ((k : Int) < (n : Int)) = false := by simp; omega
        have hlt2 : decide ((0 : Int) < (c : Int)) = false := by simp; omega
        have hfin := hid (part_all hP.out (by have := HN.out; have := hL.out; omega) (by omega))
        have hS : Small L := hP.out.1
        have HS := hid hS
        have hLl : L.length ≤ 130 := by rw [hL.out]; exact hk
        clear h hS
        rcases own_at hown with ⟨hv, hnil⟩ | ⟨g, cap2, hv, hg, hat⟩
        · simp only [Value.slice.injEq] at hv
          obtain ⟨rfl, h0, rfl⟩ := hv
          rw [h0] at hone
          have hLn : L = [] := List.eq_nil_of_length_eq_zero (by rw [← ci_length]; exact h0)
          have hR := hid (show dg (vl S) = [] by rw [← hfin.out, hLn]; rfl)
          clear hown h0 hnil hcl
          go_wp2
          go_loopw [39] (fun i wx => One wx (w.heap.size + 1) (.slice none 0 0) ∧ One wx w.heap.size (.slice none 0 0) ∧ Below w.heap.size w wx) (fun _ _ => 0)
          case atStart => exact ⟨hone, hone0, hbel⟩
          case round =>
            obtain ⟨hone1, hone2, hbel2⟩ := hrel
            have hr := (hone2.set (.slice none 0 0)).1
            have hbf := hid (hbel2.setCell (p := ⟨w.heap.size, 0, none⟩) (Nat.le_refl _) (.slice none 0 0))
            obtain ⟨c1, f1, z1⟩ := hone1
            obtain ⟨c2, f2, z2⟩ := hone2
            clear hone hone0 hbel hbel2
            go_wp2
            refine bodyPost_ret (v := .tuple #[.agg #[.slice none 0 0], .bool true]) (by simp [results, Try.results148, go_sem, hr]) rfl ⟨none, 0, ?_, ?_, hbf.out⟩
            · rw [hR.out]; rfl
            · rw [hR.out]; exact Own.nil _ _ _
        · simp only [Value.slice.injEq, true_and] at hv
          obtain ⟨rfl, rfl⟩ := hv
          rw [ci_length] at hone
          clear hown hcl
          go_wp2
          go_loopw [39] (fun i wx => ∃ m : Nat, m ≤ L.length ∧ Hid (vl (L.take m) = vl L) ∧ One wx (w.heap.size + 1) (.slice (some ⟨g, 0, none⟩) m cap1) ∧ At wx g 3 cap1 (ci L) ∧ One wx w.heap.size (.slice none 0 0) ∧ Below w.heap.size w wx) (fun _ wx => lenAt wx (w.heap.size + 1))
          case atStart => exact ⟨L.length, Nat.le_refl _, hid (by rw [List.take_length]), hone, hat, hone0, hbel⟩
          case round =>
            clear hone hone0 hbel hat
            obtain ⟨m, hm, hvm, hone1, hat1, hone2, hbel2⟩ := hrel
            have hl1 := hid (lenAt_one hone1)
            have hcap : (m : Int) ≤ (cap1 : Int) := by
              have := hat1.cap_le; rw [ci_length] at this; omega
            by_cases hgo : 0 < m ∧ ∀ j (hj : j < L.length), j + 1 = m → L[j] = 0
            · obtain ⟨hm0, hz⟩ := hgo
              have hm1 : m - 1 < L.length := by omega
              have hz1 := hz (m - 1) hm1 (by omega)
              have g1 := hat1.cell (m - 1) (by rw [ci_length]; exact hm1)
              rw [ci_at, hz1] at g1
              have hv2 : Hid (vl (L.take (m - 1)) = vl L) := hid (cut_zero (by omega) hz1 (by rw [show m - 1 + 1 = m by omega]; exact hvm.out))
              have o2 := hid (hone1.set (.slice (some ⟨g, 0, none⟩) (m - 1) cap1))
              have o3 := hid (hone2.far (p := ⟨w.heap.size + 1, 0, none⟩) (by simp) (.slice (some ⟨g, 0, none⟩) (m - 1) cap1))
              have at2 := hid (hat1.far (p := ⟨w.heap.size + 1, 0, none⟩) (by simp only; omega) (.slice (some ⟨g, 0, none⟩) (m - 1) cap1))
              have b2 := hid (hbel2.setCell (p := ⟨w.heap.size + 1, 0, none⟩) (by simp) (.slice (some ⟨g, 0, none⟩) (m - 1) cap1))
              have hl2 := hid (lenAt_one o2.out)
              have t1 : decide ((0 : Int) < (m : Int)) = true := by simp; omega
              have t2 : (0 : Int) ≤ (m : Int) - 1 := by omega
              have t3 : ((m : Int) - 1).toNat = m - 1 := by omega
              have t4 : (m : Int) - 1 < (m : Int) := by omega
              have t5 : (m : Int) ≤ 130 := by omega
              have t6 : (m : Int) - 1 ≤ (cap1 : Int) := by omega
              obtain ⟨c1, f1, z1⟩ := hone1
              clear hz hz1 hat1 hone2 hbel2 hvm
              go_wp2
              go_roundw
              case rel => exact ⟨m - 1, by omega, hv2, o2.out, at2.out, o3.out, b2.out⟩
              case measure => rw [hl1.out, hl2.out]; omega
            · have hR := hid (cut_end HS.out hm hvm.out (fun j hj hjm h0 => hgo ⟨by omega, fun j' hj' e => by
                have : j' = j := by omega
                subst this; exact h0⟩))
              have hRl := hid (show (dg (vl S)).length = m by rw [← hfin.out, hR.out]; simp; omega)
              rw [hfin.out] at hR
              have hrow := hat1.take m (by rw [ci_length]; exact hm)
              rw [show (ci L).take m = ci (L.take m) by unfold ci; rw [List.map_take]] at hrow
              by_cases hm0 : 0 < m
              · have hm1 : m - 1 < L.length := by omega
                have hz1 : L[m - 1] ≠ 0 := fun e => hgo ⟨hm0, fun j hj hjm => by
                  have : j = m - 1 := by omega
                  subst this; exact e⟩
                have g1 := hat1.cell (m - 1) (by rw [ci_length]; exact hm1)
                rw [ci_at] at g1
                obtain ⟨x, hxe⟩ : ∃ x : Nat, Hid (L[m - 1] = x) := ⟨_, hid rfl⟩
                rw [hxe.out] at g1 hz1
                have t0 : ((x : Int) == 0) = false := by rw [beq_eq_false_iff_ne]; omega
                have t1 : decide ((0 : Int) < (m : Int)) = true := by simp; omega
                have t2 : (0 : Int) ≤ (m : Int) - 1 := by omega
                have t3 : ((m : Int) - 1).toNat = m - 1 := by omega
                have t4 : (m : Int) - 1 < (m : Int) := by omega
                have t5 : (m : Int) ≤ 130 := by omega
                clear hz1 hgo hvm
                by_cases h60 : m ≤ 60
                · have hr := (hone2.set (.slice (some ⟨g, 0, none⟩) m cap1)).1
                  have hbf := hid (hbel2.setCell (p := ⟨w.heap.size, 0, none⟩) (Nat.le_refl _) (.slice (some ⟨g, 0, none⟩) m cap1))
                  have hown := hid (own_setd hrow (show g ≠ w.heap.size by omega) (.slice (some ⟨g, 0, none⟩) m cap1))
                  obtain ⟨c1, f1, z1⟩ := hone1
                  obtain ⟨c2, f2, z2⟩ := hone2
                  clear hat1 hrow hbel2
                  go_wp2
                  refine bodyPost_ret (v := .tuple #[.agg #[.slice (some ⟨g, 0, none⟩) m cap1], .bool true]) (by simp [results, Try.results148, go_sem, hr]) rfl ⟨some ⟨g, 0, none⟩, cap1, ?_, ?_, hbf.out⟩
                  · rw [rx_yes (by rw [hRl.out]; exact h60), rb_yes (by rw [hRl.out]; exact h60), ci_length, hRl.out]
                  · rw [rx_yes (by rw [hRl.out]; exact h60), ci_length, hRl.out, hR.out]
                    have := hown.out
                    unfold Own
                    rw [ci_length, show (L.take m).length = m by simp; omega]
                    exact own_lower this (by omega)
                · have hr := (hone2.set (.slice none 0 0)).1
                  have hbf := hid (hbel2.setCell (p := ⟨w.heap.size, 0, none⟩) (Nat.le_refl _) (.slice none 0 0))
                  obtain ⟨c1, f1, z1⟩ := hone1
                  obtain ⟨c2, f2, z2⟩ := hone2
                  clear hat1 hrow hbel2
                  go_wp2
                  refine bodyPost_ret (v := .tuple #[.agg #[.slice none 0 0], .bool false]) (by simp [results, Try.results148, go_sem, hr]) rfl ⟨none, 0, ?_, ?_, hbf.out⟩
                  · rw [rx_no (by rw [hRl.out]; exact h60), rb_no (by rw [hRl.out]; exact h60)]; rfl
                  · rw [rx_no (by rw [hRl.out]; exact h60)]; exact Own.nil _ _ _
              · have t1 : decide ((0 : Int) < (m : Int)) = false := by simp; omega
                clear hgo hvm
                by_cases h60 : m ≤ 60
                · have hr := (hone2.set (.slice (some ⟨g, 0, none⟩) m cap1)).1
                  have hbf := hid (hbel2.setCell (p := ⟨w.heap.size, 0, none⟩) (Nat.le_refl _) (.slice (some ⟨g, 0, none⟩) m cap1))
                  have hown := hid (own_setd hrow (show g ≠ w.heap.size by omega) (.slice (some ⟨g, 0, none⟩) m cap1))
                  obtain ⟨c1, f1, z1⟩ := hone1
                  obtain ⟨c2, f2, z2⟩ := hone2
                  clear hat1 hrow hbel2
                  go_wp2
                  refine bodyPost_ret (v := .tuple #[.agg #[.slice (some ⟨g, 0, none⟩) m cap1], .bool true]) (by simp [results, Try.results148, go_sem, hr]) rfl ⟨some ⟨g, 0, none⟩, cap1, ?_, ?_, hbf.out⟩
                  · rw [rx_yes (by rw [hRl.out]; exact h60), rb_yes (by rw [hRl.out]; exact h60), ci_length, hRl.out]
                  · rw [rx_yes (by rw [hRl.out]; exact h60), ci_length, hRl.out, hR.out]
                    have := hown.out
                    unfold Own
                    rw [ci_length, show (L.take m).length = m by simp; omega]
                    exact own_lower this (by omega)
                · omega
end Go.Proofs.Ytaiimjbdhcjobaa.BigCarry
