/- The model's GYO reduction: l10Ear (the next atom to remove and its parent). -/
import Derived.Test.YtaeeogighoobdaaGyo
import Derived.Test.YtaeeogighoobdaaLawKit
namespace Go.Proofs.Ytaeeogighoobdaa.GyoS
open Go.RowKit
open Go.Proofs.Ytaeeogighoobdaa.Num Go.Proofs.Ytaeeogighoobdaa.IntRow Go.Proofs.Ytaeeogighoobdaa.IntLaw Go.Proofs.Ytaeeogighoobdaa.Rdr Go.Proofs.Ytaeeogighoobdaa.Dat Go.Proofs.Ytaeeogighoobdaa.HasL Go.Proofs.Ytaeeogighoobdaa.VarIn Go.Proofs.Ytaeeogighoobdaa.SetV Go.Proofs.Ytaeeogighoobdaa.SetJ Go.Proofs.Ytaeeogighoobdaa.QryP Go.Proofs.Ytaeeogighoobdaa.Gyo
set_option linter.unusedVariables false

def bc (L : List Bool) : List Value := L.map Value.bool
theorem bc_cell {w : World} {g : Nat} {L : List Bool} (h : HasL w g (bc L)) (j : Nat) (hj : j < L.length) : w.cell? ⟨g, j, none⟩ = some (.bool (lv L j)) := by
  have := (h.2 j (by simp [bc]; exact hj)).1
  rw [lv_at hj]
  simpa [bc] using this
theorem bc_free {w : World} {g : Nat} {L : List Bool} (h : HasL w g (bc L)) (j : Nat) (hj : j < L.length) : w.frozen? ⟨g, j, none⟩ = false := (h.2 j (by simp [bc]; exact hj)).2
theorem bc_set (L : List Bool) (j : Nat) (b : Bool) : (bc L).set j (.bool b) = bc (L.set j b) := by simp [bc, List.map_set]

/-- The fit of the variables below m. -/
def fitM (us : List AtomD) (L : List Bool) (i k m : Nat) : Bool := (List.range m).all (fitAt us L i k)
theorem fitM_step (us : List AtomD) (L : List Bool) (i k m : Nat) : fitM us L i k (m + 1) = (fitM us L i k m && fitAt us L i k m) := by
  unfold fitM
  rw [List.range_succ, List.all_append]
  simp
theorem fitM_cut {us : List AtomD} {L : List Bool} {i k n : Nat} (hv : ∀ a ∈ us, ∀ z ∈ a.2, 0 ≤ z ∧ z < (n : Int)) (hi : i < us.length) (m : Nat) : fitM us L i k (n + m) = fitM us L i k n := by
  induction m with
  | zero => rfl
  | succ m ih =>
    rw [show n + (m + 1) = (n + m) + 1 by omega, fitM_step, ih]
    have : mv us i (n + m) = false := by
      rw [mv_at hi]
      unfold mem
      rw [decide_eq_false_iff_not]
      intro h
      have := hv _ (List.getElem_mem hi) _ h
      omega
    unfold fitAt
    rw [this]
    simp
def shdM (us : List AtomD) (L : List Bool) (i v m : Nat) : Bool := (List.range m).any fun j => (lv L j && decide (j ≠ i)) && mv us j v
theorem shdM_step (us : List AtomD) (L : List Bool) (i v m : Nat) : shdM us L i v (m + 1) = (shdM us L i v m || ((lv L m && decide (m ≠ i)) && mv us m v)) := by
  unfold shdM
  rw [List.range_succ, List.any_append]
  simp

def EarV (us : List AtomD) (L : List Bool) (w : World) (e : Ending) (w' : World) : Prop :=
  ((∃ i k : Nat, ear us L = some i ∧ earK us L i = some k ∧ e = .returned (.tuple #[.int .i64 (i : Int), .int .i64 (k : Int)])) ∨ (ear us L = none ∧ e = .returned (.tuple #[.int .i64 (-1), .int .i64 (-1)]))) ∧ Below w.heap.size w w'

set_option maxRecDepth 100000 in
set_option maxHeartbeats 4000000 in
theorem spec_ear (cs : List Value) (x : QueryD) (L : List Bool) (gl lc lo hi n5 : Nat) (w : World) (hs : szQ x ≤ 1048576) (h : rQuery w lo hi cs x) (hh : hi ≤ w.heap.size) (hn : x.1 = (n5 : Int)) (h5 : n5 ≤ 5) (hva : ∀ a ∈ x.2.1, ∀ z ∈ a.2, 0 ≤ z ∧ z < (n5 : Int)) (hL : L.length = x.2.1.length) (hl : HasL w gl (bc L)) :
    Calls Try.prog 61 #[.agg cs.toArray, .slice (some ⟨gl, 0, none⟩) x.2.1.length lc] w (EarV x.2.1 L w) := by
  obtain ⟨xv, us, xo⟩ := x
  dsimp only at hn hva hL
  have hqo := query_open h
  dsimp only at hqo
  obtain ⟨q, capq, o, capo, hcs, _, _, hqe, _⟩ := hqo
  subst hcs
  subst hn
  dsimp only
  have hs' : tots szA us + xo.length ≤ 1048576 := hs
  have K := hid (hasl_new w [.int .i64 (n5 : Int), .slice q us.length capq, .slice o xo.length capo] 30)
  have B1 := hid ((Below.refl w.heap.size w).alloc (Nat.le_refl _) (.cells #[.int .i64 (n5 : Int), .slice q us.length capq, .slice o xo.length capo] 30))
  have hn2 : us.length ≤ 1048576 := by have := tots_len szA us; omega
  have HSA := hid (fun j (hj : j < us.length) => show us[j].2.length ≤ 1048576 by have := elem_le szA us j hj; unfold szA at this hs'; omega)
  have HQE := hid hqe
  have HVA := hid hva
  have HL := hid hl
  have HLL := hid hL
  obtain ⟨nn, hnn⟩ : ∃ z, us.length = z := ⟨_, rfl⟩
  have HNN := hid hnn
  have C := hid (fun (W : World) (j : Nat) (hj : j < us.length) (v : Nat) (cs : List Value) (hr : rAtom W lo hi cs us[j]) (hW : Below w.heap.size w W) => spec_has cs us[j] (v : Int) lo hi W (HSA.out j hj) hr (Nat.le_trans hh hW.size))
  rw [hnn] at K B1 hn2 ⊢
  clear h hqe hs hs' hva hl hL hnn
  go_enter Try.func61, Try.ntmps61
  go_wp2
  go_loopw [6, 7, 8, 9, 10, 11] (fun i _ _ _ _ _ wr => ∃ k : Nat, k ≤ nn ∧ i = .int .i64 k ∧ Hid (∀ i', i' < k → ∀ k', k' < us.length → okE us L i' k' = false) ∧ Hid (HasL wr w.heap.size [.int .i64 (n5 : Int), .slice q nn capq, .slice o xo.length capo]) ∧ Hid (Below w.heap.size w wr)) (fun i _ _ _ _ _ _ => nn - (intOf i).toNat)
  case atStart => exact ⟨0, Nat.zero_le _, rfl, hid (fun i' h => by omega), K, B1⟩
  case round =>
    obtain ⟨i, hi', rfl, hno, hk, hb⟩ := hrel
    obtain ⟨w1, rfl⟩ : ∃ w1 : World, w1 = wr := ⟨_, rfl⟩
    by_cases hlt : i < nn
    · have hlt' : (i : Int) < (nn : Int) := by omega
      obtain ⟨q0, q1, q2, _, _, _, q6⟩ := hk.out.three
      go_wp2
      clear q0 q1 q2 q6
      go_loopw [7, 8, 9, 10, 11] (fun k _ _ _ _ wr => ∃ k2 : Nat, k2 ≤ nn ∧ k = .int .i64 k2 ∧ Hid (∀ k', k' < k2 → okE us L i k' = false) ∧ Hid (HasL wr w.heap.size [.int .i64 (n5 : Int), .slice q nn capq, .slice o xo.length capo]) ∧ Hid (Below w.heap.size w wr)) (fun k _ _ _ _ _ => nn - (intOf k).toNat)
      case atStart => exact ⟨0, Nat.zero_le _, rfl, hid (fun i' h => by omega), hk, hb⟩
      case round =>
        obtain ⟨k, hk', rfl, hno2, hkb, hb2⟩ := hrel
        obtain ⟨w2, rfl⟩ : ∃ w2 : World, w2 = wr := ⟨_, rfl⟩
        clear hk hb
        by_cases hlk : k < nn
        · have hlk' : (k : Int) < (nn : Int) := by omega
          have h0i : (0 : Int) ≤ (i : Int) := by omega
          have h0k : (0 : Int) ≤ (k : Int) := by omega
          have hlw := hid (HL.out.under hb2.out HL.out.1)
          have d1 := bc_cell hlw.out i (by rw [HLL.out, HNN.out]; exact hlt)
          have d2 := bc_cell hlw.out k (by rw [HLL.out, HNN.out]; exact hlk)
          obtain ⟨q0, q1, q2, _, _, _, q6⟩ := hkb.out.three
          cases hli : lv L i with
          | false =>
            have HN := hid (show ∀ k', k' < k + 1 → okE us L i k' = false from fun k' _ => by unfold okE; rw [hli]; rfl)
            rw [hli] at d1
            clear hli
            go_wp2
            go_roundw
            case rel => exact ⟨k + 1, by omega, by go_num, HN, hkb, hb2⟩
            case measure => simp [intOf]; omega
          | true =>
            rw [hli] at d1
            have HLI := hid hli
            clear hli
            cases hlk2 : lv L k with
            | false =>
              have HN := hid (show ∀ k', k' < k + 1 → okE us L i k' = false from fun k' hk' => by
                by_cases e : k' = k
                · subst e
                  unfold okE
                  rw [hlk2, Bool.false_and, Bool.and_false]
                  rfl
                · exact hno2.out k' (by omega))
              rw [hlk2] at d2
              clear hlk2
              go_wp2
              go_roundw
              case rel => exact ⟨k + 1, by omega, by go_num, HN, hkb, hb2⟩
              case measure => simp [intOf]; omega
            | true =>
              rw [hlk2] at d2
              have HLK := hid hlk2
              clear hlk2
              by_cases hik : i = k
              · have HN := hid (show ∀ k', k' < k + 1 → okE us L i k' = false from fun k' hk' => by
                  by_cases e : k' = k
                  · subst e
                    unfold okE
                    rw [decide_eq_false (by simp [hik]), Bool.and_false, Bool.and_false]
                    rfl
                  · exact hno2.out k' (by omega))
                have t1 : ((i : Int) == (k : Int)) = true := by simp [hik]
                clear hik
                go_wp2
                go_roundw
                case rel => exact ⟨k + 1, by omega, by go_num, HN, hkb, hb2⟩
                case measure => simp [intOf]; omega
              · have t1 : ((i : Int) == (k : Int)) = false := by simp; omega
                have HIK := hid hik
                clear hik
                go_wp2
                clear d1 d2 q0 q1 q2 q6 t1
                go_loopw [8, 9, 10, 11] (fun f v _ _ wr => ∃ (m : Nat) (fb : Bool), m ≤ n5 ∧ v = .int .i64 m ∧ f = .bool fb ∧ Hid (fitM us L i k m = fb) ∧ Hid (HasL wr w.heap.size [.int .i64 (n5 : Int), .slice q nn capq, .slice o xo.length capo]) ∧ Hid (Below w.heap.size w wr)) (fun _ v _ _ _ => n5 - (intOf v).toNat)
                case atStart => exact ⟨0, true, Nat.zero_le _, rfl, rfl, hid rfl, hkb, hb2⟩
                case round =>
                  obtain ⟨m, fb, hm, rfl, rfl, hfb, hkb3, hb3⟩ := hrel
                  obtain ⟨w3, rfl⟩ : ∃ w3 : World, w3 = wr := ⟨_, rfl⟩
                  clear hkb hb2 hlw
                  obtain ⟨q0, q1, q2, _, _, _, q6⟩ := hkb3.out.three
                  by_cases hlm : m < n5
                  · have hlm' : (m : Int) < (n5 : Int) := by omega
                    go_wp2
                    clear q0 q1 q2 q6
                    go_loopw [10, 11] (fun ob j wr => ∃ (jj : Nat) (b : Bool), jj ≤ nn ∧ j = .int .i64 jj ∧ ob = .bool b ∧ Hid (shdM us L i m jj = b) ∧ Hid (HasL wr w.heap.size [.int .i64 (n5 : Int), .slice q nn capq, .slice o xo.length capo]) ∧ Hid (Below w.heap.size w wr)) (fun _ j _ => nn - (intOf j).toNat)
                    case atStart => exact ⟨0, false, Nat.zero_le _, rfl, rfl, hid rfl, hkb3, hb3⟩
                    case round =>
                      obtain ⟨j, b, hj, rfl, rfl, hbb, hkb4, hb4⟩ := hrel
                      obtain ⟨w4, rfl⟩ : ∃ w4 : World, w4 = wr := ⟨_, rfl⟩
                      clear hkb3 hb3
                      obtain ⟨q0, q1, q2, _, _, _, q6⟩ := hkb4.out.three
                      by_cases hlj : j < nn
                      · have hlj' : (j : Int) < (nn : Int) := by omega
                        have h0j : (0 : Int) ≤ (j : Int) := by omega
                        cases b with
                        | true =>
                          have HN := hid (show shdM us L i m (j + 1) = true by rw [shdM_step, hbb.out]; rfl)
                          go_wp2
                          go_roundw
                          case rel => exact ⟨j + 1, true, by omega, by go_num, rfl, HN, hkb4, hb4⟩
                          case measure => simp [intOf]; omega
                        | false =>
                          have d3 := bc_cell (HL.out.under hb4.out HL.out.1) j (by rw [HLL.out, HNN.out]; exact hlj)
                          cases hlj2 : lv L j with
                          | false =>
                            have HN := hid (show shdM us L i m (j + 1) = false by rw [shdM_step, hbb.out, hlj2]; rfl)
                            rw [hlj2] at d3
                            clear hlj2
                            go_wp2
                            go_roundw
                            case rel => exact ⟨j + 1, false, by omega, by go_num, rfl, HN, hkb4, hb4⟩
                            case measure => simp [intOf]; omega
                          | true =>
                            rw [hlj2] at d3
                            by_cases hji : j = i
                            · have HN := hid (show shdM us L i m (j + 1) = false by rw [shdM_step, hbb.out, hlj2, decide_eq_false (by simp [hji])]; rfl)
                              have t2 : ((j : Int) != (i : Int)) = false := by simp [hji]
                              clear hji hlj2
                              go_wp2
                              go_roundw
                              case rel => exact ⟨j + 1, false, by omega, by go_num, rfl, HN, hkb4, hb4⟩
                              case measure => simp [intOf]; omega
                            · have t2 : ((j : Int) != (i : Int)) = true := by simp; omega
                              have hjl : j < us.length := by rw [HNN.out]; exact hlj
                              obtain ⟨bj, offj, aj, capj, he, _, hbB, c0, c1, rx⟩ := atoms_at (HQE.out.grow good_atom hb4.out hh) j hjl
                              subst he
                              have D := hid (C.out w4 j hjl m _ rx hb4.out)
                              obtain ⟨bb, hbb2⟩ : ∃ z, decide ((m : Int) ∈ us[j].2) = z := ⟨_, rfl⟩
                              rw [hbb2] at D
                              have HN := hid (show shdM us L i m (j + 1) = bb by rw [shdM_step, hbb.out, hlj2, decide_eq_true hji, mv_at hjl]; exact hbb2)
                              clear rx hji hlj2 hbb2
                              go_wp2_with fail
                              with_reducible refine D.out.mono ?_
                              rintro e w5 ⟨rfl, hb5⟩
                              have HB5 := hid (hb4.out.trans (hb5.mono hb4.out.size))
                              have HK5 := hid (hkb4.out.below hb5)
                              clear q0 q1 q2 q6 c0 c1 d3 hb5
                              go_wp2
                              go_roundw
                              case rel => exact ⟨j + 1, bb, by omega, by go_num, rfl, HN, HK5, HB5⟩
                              case measure => simp [intOf]; omega
                      · have hlj' : ¬ (j : Int) < (nn : Int) := by omega
                        have e : j = us.length := by rw [HNN.out]; omega
                        have HSH := hid (show shd us L i m = b by rw [← hbb.out, e]; rfl)
                        have hil : i < us.length := by rw [HNN.out]; exact hlt
                        have hkl : k < us.length := by rw [HNN.out]; exact hlk
                        clear e hbb
                        cases fb with
                        | false =>
                          have HN := hid (show fitM us L i k (m + 1) = false by rw [fitM_step, hfb.out]; rfl)
                          go_wp2
                          go_roundw
                          case rel => exact ⟨m + 1, false, by omega, by go_num, rfl, HN, hkb4, hb4⟩
                          case measure => simp [intOf]; omega
                        | true =>
                          obtain ⟨bi, offi, ai, capi, he, _, hbB, c0, c1, rx⟩ := atoms_at (HQE.out.grow good_atom hb4.out hh) i hil
                          subst he
                          have D := hid (C.out w4 i hil m _ rx hb4.out)
                          clear rx
                          cases hmi : decide ((m : Int) ∈ us[i].2) with
                          | false =>
                            have HN := hid (show fitM us L i k (m + 1) = true by rw [fitM_step, hfb.out, fitAt, mv_at hil]; unfold mem; rw [hmi]; rfl)
                            rw [hmi] at D
                            clear hmi
                            go_wp2_with fail
                            with_reducible refine D.out.mono ?_
                            rintro e w5 ⟨rfl, hb5⟩
                            have HB5 := hid (hb4.out.trans (hb5.mono hb4.out.size))
                            have HK5 := hid (hkb4.out.below hb5)
                            clear q0 q1 q2 q6 c0 c1 hb5
                            go_wp2
                            go_roundw
                            case rel => exact ⟨m + 1, true, by omega, by go_num, rfl, HN, HK5, HB5⟩
                            case measure => simp [intOf]; omega
                          | true =>
                            rw [hmi] at D
                            cases b with
                            | false =>
                              have HN := hid (show fitM us L i k (m + 1) = true by rw [fitM_step, hfb.out, fitAt, HSH.out]; simp)
                              clear hmi
                              go_wp2_with fail
                              with_reducible refine D.out.mono ?_
                              rintro e w5 ⟨rfl, hb5⟩
                              have HB5 := hid (hb4.out.trans (hb5.mono hb4.out.size))
                              have HK5 := hid (hkb4.out.below hb5)
                              clear q0 q1 q2 q6 c0 c1 hb5
                              go_wp2
                              go_roundw
                              case rel => exact ⟨m + 1, true, by omega, by go_num, rfl, HN, HK5, HB5⟩
                              case measure => simp [intOf]; omega
                            | true =>
                              obtain ⟨bb, hbb2⟩ : ∃ z, decide ((m : Int) ∈ us[k].2) = z := ⟨_, rfl⟩
                              have HN := hid (show fitM us L i k (m + 1) = bb by rw [fitM_step, hfb.out, fitAt, HSH.out, mv_at hil, mv_at hkl]; unfold mem; rw [hmi, hbb2]; simp)
                              have HBB := hid hbb2
                              clear hmi hbb2
                              go_wp2_with fail
                              with_reducible refine D.out.mono ?_
                              rintro e w5 ⟨rfl, hb5⟩
                              have HB5 := hid (hb4.out.trans (hb5.mono hb4.out.size))
                              have HK5 := hid (hkb4.out.below hb5)
                              clear q0 q1 q2 q6 c0 c1 hb5
                              obtain ⟨q0, q1, q2, _, _, _, q6⟩ := HK5.out.three
                              obtain ⟨bk, offk, ak, capk, he, _, hbB2, c2, c3, rx⟩ := atoms_at (HQE.out.grow good_atom HB5.out hh) k hkl
                              simp only [Option.some.injEq, Addr.mk.injEq, and_true] at he
                              obtain ⟨rfl, rfl⟩ := he
                              have D2 := hid (C.out w5 k hkl m _ rx HB5.out)
                              rw [HBB.out] at D2
                              clear rx
                              go_wp2_with fail
                              with_reducible refine D2.out.mono ?_
                              rintro e w6 ⟨rfl, hb6⟩
                              have HB6 := hid (HB5.out.trans (hb6.mono HB5.out.size))
                              have HK6 := hid (HK5.out.below hb6)
                              clear q0 q1 q2 q6 c2 c3 hb6
                              go_wp2
                              go_roundw
                              case rel => exact ⟨m + 1, bb, by omega, by go_num, rfl, HN, HK6, HB6⟩
                              case measure => simp [intOf]; omega
                  · have hlm' : ¬ (m : Int) < (n5 : Int) := by omega
                    have hil : i < us.length := by rw [HNN.out]; exact hlt
                    have hkl : k < us.length := by rw [HNN.out]; exact hlk
                    have e : m = n5 := by omega
                    have HFT := hid (show fits us L i k = fb by
                      rw [← hfb.out, e]
                      have := fitM_cut (L := L) (k := k) HVA.out hil (5 - n5)
                      rw [show n5 + (5 - n5) = 5 by omega] at this
                      exact this)
                    have HOK := hid (show okE us L i k = fb by unfold okE; rw [HLI.out, HLK.out, decide_eq_true (show i ≠ k from HIK.out), HFT.out]; rfl)
                    clear e hfb
                    cases fb with
                    | true =>
                      have HE := hid (show ear us L = some i ∧ earK us L i = some k from by
                        have e1 : earK us L i = some k := find_some hkl HOK.out hno2.out
                        exact ⟨find_some hil (by rw [e1]; rfl) (fun j hj => by rw [earK_none (hno.out j hj)]; rfl), e1⟩)
                      go_wp2
                      go_ret2
                      exact ⟨.inl ⟨i, k, HE.out.1, HE.out.2, rfl⟩, hb3.out⟩
                    | false =>
                      have HN := hid (show ∀ k', k' < k + 1 → okE us L i k' = false from fun k' hk' => by
                        by_cases e : k' = k
                        · subst e; exact HOK.out
                        · exact hno2.out k' (by omega))
                      go_wp2
                      go_roundw
                      case rel => exact ⟨k + 1, by omega, by go_num, HN, hkb3, hb3⟩
                      case measure => simp [intOf]; omega
        · have hlk' : ¬ (k : Int) < (nn : Int) := by omega
          have HN := hid (show ∀ i', i' < i + 1 → ∀ k', k' < us.length → okE us L i' k' = false from fun i' hi' k' hk' => by
            by_cases e : i' = i
            · subst e; exact hno2.out k' (by rw [HNN.out] at hk'; omega)
            · exact hno.out i' (by omega) k' hk')
          obtain ⟨q0, q1, q2, _, _, _, q6⟩ := hkb.out.three
          go_wp2
          go_roundw
          case rel => exact ⟨i + 1, by omega, by go_num, HN, hkb, hb2⟩
          case measure => simp [intOf]; omega
    · have hlt' : ¬ (i : Int) < (nn : Int) := by omega
      have HE := hid (show ear us L = none from find_none (fun i' hi' => by rw [earK_none (hno.out i' (by rw [HNN.out] at hi'; omega))]; rfl))
      obtain ⟨q0, q1, q2, _, _, _, q6⟩ := hk.out.three
      go_wp2
      go_ret2
      exact ⟨.inr ⟨HE.out, rfl⟩, hb.out⟩
end Go.Proofs.Ytaeeogighoobdaa.GyoS
