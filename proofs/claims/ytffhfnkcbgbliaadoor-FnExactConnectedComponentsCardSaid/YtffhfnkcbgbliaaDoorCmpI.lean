/- The connected components of a query: the program's functions (impl.connectedVariables, impl.ConnectedComponents). -/
import Derived.Test.YtffhfnkcbgbliaaDoorCmpP
import Derived.Test.YtffhfnkcbgbliaaDoorNbr
import Derived.Test.YtffhfnkcbgbliaaDoorRelKit
import Derived.Test.YtffhfnkcbgbliaaDoorGridHead
namespace Go.Proofs.YtffhfnkcbgbliaaDoor.CmpI
open Go.RowKit
open Go.Proofs.YtffhfnkcbgbliaaDoor.Num Go.Proofs.YtffhfnkcbgbliaaDoor.IntRow Go.Proofs.YtffhfnkcbgbliaaDoor.IntLaw Go.Proofs.YtffhfnkcbgbliaaDoor.Grid Go.Proofs.YtffhfnkcbgbliaaDoor.GridMore Go.Proofs.YtffhfnkcbgbliaaDoor.GridLaw Go.Proofs.YtffhfnkcbgbliaaDoor.GridLaw2 Go.Proofs.YtffhfnkcbgbliaaDoor.GridApp Go.Proofs.YtffhfnkcbgbliaaDoor.GridHead Go.Proofs.YtffhfnkcbgbliaaDoor.RelKit Go.Proofs.YtffhfnkcbgbliaaDoor.Rdr Go.Proofs.YtffhfnkcbgbliaaDoor.Dat Go.Proofs.YtffhfnkcbgbliaaDoor.HasL Go.Proofs.YtffhfnkcbgbliaaDoor.VarName Go.Proofs.YtffhfnkcbgbliaaDoor.VarIn Go.Proofs.YtffhfnkcbgbliaaDoor.QryP Go.Proofs.YtffhfnkcbgbliaaDoor.QryVI Go.Proofs.YtffhfnkcbgbliaaDoor.QryVS Go.Proofs.YtffhfnkcbgbliaaDoor.SetV Go.Proofs.YtffhfnkcbgbliaaDoor.SetI Go.Proofs.YtffhfnkcbgbliaaDoor.SetA Go.Proofs.YtffhfnkcbgbliaaDoor.Nbr Go.Proofs.YtffhfnkcbgbliaaDoor.CmpP
set_option linter.unusedVariables false

/-! ### the graph of a query -/
def adj (us : List AtomD) : Adj := fun v w => nbP us (v : Int) w
theorem adj_iff {us : List AtomD} {v w : Nat} : adj us v w = true ↔ w ≠ v ∧ ∃ a ∈ us, (v : Int) ∈ a.2 ∧ (w : Int) ∈ a.2 := by
  unfold adj nbP
  rw [List.any_eq_true]
  constructor
  · rintro ⟨a, ha, h⟩
    simp only [hit, Bool.and_eq_true, decide_eq_true_eq] at h
    exact ⟨by omega, a, ha, h.2.1, h.2.2⟩
  · rintro ⟨h1, a, ha, h2, h3⟩
    refine ⟨a, ha, ?_⟩
    simp only [hit, Bool.and_eq_true, decide_eq_true_eq]
    exact ⟨by omega, h2, h3⟩
theorem adj_gph {us : List AtomD} {n : Nat} (h : ∀ a ∈ us, ∀ z ∈ a.2, 0 ≤ z ∧ z < (n : Int)) : Gph (adj us) n where
  sym u v := by
    cases h1 : adj us u v with
    | true =>
      obtain ⟨k1, a, ha, k2, k3⟩ := adj_iff.1 h1
      exact (adj_iff.2 ⟨Ne.symm k1, a, ha, k3, k2⟩).symm
    | false =>
      cases h2 : adj us v u with
      | false => rfl
      | true =>
        obtain ⟨k1, a, ha, k2, k3⟩ := adj_iff.1 h2
        rw [adj_iff.2 ⟨Ne.symm k1, a, ha, k3, k2⟩] at h1
        cases h1
  irr v := by
    cases h1 : adj us v v with
    | false => rfl
    | true => exact absurd rfl (adj_iff.1 h1).1
  out u v hv := nbP_far h hv
noncomputable def ccs (x : QueryD) : List (List Int) := if vq x = true then cps (adj x.2.1) x.1.toNat else []
theorem ccs_no {x : QueryD} (h : vq x = false) : ccs x = [] := if_neg (by rw [h]; decide)
theorem ccs_yes {x : QueryD} {n : Nat} (h : vq x = true) (hn : x.1 = (n : Int)) : ccs x = cps (adj x.2.1) n := by rw [ccs, if_pos h, hn]; rfl
theorem cps_tot (A : Adj) (k : Nat) : tot (cps A k) ≤ 6 * k := by
  induction k with
  | zero => simp [cps, tot]
  | succ k ih =>
    rw [cps]
    by_cases h : leastB A k = true
    · rw [if_pos h]
      have h5 := fl_len (rchB A k) 5
      have e : tot (cps A k ++ [fl (rchB A k) 5]) = tot (cps A k) + (1 + (fl (rchB A k) 5).length) := by
        unfold tot
        simp
        omega
      omega
    · rw [if_neg h]; omega
theorem ccs_tot (x : QueryD) : tot (ccs x) ≤ 1048576 := by
  cases h : vq x with
  | false => rw [ccs_no h]; decide
  | true =>
    obtain ⟨n, hn, _, h5, _⟩ := vq_vars h
    rw [ccs_yes h hn]
    have := cps_tot (adj x.2.1) n
    omega

/-! ### impl.connectedVariables -/
theorem nb_self {us : List AtomD} {s v : Nat} (h : s.testBit v = true) : nb us s v = true := by unfold nb; rw [h, Bool.true_or]
theorem nb_reach {us : List AtomD} {s w : Nat} (h : nb us s w = true) : s.testBit w = true ∨ ∃ u, u < 5 ∧ s.testBit u = true ∧ adj us u w = true := by
  unfold nb at h
  rw [Bool.or_eq_true] at h
  rcases h with h | h
  · exact .inl h
  · obtain ⟨a, ha, h2⟩ := List.any_eq_true.1 h
    rw [Bool.and_eq_true] at h2
    obtain ⟨h3, h4⟩ := h2
    unfold meets at h3
    obtain ⟨u, hu, h5⟩ := List.any_eq_true.1 h3
    rw [Bool.and_eq_true] at h5
    have hu5 : u < 5 := List.mem_range.1 hu
    have h6 : (u : Int) ∈ a.2 := of_decide_eq_true h5.2
    have h7 : (w : Int) ∈ a.2 := of_decide_eq_true h4
    by_cases e : w = u
    · subst e; exact .inl h5.1
    · exact .inr ⟨u, hu5, h5.1, adj_iff.2 ⟨e, a, ha, h6, h7⟩⟩
theorem nb_edge {us : List AtomD} {s u w : Nat} (hu : u < 5) (hs : s.testBit u = true) (h : adj us u w = true) : nb us s w = true := by
  obtain ⟨_, a, ha, h1, h2⟩ := adj_iff.1 h
  unfold nb
  rw [Bool.or_eq_true]
  refine .inr (List.any_eq_true.2 ⟨a, ha, ?_⟩)
  rw [Bool.and_eq_true]
  refine ⟨List.any_eq_true.2 ⟨u, List.mem_range.2 hu, ?_⟩, decide_eq_true h2⟩
  rw [Bool.and_eq_true]
  exact ⟨hs, decide_eq_true h1⟩
theorem sub_le {s m : Nat} (hs : s < 32) (hm : m < 32) (h : ∀ v, v < 5 → s.testBit v = true → m.testBit v = true) : s ≤ m := by
  have e : s &&& m = s := is_eq (is_and (is_self hs) (is_self hm)) (is_self hs) (fun v hv => by
    cases h1 : s.testBit v with
    | false => rfl
    | true => rw [h v hv h1]; rfl)
  rw [← e]
  exact Nat.and_le_right
/-- What the loop over growing sets knows. -/
structure Cn (us : List AtomD) (v s m : Nat) : Prop where
  lt : s < 32
  is : Is m (nb us s)
  has : s.testBit v = true
  rch : ∀ w, w < 5 → s.testBit w = true → Rch (adj us) v w
theorem Cn.start {us : List AtomD} {v m : Nat} (hv : v < 5) (h : Is m (nb us (2 ^ v))) : Cn us v (2 ^ v) m where
  lt := (is_one hv).1
  is := h
  has := by rw [(is_one hv).2 v hv]; exact decide_eq_true rfl
  rch w hw hb := by
    rw [(is_one hv).2 w hw] at hb
    have : v = w := of_decide_eq_true hb
    subst this
    exact .refl _
theorem Cn.le {us : List AtomD} {v s m : Nat} (h : Cn us v s m) : s ≤ m := sub_le h.lt h.is.1 (fun w hw hb => by rw [h.is.2 w hw]; exact nb_self hb)
theorem Cn.next {us : List AtomD} {v s m m' : Nat} (h : Cn us v s m) (hv : v < 5) (k : Is m' (nb us m)) : Cn us v m m' where
  lt := h.is.1
  is := k
  has := by rw [h.is.2 v hv]; exact nb_self h.has
  rch w hw hb := by
    rw [h.is.2 w hw] at hb
    rcases nb_reach hb with h1 | ⟨u, hu, h1, h2⟩
    · exact h.rch w hw h1
    · exact .step (h.rch u hu h1) h2
theorem Cn.done {us : List AtomD} {n v s : Nat} (hA : Gph (adj us) n) (hn : n ≤ 5) (hv : v < n) (h : Cn us v s s) : Is s (rchB (adj us) v) :=
  closed_is h.lt h.has h.rch (fun u w hu hw h1 h2 => by rw [h.is.2 w hw]; exact nb_edge hu h1 h2) (fun w hw => Nat.lt_of_lt_of_le (hw.lt hA hv) hn)

def val64 : Value → Nat
  | .int _ n => n.toNat
  | _ => 0
set_option maxRecDepth 100000 in
theorem impl_conn (a : Option Addr) (cap : Nat) (us : List AtomD) (n v lo hi : Nat) (w : World) (hs : tots szA us ≤ 1048576) (hA : Gph (adj us) n) (hn : n ≤ 5) (hv : v < n) (h : Els 2 rAtom w lo hi a us) (hh : hi ≤ w.heap.size) :
    Calls Tryd.prog 48 #[.slice a us.length cap, .int .u64 ((2 ^ v : Nat) : Int)] w fun e w' => ∃ m : Nat, e = .returned (.int .u64 m) ∧ Is m (rchB (adj us) v) ∧ Below w.heap.size w w' := by
  have hv5 : v < 5 := by omega
  obtain ⟨s0, hs0⟩ : ∃ z, 2 ^ v = z := ⟨_, rfl⟩
  have h32 : s0 < 32 := by rw [← hs0]; exact (is_one hv5).1
  have WN := hid (fun s (hs5 : s < 32) W (hW : Below w.heap.size w W) => impl_with a cap us s lo hi W hs hs5 (h.grow good_atom hW hh) (Nat.le_trans hh hW.size))
  have HA := hid hA
  have HST := hid (fun m (hm : Is m (nb us s0)) => show Cn us v s0 m by subst hs0; exact Cn.start hv5 hm)
  rw [hs0]
  clear h hs hA hs0
  go_enter Tryd.func48, Tryd.ntmps48
  go_wp2_with fail
  with_reducible refine (WN.out s0 h32 w (Below.refl _ _)).mono ?_
  rintro e w1 ⟨m0, rfl, his0, hb0⟩
  have HC := hid (HST.out m0 his0)
  have HB0 := hid hb0
  clear his0 hb0
  go_wp2
  go_loopw [5, 6] (fun p q wr => ∃ s m : Nat, p = .int .u64 s ∧ q = .int .u64 m ∧ Hid (Cn us v s m) ∧ Hid (Below w.heap.size w wr)) (fun p _ _ => 32 - val64 p)
  case atStart => exact ⟨s0, m0, rfl, rfl, HC, HB0⟩
  case round =>
    obtain ⟨s, m, rfl, rfl, hc, hb⟩ := hrel
    have hm32 := hc.out.is.1
    have hs32 := hc.out.lt
    by_cases he : m = s
    · subst he
      have hne : ((m : Int) != (m : Int)) = false := by simp
      have HD := hid (Cn.done HA.out hn hv hc.out)
      go_wp2
      go_ret
      exact ⟨m, rfl, HD.out, hb.out⟩
    · have hne : ((m : Int) != (s : Int)) = true := by simp; omega
      have hle := hc.out.le
      have HL := hid (show s < m by omega)
      clear he hle
      go_wp2_with fail
      with_reducible refine (WN.out m hm32 wr hb.out).mono ?_
      rintro e w2 ⟨m2, rfl, his2, hb2⟩
      have HN := hid (hc.out.next hv5 his2)
      have HB2 := hid (hb.out.trans (hb2.mono hb.out.size))
      clear his2 hb2 hc
      go_wp2
      go_roundw
      case rel => exact ⟨m, m2, rfl, rfl, HN, HB2⟩
      case measure =>
        have := HL.out
        simp [val64]
        omega

set_option maxRecDepth 100000 in
set_option maxHeartbeats 2000000 in
theorem impl_cc (cs : List Value) (x : QueryD) (lo hi : Nat) (w : World) (hs : szQ x ≤ 1048576) (h : rQuery w lo hi cs x) (hh : hi ≤ w.heap.size) (hT : Tab w) :
    Calls Tryd.prog 19 #[.agg cs.toArray] w fun e w' => ∃ a cap vs, e = .returned (.slice a (ccs x).length cap) ∧ GOwn w' w.heap.size eR eI (.slice a (ccs x).length cap) vs (ccs x) ∧ Below w.heap.size w w' := by
  obtain ⟨i1, hj, hy0, hy1, hy2⟩ := info_parts GridLaw.info
  obtain ⟨q, capq, o, capo, hcs, _, _, hqe, _⟩ := query_open h
  subst hcs
  have K := hid (hasl_new w [.int .i64 x.1, .slice q x.2.1.length capq, .slice o x.2.2.length capo] 48)
  have B1 := hid ((Below.refl w.heap.size w).alloc (Nat.le_refl _) (.cells #[.int .i64 x.1, .slice q x.2.1.length capq, .slice o x.2.2.length capo] 48))
  have hts : tots szA x.2.1 ≤ 1048576 := by unfold szQ at hs; omega
  obtain ⟨qv, hqv⟩ : ∃ z, vq x = z := ⟨_, rfl⟩
  have VQ := hid (fun W (hW : Below w.heap.size w W) => by
    have := impl_vq _ x lo hi W hs (good_query.keep h (sm_below hW hh)) (Nat.le_trans hh hW.size)
    rw [hqv] at this
    exact this)
  have HT := hid hT
  have HQE := hid hqe
  have HQV := hid hqv
  clear h hqe hs hT hqv
  go_enter Tryd.func19, Tryd.ntmps19
  obtain ⟨q0, q1, q2, _, _, _, q6⟩ := K.out.three
  go_wp2_with fail
  with_reducible refine (VQ.out _ B1.out).mono ?_
  rintro e w1 ⟨rfl, hb1⟩
  have HB := hid (B1.out.trans (hb1.mono B1.out.size))
  have KB := hid (K.out.below hb1)
  clear hb1 q0 q1 q2 q6
  cases qv with
  | false =>
    have HF := hid (ccs_no HQV.out)
    go_wp2
    go_ret
    refine ⟨none, 0, [], by rw [HF.out]; rfl, ?_, HB.out⟩
    rw [HF.out]
    exact GOwn.nil _ _ _ _
  | true =>
    obtain ⟨n, hn, hn1, hn5, hva⟩ := vq_vars HQV.out
    have HA := hid (adj_gph hva)
    have HF := hid (ccs_yes HQV.out hn)
    have hcl := cps_len (adj x.2.1)
    rw [hn] at KB
    obtain ⟨q0, q1, q2, _, _, _, q6⟩ := KB.out.three
    have HCL := hid (fun k => (hcl k).1)
    have CO := hid (fun k (hk : k < n) W (hW : Below w.heap.size w W) => impl_conn q capq x.2.1 n k lo hi W hts HA.out hn5 hk (HQE.out.grow good_atom hW hh) (Nat.le_trans hh hW.size))
    clear hn hva hcl
    go_wp2
    go_loopw [3, 4, 5, 6, 7, 13] (fun s3 f _ _ _ i wr => ∃ (k m : Nat) (v : Value) (vs : List Value), k ≤ n ∧ i = .int .i64 k ∧ f = .int .u64 m ∧ v = s3 ∧ Hid (Is m (fnd (adj x.2.1) k)) ∧ Hid (HasL wr w.heap.size [.int .i64 (n : Int), .slice q x.2.1.length capq, .slice o x.2.2.length capo]) ∧ Hid (GOwn wr (w.heap.size + 1) eR eI v vs (cps (adj x.2.1) k)) ∧ Hid (Below w.heap.size w wr)) (fun _ _ _ _ _ i _ => n - (intOf i).toNat)
    case atStart => exact ⟨0, 0, _, [], Nat.zero_le _, rfl, rfl, rfl, hid (is_congr is_zero (fun v _ => (fnd_zero v).symm)), KB, hid (GOwn.nil _ _ _ _), HB⟩
    case round =>
      obtain ⟨k, m, v, vs, hk, rfl, rfl, rfl, his, kb, hown, hb⟩ := hrel
      clear q0 q1 q2 q6
      obtain ⟨q0, q1, q2, _, _, _, q6⟩ := kb.out.three
      have hsz := hb.out.size
      have hm32 := his.out.1
      by_cases hlt : k < n
      · have hlt' : (k : Int) < (n : Int) := by omega
        have hk5 : k < 5 := by omega
        have hcon := CO.out k hlt
        obtain ⟨s, hse⟩ : ∃ z, 2 ^ k = z := ⟨_, rfl⟩
        have D := hid (fun W => impl_single k W hk5)
        have hs32 : s < 32 := by rw [← hse]; exact (is_one hk5).1
        obtain ⟨b, hbv⟩ : ∃ z, fnd (adj x.2.1) k k = z := ⟨_, rfl⟩
        have hmb : decide (s &&& m ≠ 0) = b := by
          have hi2 := is_and (is_one hk5) his.out
          rw [hse] at hi2
          cases b with
          | true => exact decide_eq_true (is_some hi2 hk5 (by simp [hbv]))
          | false =>
            refine decide_eq_false (fun hne => hne (is_none hi2 (fun u hu => ?_)))
            by_cases e : k = u
            · subst e; simp [hbv]
            · simp [e]
        have M := hid (fun W => impl_meets s m b W hs32 hm32 hmb)
        have CC := hid hcon
        have HLB := hid (least_new HA.out (k := k))
        rw [hse] at D CC
        rw [hbv] at HLB
        have HBV := hid hbv
        clear hmb hcon hse hbv
        cases b with
        | true =>
          have HE := hid (show cps (adj x.2.1) (k + 1) = cps (adj x.2.1) k by rw [cps, if_neg (by rw [HLB.out]; decide)])
          have HI := hid (is_congr his.out (fun u _ => (fnd_old HA.out HBV.out (w := u)).symm))
          have HO := hid (show GOwn wr (w.heap.size + 1) eR eI v vs (cps (adj x.2.1) (k + 1)) by rw [HE.out]; exact hown.out)
          clear hown
          go_wp2_with fail
          with_reducible refine (D.out _).mono ?_
          rintro e w2 ⟨rfl, rfl⟩
          go_wp2_with fail
          with_reducible refine (M.out _).mono ?_
          rintro e w3 ⟨rfl, rfl⟩
          go_wp2
          go_roundw
          case rel => exact ⟨k + 1, m, v, vs, by omega, by go_num, rfl, rfl, HI, kb, HO, hb⟩
          case measure => simp [intOf]; omega
        | false =>
          have HE := hid (show cps (adj x.2.1) (k + 1) = cps (adj x.2.1) k ++ [fl (rchB (adj x.2.1) k) 5] by rw [cps, if_pos (by rw [HLB.out]; rfl)])
          have hcl := HCL.out k
          go_wp2_with fail
          with_reducible refine (D.out _).mono ?_
          rintro e w2 ⟨rfl, rfl⟩
          go_wp2_with fail
          with_reducible refine (M.out _).mono ?_
          rintro e w3 ⟨rfl, rfl⟩
          go_wp2_with fail
          with_reducible refine (CC.out _ hb.out).mono ?_
          rintro e w4 ⟨p, rfl, hip, hb4⟩
          have hs4 := hb4.size
          have HIP := hid hip
          have HB4 := hid (hb.out.trans (hb4.mono hsz))
          have KB4 := hid (kb.out.below hb4)
          have HO4 := hid (hown.out.below' hb4)
          have L := hid (listM p _ w4 hip (HT.out.below HB4.out))
          have hp32 := hip.1
          have HW := hid (fun u (hu : u ∈ vs) => (rws_of HO4.out).lt hu)
          clear hip hb4 q0 q1 q2 hown kb hb
          go_wp2_with fail
          with_reducible refine L.out.mono ?_
          rintro e w5 ⟨al, capl, rfl, hu, hb5⟩
          have hs5 := hb5.size
          have HU := hid hu
          have HB5 := hid (HB4.out.trans (hb5.mono (by omega)))
          have KB5 := hid (KB4.out.below hb5)
          have HO5 := hid (HO4.out.below' hb5)
          have hfar := hid (show ∀ u' ∈ vs, Far (.slice al (fl (rchB (adj x.2.1) k) 5).length capl) u' from fun u' hu2 q hq hq2 => by have t1 := (HU.out.lt q hq).1; have t2 := (HW.out u' hu2 q hq2).2; omega)
          clear hu hb5 L HO4 HB4 KB4
          go_wp2_with (at_builtin; refine wpList_head rfl _ _ 23 rfl eR eI eRI i1 Tryd.underlying23 hj hy0 hy1 hy2 w5 (w.heap.size + 1) v (.slice al (fl (rchB (adj x.2.1) k) 5).length capl) vs (cps (adj x.2.1) k) (fl (rchB (adj x.2.1) k) 5) rfl HO5.out (HU.out.mono (by omega)) hfar.out rfl (by omega) (by omega) ?_; intro v' w6 hg2 hgr2 hs6; have hg2' := hid hg2; have hgr2' := hid hgr2; clear hg2 hgr2)
          have HV := hid HO5.out.lt
          have KB6 := hid (show HasL w6 w.heap.size [.int .i64 (n : Int), .slice q x.2.1.length capq, .slice o x.2.2.length capo] from KB5.out.under (B := w.heap.size + 1) ((Below.refl _ w5).grown hgr2'.out (by omega) (fun q hq => by have t1 := (HV.out q hq).1; omega)) (by omega))
          have HB6 := hid (HB5.out.grown hgr2'.out (by omega) (fun q hq => by have t1 := (HV.out q hq).1; omega))
          have r5 := hg2'.out
          rw [← HE.out] at r5
          have HO6 := hid r5
          obtain ⟨r, hr⟩ : ∃ z, m ||| p = z := ⟨_, rfl⟩
          have e2 : bits .or .u64 (m : Int) (p : Int) = (r : Int) := by rw [← hr]; exact u_or hm32 hp32
          have HI := hid (is_congr (is_or his.out HIP.out) (fun u _ => (fnd_new (k := k) (w := u)).symm))
          rw [hr] at HI
          clear r5 hg2' hgr2' HO5 HU HW HV hr KB5 HB5
          go_wp2
          go_roundw
          case rel => exact ⟨k + 1, r, _, _, by omega, by go_num, by first | rfl | rw [e2], rfl, HI, KB6, HO6, HB6⟩
          case measure => simp [intOf]; omega
      · have e : k = n := by omega
        subst e
        obtain ⟨av, capv, hvf, _, _, _⟩ := hown.out.form
        subst hvf
        have HO := hid (hown.out.mono (show w.heap.size ≤ w.heap.size + 1 by omega))
        clear hown
        go_wp2
        go_ret
        refine ⟨av, capv, vs, by rw [HF.out]; rfl, ?_, hb.out⟩
        rw [HF.out]
        exact HO.out
end Go.Proofs.YtffhfnkcbgbliaaDoor.CmpI
