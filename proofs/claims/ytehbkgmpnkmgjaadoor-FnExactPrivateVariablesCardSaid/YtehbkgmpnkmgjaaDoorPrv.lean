/- The private variables of an atom: the model's function and the program's (over slices.Concat). -/
import Derived.Test.YtehbkgmpnkmgjaaDoorNbr
import Derived.Test.YtehbkgmpnkmgjaaDoorVDeg
import Derived.Test.YtehbkgmpnkmgjaaDoorCatAtom
import Derived.Test.YtehbkgmpnkmgjaaDoorCatE
namespace Go.Proofs.YtehbkgmpnkmgjaaDoor.Prv
open Go.RowKit
open Go.Proofs.YtehbkgmpnkmgjaaDoor.Num Go.Proofs.YtehbkgmpnkmgjaaDoor.IntRow Go.Proofs.YtehbkgmpnkmgjaaDoor.IntLaw Go.Proofs.YtehbkgmpnkmgjaaDoor.Rdr Go.Proofs.YtehbkgmpnkmgjaaDoor.Dat Go.Proofs.YtehbkgmpnkmgjaaDoor.HasL Go.Proofs.YtehbkgmpnkmgjaaDoor.VarName Go.Proofs.YtehbkgmpnkmgjaaDoor.VarIn Go.Proofs.YtehbkgmpnkmgjaaDoor.QryP Go.Proofs.YtehbkgmpnkmgjaaDoor.QryVI Go.Proofs.YtehbkgmpnkmgjaaDoor.QryVS Go.Proofs.YtehbkgmpnkmgjaaDoor.SetV Go.Proofs.YtehbkgmpnkmgjaaDoor.SetI Go.Proofs.YtehbkgmpnkmgjaaDoor.AtmVars Go.Proofs.YtehbkgmpnkmgjaaDoor.SetA Go.Proofs.YtehbkgmpnkmgjaaDoor.Nbr Go.Proofs.YtehbkgmpnkmgjaaDoor.VDeg Go.Proofs.YtehbkgmpnkmgjaaDoor.Apnd Go.Proofs.YtehbkgmpnkmgjaaDoor.CatE Go.Proofs.YtehbkgmpnkmgjaaDoor.CatAtom Go.Proofs.YtehbkgmpnkmgjaaDoor.LawKit Go.Proofs.YtehbkgmpnkmgjaaDoor.Keep Go.Proofs.YtehbkgmpnkmgjaaDoor.Kept
set_option linter.unusedVariables false

/-- The variable occurs in atom k and in no other. -/
def own1 (us : List AtomD) (k v : Nat) : Bool := match us[k]? with
  | some a => mem a.2 v && decide (dg us (v : Int) us.length = 1)
  | none => false
theorem own1_at {us : List AtomD} {k v : Nat} (h : k < us.length) : own1 us k v = (mem us[k].2 v && decide (dg us (v : Int) us.length = 1)) := by
  rw [own1, List.getElem?_eq_getElem h]
def prv (x : QueryD) (k : Int) : List Int := if vq x = true ∧ inR k 0 ((x.2.1.length : Int) - 1) = true then fl (own1 x.2.1 k.toNat) x.1.toNat else []
theorem prv_no {x : QueryD} {k : Int} (h : vq x = false ∨ inR k 0 ((x.2.1.length : Int) - 1) = false) : prv x k = [] := if_neg (by
  rintro ⟨h1, h2⟩
  rcases h with h | h
  · rw [h] at h1; cases h1
  · rw [h] at h2; cases h2)
theorem prv_yes {x : QueryD} {n k : Nat} (h : vq x = true) (hn : x.1 = (n : Int)) (hk : k < x.2.1.length) : prv x (k : Int) = fl (own1 x.2.1 k) n := by
  rw [prv, if_pos ⟨h, inR_yes (by omega) (by omega)⟩, hn]
  rfl
theorem prv_len (x : QueryD) (k : Int) : (prv x k).length ≤ 5 := by
  unfold prv
  split
  · rename_i h
    obtain ⟨n, hn, _, h5, _⟩ := vq_vars h.1
    have := fl_len (own1 x.2.1 k.toNat) x.1.toNat
    omega
  · simp
def others (us : List AtomD) (k : Nat) : List AtomD := us.take k ++ us.drop (k + 1)
theorem own1_others {us : List AtomD} {k v : Nat} (h : k < us.length) : (mem us[k].2 v && !(others us k).any fun a => mem a.2 v) = own1 us k v := by
  rw [own1_at h]
  cases hm : mem us[k].2 v with
  | false => rfl
  | true =>
    rw [Bool.true_and, Bool.true_and]
    have e1 : us = us.take k ++ us[k] :: us.drop (k + 1) := by
      rw [← List.drop_eq_getElem_cons h, List.take_append_drop]
    have e2 : dg us (v : Int) us.length = ((others us k).filter fun a => decide ((v : Int) ∈ a.2)).length + 1 := by
      unfold dg others
      rw [List.take_length]
      conv => lhs; rw [e1]
      have hm' : decide ((v : Int) ∈ us[k].2) = true := hm
      rw [List.filter_append, List.filter_cons, if_pos hm', List.filter_append, List.length_append, List.length_append, List.length_cons]
      omega
    rw [e2]
    cases ha : (others us k).any fun a => mem a.2 v with
    | false =>
      have : (others us k).filter (fun a => decide ((v : Int) ∈ a.2)) = [] := by
        rw [List.filter_eq_nil_iff]
        intro a hm2
        rw [List.any_eq_false] at ha
        exact ha a hm2
      rw [this]
      rfl
    | true =>
      rw [List.any_eq_true] at ha
      obtain ⟨a, h1, h2⟩ := ha
      have : 0 < ((others us k).filter fun a => decide ((v : Int) ∈ a.2)).length := List.length_pos_of_mem (List.mem_filter.2 ⟨h1, h2⟩)
      have h3 : ¬ (((others us k).filter fun a => decide ((v : Int) ∈ a.2)).length + 1 = 1) := by omega
      rw [decide_eq_false h3]; rfl

/-! ### variablesOfAtoms -/
def anyV (us : List AtomD) (v : Nat) : Bool := us.any fun a => mem a.2 v
set_option maxRecDepth 100000 in
theorem impl_atomsV (a : Option Addr) (cap : Nat) (us : List AtomD) (lo hi : Nat) (w : World) (hn1 : us.length ≤ 1048576) (hsz : ∀ j (h : j < us.length), us[j].2.length ≤ 1048576) (h : Els 2 rAtom w lo hi a us) (hh : hi ≤ w.heap.size) :
    Calls Tryd.prog 60 #[.slice a us.length cap] w fun e w' => ∃ m : Nat, e = .returned (.int .u64 m) ∧ Is m (anyV us) ∧ Below w.heap.size w w' := by
  have HG := hid h
  have HSA := hid hsz
  clear h hsz
  go_enter Tryd.func60, Tryd.ntmps60
  go_wp2
  go_loopw [3, 5, 8] (fun z _ i wr => ∃ k m : Nat, k ≤ us.length ∧ i = .int .i64 k ∧ z = .int .u64 m ∧ m < 32 ∧ Hid (Is m (anyV (us.take k))) ∧ Hid (Below w.heap.size w wr)) (fun _ _ i _ => us.length - (intOf i).toNat)
  case atStart => exact ⟨0, 0, Nat.zero_le _, rfl, rfl, by decide, hid (is_congr is_zero (fun v _ => by simp [anyV])), hid (Below.refl _ _)⟩
  case round =>
    obtain ⟨k, m, hk, rfl, rfl, hm, his, hb⟩ := hrel
    by_cases hlt : k < us.length
    · have hlt' : (k : Int) < (us.length : Int) := by omega
      have h0' : (0 : Int) ≤ (k : Int) := by omega
      obtain ⟨b, off, aj, capj, he, _, hbB, c0, c1, rx⟩ := atoms_at (HG.out.grow good_atom hb.out hh) k hlt
      subst he
      obtain ⟨_, _, hae, _, _, hr⟩ := atom_open rx
      simp only [List.cons.injEq, Value.slice.injEq, and_true, true_and] at hae
      obtain ⟨rfl, rfl⟩ := hae
      have hsz := hb.out.size
      have B2 := hid ((Below.refl wr.heap.size wr).alloc (Nat.le_refl _) (.cells #[.string us[k].1, .slice aj us[k].2.length capj] 46))
      have HB2 := hid (hb.out.trans (B2.out.mono hsz))
      obtain ⟨n, hn⟩ := ex_is (mem us[k].2)
      have C := hid (ofM aj capj hi us[k].2 n _ (HSA.out k hlt) ((rd_of hr).below (B2.out.mono (by omega))) hn)
      have HI := hid (show Is (m ||| n) (anyV (us.take (k + 1))) from is_congr (is_or his.out hn) (fun v _ => by unfold anyV; rw [any_step k hlt]))
      obtain ⟨p, hp⟩ : ∃ z, m ||| n = z := ⟨_, rfl⟩
      have e2 : bits .or .u64 (m : Int) (n : Int) = (p : Int) := by rw [← hp]; exact u_or hm hn.1
      rw [hp] at HI
      clear rx hr hn hp his
      go_wp2_with fail
      with_reducible refine C.out.mono ?_
      rintro e w2 ⟨rfl, rfl⟩
      clear c0 c1
      go_wp2
      go_roundw
      case rel => exact ⟨k + 1, p, by omega, by go_num, rfl, HI.out.1, HI, HB2⟩
      case measure => simp [intOf]; omega
    · have e : k = us.length := by omega
      subst e
      have HI := hid (show Is m (anyV us) by have := his.out; rw [List.take_length] at this; exact this)
      clear his
      go_wp2
      go_ret
      exact ⟨m, rfl, HI.out, hb.out⟩

/-! ### slices.Concat of two -/
theorem cat_two (a1 a2 : Option Addr) (n1 c1 n2 c2 B vb : Nat) (cs1 cs2 : List Value) (W : World) (K : HasL W vb [.slice a1 n1 c1, .slice a2 n2 c2]) (hB : B ≤ W.heap.size) (h1 : SrcOk 2 W B ⟨a1, n1, c1, cs1⟩) (h2 : SrcOk 2 W B ⟨a2, n2, c2, cs2⟩) (hn : n1 + n2 ≤ 4194304) :
    Calls Tryd.prog 59 #[.slice (some ⟨vb, 0, none⟩) 2 2] W fun e w' => ∃ v, e = .returned v ∧ w'.ownsRow W.heap.size 46 2 v (n1 + n2) (cs1 ++ cs2) ∧ Below W.heap.size W w' := by
  obtain ⟨k0, k1, _, _, kz⟩ := K.two
  have C := lib_concat vb 2 B [⟨a1, n1, c1, cs1⟩, ⟨a2, n2, c2, cs2⟩] W (fun j hj => by
      rcases (by simp at hj; omega : j = 0 ∨ j = 1) with rfl | rfl
      · exact k0
      · exact k1) kz hB (fun j hj => by
      rcases (by simp at hj; omega : j = 0 ∨ j = 1) with rfl | rfl
      · exact h1
      · exact h2) (by simp) (by simp [sumN]; omega)
  refine C.mono fun e w' ⟨v, he, ho, hb⟩ => ⟨v, he, ?_, hb⟩
  simpa [sumN, flat] using ho

def Pv (x : QueryD) (k : Int) (w : World) (e : Ending) (w' : World) : Prop := ∃ a cap, e = .returned (.slice a (prv x k).length cap) ∧ Own w' w.heap.size 3 (.slice a (prv x k).length cap) (prv x k) ∧ Below w.heap.size w w'

set_option maxRecDepth 100000 in
set_option maxHeartbeats 4000000 in
theorem impl_prv (cs : List Value) (x : QueryD) (v : Int) (lo hi : Nat) (w : World) (hs : szQ x ≤ 1048576) (h : rQuery w lo hi cs x) (hh : hi ≤ w.heap.size) (hT : Tab w) :
    Calls Tryd.prog 30 #[.agg cs.toArray, .int .i64 v] w (Pv x v w) := by
  have hcp := query_open h
  obtain ⟨q, capq, o, capo, hcs, _, _, hqe, _⟩ := hcp
  subst hcs
  have hcap := (query_cap h).1
  have K := hid (hasl_new w [.int .i64 x.1, .slice q x.2.1.length capq, .slice o x.2.2.length capo] 30)
  have B1 := hid ((Below.refl w.heap.size w).alloc (Nat.le_refl _) (.cells #[.int .i64 x.1, .slice q x.2.1.length capq, .slice o x.2.2.length capo] 30))
  have hn2 : x.2.1.length ≤ 1048576 := by have := tots_len szA x.2.1; unfold szQ at hs; omega
  have HSA := hid (fun j (hj : j < x.2.1.length) => show x.2.1[j].2.length ≤ 1048576 by have := elem_le szA x.2.1 j hj; unfold szA at this; unfold szQ szA at hs; omega)
  obtain ⟨qv, hqv⟩ : ∃ z, vq x = z := ⟨_, rfl⟩
  have VQ := hid (fun W (hW : Below w.heap.size w W) => by
    have := impl_vq _ x lo hi W hs (good_query.keep h (sm_below hW hh)) (Nat.le_trans hh hW.size)
    rw [hqv] at this
    exact this)
  have HT := hid hT
  have HQE := hid hqe
  have HQV := hid hqv
  clear h hqe hs hT hqv
  go_enter Tryd.func30, Tryd.ntmps30
  obtain ⟨q0, q1, q2, _, _, _, q6⟩ := K.out.three
  go_wp2_with fail
  with_reducible refine (VQ.out _ B1.out).mono ?_
  rintro e w1 ⟨rfl, hb1⟩
  have HB := hid (B1.out.trans (hb1.mono B1.out.size))
  have KB := hid (K.out.below hb1)
  clear hb1 q0 q1 q2 q6
  cases qv with
  | false =>
    have HF := hid (prv_no (k := v) (.inl HQV.out))
    go_wp2
    go_ret
    refine ⟨none, 0, by rw [HF.out]; rfl, ?_, HB.out⟩
    rw [HF.out]
    exact Own.nil _ _ _
  | true =>
    obtain ⟨n, hn, hn1, hn5, hva⟩ := vq_vars HQV.out
    have HVA := hid hva
    obtain ⟨q0, q1, q2, _, _, _, q6⟩ := KB.out.three
    by_cases hneg : v < 0
    · have HF := hid (prv_no (x := x) (k := v) (.inr (inR_no (.inl hneg))))
      go_wp2
      go_ret
      refine ⟨none, 0, by rw [HF.out]; rfl, ?_, HB.out⟩
      rw [HF.out]
      exact Own.nil _ _ _
    · by_cases hge : (x.2.1.length : Int) ≤ v
      · have HF := hid (prv_no (x := x) (k := v) (.inr (inR_no (.inr (by omega)))))
        go_wp2
        go_ret
        refine ⟨none, 0, by rw [HF.out]; rfl, ?_, HB.out⟩
        rw [HF.out]
        exact Own.nil _ _ _
      · obtain ⟨k, hk⟩ : ∃ k : Nat, v = (k : Int) := ⟨v.toNat, by omega⟩
        subst hk
        have hkl : k < x.2.1.length := by omega
        have HN := hid (show prv x (k : Int) = fl (own1 x.2.1 k) 5 by
          rw [prv_yes HQV.out hn hkl]
          obtain ⟨d, hd⟩ : ∃ d, 5 = n + d := ⟨5 - n, by omega⟩
          rw [hd, fl_cut d (fun u h1 _ => by
            rw [own1_at hkl]
            have : mem x.2.1[k].2 u = false := by
              unfold mem
              rw [decide_eq_false_iff_not]
              intro hm
              have := HVA.out _ (List.getElem_mem hkl) _ hm
              omega
            rw [this]; rfl)])
        obtain ⟨i0, hi0, hz0, hz1, hz2⟩ := info_parts CatAtom.info
        have hqw := HQE.out.grow good_atom HB.out hh
        obtain ⟨fs, qd, cd, hfl, hff, hfr, SU, SF, S1, S2⟩ := parts_k (P := Tryd.prog) (by decide) hqw (fun cs y hy => by
          obtain ⟨ay, cy, rfl, _⟩ := atom_open hy
          intro u hu
          rcases List.mem_cons.1 hu with rfl | hu
          · rfl
          · rcases List.mem_cons.1 hu with rfl | hu
            · rfl
            · cases hu) (by omega) Tryd.underlying28 hi0 hz1 capq k (k + 1) (by omega) (by omega) hcap
        obtain ⟨k1, hk1'⟩ : ∃ z, k + 1 = z := ⟨_, rfl⟩
        have e1 : IntKind.i64.wrap ((k : Int) + 1) = (k1 : Int) := by rw [show (k : Int) + 1 = (k1 : Int) by omega]; exact Num.wrap_small k1 (by omega)
        have e3 : IntKind.i64.wrap (k1 : Int) = (k1 : Int) := Num.wrap_small k1 (by omega)
        rw [hk1'] at SF S2
        have hfr2 : ∀ W, Below w1.heap.size w1 W → ∀ j (h1 : j < fs.length) (h2 : j < x.2.1.length), rAtom W lo hi fs[j] x.2.1[j] := fun W hW j h1 h2 => good_atom.keep (hfr j h1 h2) (sm_below hW (Nat.le_trans hh HB.out.size))
        have HFR := hid hfr2
        have HFF := hid hff
        have HFL := hid hfl
        have HS1 := hid S1
        have HS2 := hid S2
        obtain ⟨m2, hm2⟩ : ∃ z, x.2.1.length - k1 = z := ⟨_, rfl⟩
        rw [hm2] at SF HS2
        obtain ⟨cs1, hcs1⟩ : ∃ z, (fs.take k).flatten = z := ⟨_, rfl⟩
        obtain ⟨cs2, hcs2⟩ : ∃ z, (fs.drop k1).flatten = z := ⟨_, rfl⟩
        rw [hcs1] at HS1
        rw [hcs2] at HS2
        have HC := hid (show cs1 ++ cs2 = (fs.take k ++ fs.drop (k + 1)).flatten by rw [List.flatten_append, hk1', hcs1, hcs2])
        have hiw : hi ≤ w1.heap.size := Nat.le_trans hh HB.out.size
        have hlen : k + m2 = (others x.2.1 k).length := by unfold others; simp; omega
        have HLE := hid hlen
        have hkm : k + m2 ≤ 4194304 := by omega
        have hm2a : m2 ≤ 1048576 := by omega
        have h0' : (0 : Int) ≤ (k : Int) := by omega
        have hk1 : (k : Int) ≤ (x.2.1.length : Int) := by omega
        have hk2' : (k1 : Int) ≤ (x.2.1.length : Int) := by omega
        have hk3' : (0 : Int) ≤ (k1 : Int) := by omega
        have hkc : (k : Int) ≤ (capq : Int) := by omega
        clear hqw hfr hfr2 hff hfl S1 S2 hcs1 hcs2 hm2 hk1' hlen hva hn
        have hk2 := kp_refl w1
        go_upto_region 3 with fail
        go_cut [5] (fun s wx => wx.ownsRow w1.heap.size 46 2 s (k + m2) (cs1 ++ cs2) ∧ Kp w1 0 wx)
        case first =>
          go_region_held3 (fun w' => w'.cell? ⟨w.heap.size, 1, none⟩ = some (.slice q x.2.1.length capq) ∧ Kp w1 0 w')
            (first
              | (go_split_ands
                 repeat' apply And.intro
                 all_goals (first | (with_reducible assumption) | (with_reducible exact cell_drew (by assumption)) | (with_reducible exact Kp.drew (by assumption)) | (with_reducible exact Kp.cell (by assumption) hb1 (by omega) (by assumption)) | (with_reducible exact Kp.call (by assumption) hb1) | (with_reducible exact Kp.cell_alloc (by assumption) _ (by omega) (by assumption)) | (with_reducible exact Kp.alloc (by assumption) _) | (with_reducible exact Kp.cell_alloc_drew (by assumption) _ (by omega) (by assumption)) | (with_reducible exact Kp.alloc_drew (by assumption) _))))
            (first
              | (go_split_ands; go_at_call 59; (with_reducible refine (cat_two q qd k capq m2 cd hi _ cs1 cs2 _ (by first | (with_reducible exact hasl_new _ _ _) | (with_reducible exact (hasl_new _ _ _).drew)) (kp_le (by with_reducible assumption) hiw) (HS1.out.below ((Kp.bel (n := 0) (w := w1) (by with_reducible assumption)).mono hiw)) (HS2.out.below ((Kp.bel (n := 0) (w := w1) (by with_reducible assumption)).mono hiw)) hkm).mono ?_); rintro e wC ⟨vC, rfl, hown, hb1⟩; have HO := hid (row_le hown (Kp.bel (n := 0) (w := w1) (by with_reducible assumption)).size); clear hown) | fail)
          all_goals
            go_wp2_with fail
            go_meet
            go_split_ands
            exact ⟨HO.out, by with_reducible assumption⟩
        case rest =>
        obtain ⟨ho, hkp⟩ := hcut
        obtain ⟨w5, rfl⟩ : ∃ wo : World, wo = wc := ⟨_, rfl⟩
        have hb5 := hkp.bel
        have HB5 := hid (HB.out.trans (hb5.mono HB.out.size))
        have KB5 := hid (KB.out.below hb5)
        rw [HC.out] at ho
        have hir : ∀ j (h1 : j < (fs.take k ++ fs.drop (k + 1)).length) (h2 : j < (others x.2.1 k).length), rAtom w5 0 w5.heap.size (fs.take k ++ fs.drop (k + 1))[j] (others x.2.1 k)[j] := fun j h1 h2 =>
          parts_read (Q := rAtom w5 0 w5.heap.size) HFL.out (fun j h1 h2 => good_atom.up (HFR.out w5 hb5 j h1 h2) (Nat.zero_le _) (Nat.le_trans hiw hb5.size)) k (k + 1) j h1 h2
        obtain ⟨av, capv, rfl, hcv, hnn, hels⟩ := els_own ho (by decide) (xs := others x.2.1 k) (by unfold others; simp [HFL.out]) (fun f hf => HFF.out f (by
          rcases List.mem_append.1 hf with h | h
          · exact List.mem_of_mem_take h
          · exact List.mem_of_mem_drop h)) hir
        have hol : (others x.2.1 k).length ≤ 1048576 := by unfold others; simp only [List.length_append, List.length_take, List.length_drop]; omega
        have V := hid (impl_atomsV av capv (others x.2.1 k) 0 w5.heap.size w5 hol (fun j hj => by
          have hm := List.getElem_mem hj
          have hm2 : (others x.2.1 k)[j] ∈ x.2.1 := by
            unfold others at hm
            rcases List.mem_append.1 hm with h | h
            · exact List.mem_of_mem_take h
            · exact List.mem_of_mem_drop h
          obtain ⟨i, hi, he⟩ := List.getElem_of_mem hm2
          rw [← he]
          exact HSA.out i hi) hels (Nat.le_refl _))
        obtain ⟨b, off, aj, capj, he, _, hbB, c0, c1, rx⟩ := atoms_at (HQE.out.grow good_atom HB5.out hh) k hkl
        subst he
        obtain ⟨_, _, hae, _, _, hr⟩ := atom_open rx
        simp only [List.cons.injEq, Value.slice.injEq, and_true, true_and] at hae
        obtain ⟨rfl, rfl⟩ := hae
        obtain ⟨m, hm⟩ := ex_is (mem x.2.1[k].2)
        have C := hid (ofM aj capj hi x.2.1[k].2 m w5 (HSA.out k hkl) (rd_of hr) hm)
        obtain ⟨r0, r1, r2, _, _, _, r6⟩ := KB5.out.three
        have HM := hid hm
        have hklt : (k : Int) < (x.2.1.length : Int) := by omega
        clear hb5 hkp hk2 ho hir hels rx hr hm q0 q1 q2 SU SF e1 e3 hcv hnn
        go_wp2_with fail
        with_reducible refine C.out.mono ?_
        rintro e w6 ⟨rfl, rfl⟩
        go_wp2_with fail
        with_reducible refine V.out.mono ?_
        rintro e w7 ⟨m3, rfl, his, hb7⟩
        obtain ⟨p, hp⟩ : ∃ z, m ^^^ (m &&& m3) = z := ⟨_, rfl⟩
        have e2 : bits .andNot .u64 (m : Int) (m3 : Int) = (p : Int) := by rw [← hp]; exact u_sub HM.out.1 his.1
        have HI := hid (show Is p (own1 x.2.1 k) by rw [← hp]; exact is_congr (is_sub HM.out his) (fun u _ => own1_others hkl))
        have HB7 := hid (HB5.out.trans (hb7.mono HB5.out.size))
        have L := hid (listM p _ w7 HI.out (HT.out.below HB7.out))
        clear hp his hb7
        go_wp2_with fail
        with_reducible refine L.out.mono ?_
        rintro e w8 ⟨a8, cap8, rfl, ho8, hb8⟩
        have HO := hid (ho8.mono HB7.out.size)
        have HB8 := hid (HB7.out.trans (hb8.mono HB7.out.size))
        clear ho8 hb8
        go_wp2
        go_ret
        refine ⟨a8, cap8, by rw [HN.out]; rfl, ?_, HB8.out⟩
        rw [HN.out]
        exact HO.out

/-! ### the model's -/
set_option maxRecDepth 100000 in
set_option maxHeartbeats 1000000 in
theorem spec_prv (cs : List Value) (x : QueryD) (v : Int) (lo hi : Nat) (w : World) (hs : szQ x ≤ 1048576) (h : rQuery w lo hi cs x) (hh : hi ≤ w.heap.size) :
    Calls Tryd.prog 29 #[.agg cs.toArray, .int .i64 v] w (Pv x v w) := by
  obtain ⟨i0, hi0, hz0, hz1, hz2⟩ := info_parts IntLaw.info
  obtain ⟨q, capq, o, capo, hcs, _, _, hqe, _⟩ := query_open h
  subst hcs
  have K := hid (hasl_new w [.int .i64 x.1, .slice q x.2.1.length capq, .slice o x.2.2.length capo] 30)
  have B1 := hid ((Below.refl w.heap.size w).alloc (Nat.le_refl _) (.cells #[.int .i64 x.1, .slice q x.2.1.length capq, .slice o x.2.2.length capo] 30))
  have hn2 : x.2.1.length ≤ 1048576 := by have := tots_len szA x.2.1; unfold szQ at hs; omega
  have HSA := hid (fun j (hj : j < x.2.1.length) => show x.2.1[j].2.length ≤ 1048576 by have := elem_le szA x.2.1 j hj; unfold szA at this; unfold szQ szA at hs; omega)
  obtain ⟨qv, hqv⟩ : ∃ z, vq x = z := ⟨_, rfl⟩
  have VQ := hid (fun W (hW : Below w.heap.size w W) => by
    have := spec_vq _ x lo hi W hs (good_query.keep h (sm_below hW hh)) (Nat.le_trans hh hW.size)
    rw [hqv] at this
    exact this)
  have DG := hid (fun W (u : Int) (hW : Below w.heap.size w W) => spec_deg _ x u lo hi W hs (good_query.keep h (sm_below hW hh)) (Nat.le_trans hh hW.size))
  have HQE := hid hqe
  have HQV := hid hqv
  clear h hqe hs hqv
  cases qv with
  | false =>
    have HF := hid (prv_no (k := v) (.inl HQV.out))
    go_enter Tryd.func29, Tryd.ntmps29
    go_wp2
    go_loopw [5, 6] (fun s i wr => s = .slice (some ⟨w.heap.size + 1, 0, none⟩) 0 0 ∧ i = .int .i64 0 ∧ Hid (HasL wr w.heap.size [.int .i64 x.1, .slice q x.2.1.length capq, .slice o x.2.2.length capo]) ∧ Own wr (w.heap.size + 1) 3 (.slice (some ⟨w.heap.size + 1, 0, none⟩) 0 0) [] ∧ Hid (Below w.heap.size w wr)) (fun _ _ _ => 0)
    case atStart => exact ⟨rfl, rfl, hid (K.out.alloc _), by simpa using own_lit (w.alloc (.cells #[.int .i64 x.1, .slice q x.2.1.length capq, .slice o x.2.2.length capo] 30)) (w.heap.size + 1) 3 (by simp), hid (B1.out.alloc B1.out.size _)⟩
    case round =>
      obtain ⟨rfl, rfl, kk, hown, hb⟩ := hrel
      obtain ⟨q0, q1, q2, _, _, _, q6⟩ := kk.out.three
      by_cases hlt : (0 : Int) < x.1
      · go_wp2_with fail
        with_reducible refine (VQ.out _ hb.out).mono ?_
        rintro e w1 ⟨rfl, hb1⟩
        have HB := hid (hb.out.trans (hb1.mono hb.out.size))
        have HO := hid ((hown.below' hb1).mono (show w.heap.size ≤ w.heap.size + 1 by omega))
        clear hb1 q0 q1 q2 q6
        go_wp2
        go_ret
        refine ⟨some ⟨w.heap.size + 1, 0, none⟩, 0, by rw [HF.out]; rfl, ?_, HB.out⟩
        rw [HF.out]
        exact HO.out
      · have HO := hid (hown.mono (show w.heap.size ≤ w.heap.size + 1 by omega))
        go_wp2
        go_ret
        refine ⟨some ⟨w.heap.size + 1, 0, none⟩, 0, by rw [HF.out]; rfl, ?_, hb.out⟩
        rw [HF.out]
        exact HO.out
  | true =>
    obtain ⟨n, hn, hn1, hn5, hva⟩ := vq_vars HQV.out
    rw [hn] at K B1 VQ DG
    have HN := hid hn
    clear hva
    rw [hn]
    clear hn
    cases hin : inR v 0 ((x.2.1.length : Int) - 1) with
    | false =>
      have HF := hid (prv_no (x := x) (k := v) (.inr hin))
      have IN := hid (fun W => in_is' v 0 ((x.2.1.length : Int) - 1) false W hin)
      clear hin
      go_enter Tryd.func29, Tryd.ntmps29
      go_wp2
      go_loopw [5, 6] (fun s i wr => s = .slice (some ⟨w.heap.size + 1, 0, none⟩) 0 0 ∧ i = .int .i64 0 ∧ Hid (HasL wr w.heap.size [.int .i64 (n : Int), .slice q x.2.1.length capq, .slice o x.2.2.length capo]) ∧ Own wr (w.heap.size + 1) 3 (.slice (some ⟨w.heap.size + 1, 0, none⟩) 0 0) [] ∧ Hid (Below w.heap.size w wr)) (fun _ _ _ => 0)
      case atStart => exact ⟨rfl, rfl, hid (K.out.alloc _), by simpa using own_lit (w.alloc (.cells #[.int .i64 (n : Int), .slice q x.2.1.length capq, .slice o x.2.2.length capo] 30)) (w.heap.size + 1) 3 (by simp), hid (B1.out.alloc B1.out.size _)⟩
      case round =>
        obtain ⟨rfl, rfl, kk, hown, hb⟩ := hrel
        obtain ⟨q0, q1, q2, _, _, _, q6⟩ := kk.out.three
        have hlt : (0 : Int) < (n : Int) := by omega
        go_wp2_with fail
        with_reducible refine (VQ.out _ hb.out).mono ?_
        rintro e w1 ⟨rfl, hb1⟩
        have HB := hid (hb.out.trans (hb1.mono hb.out.size))
        have HO := hid ((hown.below' hb1).mono (show w.heap.size ≤ w.heap.size + 1 by omega))
        have KB := hid (kk.out.below hb1)
        clear hb1 q0 q1 q2 q6
        obtain ⟨q0, q1, q2, _, _, _, q6⟩ := KB.out.three
        go_wp2_with fail
        with_reducible refine (IN.out _).mono ?_
        rintro e w2 ⟨rfl, rfl⟩
        go_wp2
        go_ret
        refine ⟨some ⟨w.heap.size + 1, 0, none⟩, 0, by rw [HF.out]; rfl, ?_, HB.out⟩
        rw [HF.out]
        exact HO.out
    | true =>
      have hin2 : 0 ≤ v ∧ v ≤ (x.2.1.length : Int) - 1 := by unfold inR at hin; simpa using hin
      obtain ⟨j, hj⟩ : ∃ j : Nat, v = (j : Int) := ⟨v.toNat, by omega⟩
      subst hj
      have hjl : j < x.2.1.length := by omega
      have IN := hid (fun W => in_is' (j : Int) 0 ((x.2.1.length : Int) - 1) true W hin)
      have HF := hid (prv_yes HQV.out HN.out hjl)
      clear hin hin2
      have hjl' : (j : Int) < (x.2.1.length : Int) := by omega
      have hj0' : (0 : Int) ≤ (j : Int) := by omega
      go_enter Tryd.func29, Tryd.ntmps29
      go_wp2
      go_loopw [5, 6] (fun s i wr => ∃ k : Nat, k ≤ n ∧ i = .int .i64 k ∧ Own wr (w.heap.size + 1) 3 s (fl (own1 x.2.1 j) k) ∧ Hid (HasL wr w.heap.size [.int .i64 (n : Int), .slice q x.2.1.length capq, .slice o x.2.2.length capo]) ∧ Hid (Below w.heap.size w wr) ∧ w.heap.size + 1 ≤ wr.heap.size) (fun _ i _ => n - (intOf i).toNat)
      case atStart => exact ⟨0, by omega, rfl, by simpa [fl] using own_lit (w.alloc (.cells #[.int .i64 (n : Int), .slice q x.2.1.length capq, .slice o x.2.2.length capo] 30)) (w.heap.size + 1) 3 (by simp), hid (K.out.alloc _), hid (B1.out.alloc B1.out.size _), by simp⟩
      case round =>
        obtain ⟨k, hk, rfl, hown, kk, hb, hsz⟩ := hrel
        obtain ⟨q0, q1, q2, _, _, _, q6⟩ := kk.out.three
        by_cases hlt : k < n
        · have hlt' : (k : Int) < (n : Int) := by omega
          go_wp2_with fail
          with_reducible refine (VQ.out _ hb.out).mono ?_
          rintro e w1 ⟨rfl, hb1⟩
          have HB := hid (hb.out.trans (hb1.mono hb.out.size))
          have KB := hid (kk.out.below hb1)
          have HO := hid (hown.below' hb1)
          have hsz1 : w.heap.size + 1 ≤ w1.heap.size := Nat.le_trans hsz hb1.size
          clear hb1 q0 q1 q2 q6 kk hb hown hsz
          obtain ⟨q0, q1, q2, _, _, _, q6⟩ := KB.out.three
          go_wp2_with fail
          with_reducible refine (IN.out _).mono ?_
          rintro e w2 ⟨rfl, rfl⟩
          obtain ⟨bl, off, aj, capj, he, _, hbB, c0, c1, rx⟩ := atoms_at (HQE.out.grow good_atom HB.out hh) j hjl
          subst he
          have C := hid (spec_has _ x.2.1[j] (k : Int) lo hi _ (HSA.out j hjl) rx (Nat.le_trans hh HB.out.size))
          have hln := fl_len (own1 x.2.1 j) k
          clear rx
          cases hin : decide ((k : Int) ∈ x.2.1[j].2) with
          | false =>
            have C2 := hid (by have := C.out; rw [hin] at this; exact this)
            have E := hid (fl_no (p := own1 x.2.1 j) (k := k) (by rw [own1_at hjl]; unfold mem; rw [hin]; rfl))
            clear C hin
            go_wp2_with fail
            with_reducible refine C2.out.mono ?_
            rintro e w3 ⟨rfl, hb2⟩
            have HB2 := hid (HB.out.trans (hb2.mono HB.out.size))
            have KB2 := hid (KB.out.below hb2)
            have HO2 := HO.out.below' hb2
            have hsz2 : w.heap.size + 1 ≤ w3.heap.size := Nat.le_trans hsz1 hb2.size
            rw [← E.out] at HO2
            clear hb2 q0 q1 q2 q6 c0 c1
            go_wp2
            go_roundw
            case rel => exact ⟨k + 1, by omega, by go_num, HO2, KB2, HB2, hsz2⟩
            case measure => simp [intOf]; omega
          | true =>
            have C2 := hid (by have := C.out; rw [hin] at this; exact this)
            have HIN := hid hin
            clear C hin
            go_wp2_with fail
            with_reducible refine C2.out.mono ?_
            rintro e w3 ⟨rfl, hb2⟩
            have HB2 := hid (HB.out.trans (hb2.mono HB.out.size))
            have KB2 := hid (KB.out.below hb2)
            have HO2 := hid (HO.out.below' hb2)
            have hsz2 : w.heap.size + 1 ≤ w3.heap.size := Nat.le_trans hsz1 hb2.size
            clear hb2 q0 q1 q2 q6 c0 c1 hsz1
            obtain ⟨q0, q1, q2, _, _, _, q6⟩ := KB2.out.three
            obtain ⟨d, hd⟩ : ∃ z, dgV x (k : Int) = z := ⟨_, rfl⟩
            have D := hid (DG.out w3 (k : Int) HB2.out)
            rw [hd] at D
            have hdd : dg x.2.1 (k : Int) x.2.1.length = d := by rw [← hd, dgV_yes HQV.out]
            have HDD := hid hdd
            clear hd hdd
            go_wp2_with fail
            with_reducible refine D.out.mono ?_
            rintro e w4 ⟨rfl, hb3⟩
            have HB3 := hid (HB2.out.trans (hb3.mono HB2.out.size))
            have KB3 := hid (KB2.out.below hb3)
            have HO3 := HO2.out.below' hb3
            have hsz3 : w.heap.size + 1 ≤ w4.heap.size := Nat.le_trans hsz2 hb3.size
            clear hb3 q0 q1 q2 q6 hsz2
            by_cases h1 : d = 1
            · have t1 : ((d : Int) == 1) = true := by simp [h1]
              have E := hid (fl_yes (p := own1 x.2.1 j) (k := k) (by rw [own1_at hjl]; unfold mem; rw [HIN.out, HDD.out, h1]; rfl))
              clear h1
              go_wp2_with (at_builtin; refine append_int rfl _ _ 23 rfl (w.heap.size + 1) 3 i0 Tryd.underlying23 hi0 hz0 hz1 hz2 w4 w4 _ (fl (own1 x.2.1 j) k) (k : Int) HO3 (by rfl) (Below.refl _ _) hsz3 _ rfl (by rfl) (by omega) ?_)
              intro v1 w5 hown1 hbel1 hsz5 hgr
              have HB5 := hid (HB3.out.trans (hbel1.mono (by omega)))
              have KB5 := hid (KB3.out.under hbel1 (by omega))
              rw [← E.out] at hown1
              clear HB3 KB3 HO3 hsz3 hbel1 hgr
              go_wp2
              go_roundw
              case rel => exact ⟨k + 1, by omega, by go_num, hown1, KB5, HB5, hsz5⟩
              case measure => simp [intOf]; omega
            · have t1 : ((d : Int) == 1) = false := by simp only [beq_eq_false_iff_ne]; omega
              have E := hid (fl_no (p := own1 x.2.1 j) (k := k) (by rw [own1_at hjl, HDD.out, decide_eq_false h1, Bool.and_false]))
              rw [← E.out] at HO3
              clear h1
              go_wp2
              go_roundw
              case rel => exact ⟨k + 1, by omega, by go_num, HO3, KB3, HB3, hsz3⟩
              case measure => simp [intOf]; omega
        · have hlt' : ¬ (k : Int) < (n : Int) := by omega
          have e : k = n := by omega
          subst e
          obtain ⟨av, capv, rfl, _, _, _⟩ := hown.form
          have HO := hid (hown.mono (show w.heap.size ≤ w.heap.size + 1 by omega))
          clear hown kk
          go_wp2
          go_ret
          refine ⟨av, capv, by rw [HF.out]; rfl, ?_, hb.out⟩
          rw [HF.out]
          exact HO.out
end Go.Proofs.YtehbkgmpnkmgjaaDoor.Prv
