/- The atoms with a variable, by their indices; the weights at given places (the program's functions). -/
import Derived.Test.YthghggnlfnbbgabCovP
import Derived.Test.YthghggnlfnbbgabVarIn
import Derived.Test.YthghggnlfnbbgabRatRow
import Derived.Test.YthghggnlfnbbgabIntLaw
namespace Go.Proofs.Ythghggnlfnbbgab.Awv
open Go.RowKit
open Go.Proofs.Ythghggnlfnbbgab.Num Go.Proofs.Ythghggnlfnbbgab.IntRow Go.Proofs.Ythghggnlfnbbgab.IntLaw Go.Proofs.Ythghggnlfnbbgab.Rdr Go.Proofs.Ythghggnlfnbbgab.Dat Go.Proofs.Ythghggnlfnbbgab.HasL Go.Proofs.Ythghggnlfnbbgab.VarIn Go.Proofs.Ythghggnlfnbbgab.Rats Go.Proofs.Ythghggnlfnbbgab.CovP
set_option linter.unusedVariables false

theorem own_nil (w : World) (base : Nat) (e : TypeId) : Own w base e (.slice none 0 0) [] := World.ownsRow_nil w base e 1
set_option maxRecDepth 100000 in
theorem impl_idx (cs : List Value) (x : QueryD) (v : Int) (lo hi : Nat) (w : World) (hs : szQ x ≤ 1048576) (h : rQuery w lo hi cs x) (hh : hi ≤ w.heap.size) :
    Calls Try.prog 38 #[.agg cs.toArray, .int .i64 v] w fun e w' => ∃ a cap, e = .returned (.slice a (idx x.2.1 v x.2.1.length).length cap) ∧ Own w' w.heap.size 3 (.slice a (idx x.2.1 v x.2.1.length).length cap) (idx x.2.1 v x.2.1.length) ∧ Below w.heap.size w w' := by
  obtain ⟨i0, hi0, hz0, hz1, hz2⟩ := info_parts IntLaw.info
  obtain ⟨q, capq, o, capo, hcs, _, _, hqe, _⟩ := query_open h
  subst hcs
  have K := hid (hasl_new w [.int .i64 x.1, .slice q x.2.1.length capq, .slice o x.2.2.length capo] 41)
  have B1 := hid ((Below.refl w.heap.size w).alloc (Nat.le_refl _) (.cells #[.int .i64 x.1, .slice q x.2.1.length capq, .slice o x.2.2.length capo] 41))
  have hn2 : x.2.1.length ≤ 1048576 := by have := tots_len szA x.2.1; unfold szQ at hs; omega
  have HSA := hid (fun j (hj : j < x.2.1.length) => show x.2.1[j].2.length ≤ 1048576 by have := elem_le szA x.2.1 j hj; unfold szA at this; unfold szQ szA at hs; omega)
  have HQE := hid hqe
  clear h hqe hs
  go_enter Try.func38, Try.ntmps38
  obtain ⟨q0, q1, q2, _, _, _, q6⟩ := K.out.three
  go_wp2
  clear q0 q1 q2 q6
  go_loopw [5, 6, 7, 11] (fun s _ _ i wr => ∃ k : Nat, k ≤ x.2.1.length ∧ i = .int .i64 k ∧ Own wr (w.heap.size + 1) 3 s (idx x.2.1 v k) ∧ Hid (Below w.heap.size w wr) ∧ w.heap.size + 1 ≤ wr.heap.size) (fun _ _ _ i _ => x.2.1.length - (intOf i).toNat)
  case atStart => exact ⟨0, Nat.zero_le _, rfl, own_nil _ _ _, B1, by simp⟩
  case round =>
    obtain ⟨k, hk, rfl, hown, hb, hsz⟩ := hrel
    by_cases hlt : k < x.2.1.length
    · have hlt' : (k : Int) < (x.2.1.length : Int) := by omega
      have h0' : (0 : Int) ≤ (k : Int) := by omega
      obtain ⟨b, off, aj, capj, he, _, hbB, c0, c1, rx⟩ := atoms_at (HQE.out.grow good_atom hb.out hh) k hlt
      subst he
      have hsb := hb.out.size
      have K2 := hid (hasl_new wr [.string x.2.1[k].1, .slice aj x.2.1[k].2.length capj] 62)
      have B2 := hid ((Below.refl wr.heap.size wr).alloc (Nat.le_refl _) (.cells #[.string x.2.1[k].1, .slice aj x.2.1[k].2.length capj] 62))
      have HB2 := hid (hb.out.trans (B2.out.mono hsb))
      have HO := hid (hown.alloc (.cells #[.string x.2.1[k].1, .slice aj x.2.1[k].2.length capj] 62))
      have C := hid (impl_has _ x.2.1[k] v lo hi _ (HSA.out k hlt) (good_atom.keep rx (sm_below B2.out (by omega))) (by simp; omega))
      have hil := idx_len x.2.1 v k
      clear rx hown
      obtain ⟨p0, p1, p2, p3, p4⟩ := K2.out.two
      cases hin : decide (v ∈ x.2.1[k].2) with
      | true =>
        have HS := hid (idx_yes k hlt hin)
        have C2 := hid (by have := C.out; rw [hin] at this; exact this)
        clear C hin
        go_wp2_with fail
        with_reducible refine C2.out.mono ?_
        rintro e w2 ⟨rfl, hb2⟩
        have HB3 := hid (HB2.out.trans (hb2.mono (by simp; omega)))
        have HO2 := HO.out.below' hb2
        have hsz2 : w.heap.size + 1 ≤ w2.heap.size := by have := hb2.size; simp at this; omega
        clear hb2 c0 c1 p0 p1 p2 p3 p4 K2 B2 HO
        go_wp2_with (at_builtin; refine append_int rfl _ _ 34 rfl (w.heap.size + 1) 3 i0 Try.underlying34 hi0 hz0 hz1 hz2 w2 w2 _ (idx x.2.1 v k) (k : Int) HO2 (by rfl) (Below.refl _ _) hsz2 _ rfl (by rfl) (by omega) ?_)
        intro v1 w3 hown1 hbel1 hsz3 hgr
        have HB4 := hid (HB3.out.trans (hbel1.mono (by omega)))
        rw [← HS.out] at hown1
        clear HB3 HO2 hsz2 hbel1 hgr
        go_wp2
        go_roundw
        case rel => exact ⟨k + 1, by omega, by go_num, hown1, HB4, hsz3⟩
        case measure => simp [intOf]; omega
      | false =>
        have HS := hid (idx_no k hlt hin)
        have C2 := hid (by have := C.out; rw [hin] at this; exact this)
        clear C hin
        go_wp2_with fail
        with_reducible refine C2.out.mono ?_
        rintro e w2 ⟨rfl, hb2⟩
        have HB3 := hid (HB2.out.trans (hb2.mono (by simp; omega)))
        have HO2 := HO.out.below' hb2
        rw [← HS.out] at HO2
        have hsz2 : w.heap.size + 1 ≤ w2.heap.size := by have := hb2.size; simp at this; omega
        clear hb2 c0 c1 p0 p1 p2 p3 p4 K2 B2 HO
        go_wp2
        go_roundw
        case rel => exact ⟨k + 1, by omega, by go_num, HO2, HB3, hsz2⟩
        case measure => simp [intOf]; omega
    · have hlt' : ¬ (k : Int) < (x.2.1.length : Int) := by omega
      have e : k = x.2.1.length := by omega
      subst e
      obtain ⟨av, capv, rfl, _, _, _⟩ := hown.form
      have HO := hid (hown.mono (show w.heap.size ≤ w.heap.size + 1 by omega))
      clear hown
      go_wp2
      go_ret
      exact ⟨av, capv, rfl, HO.out, hb.out⟩

set_option maxRecDepth 100000 in
/-- valuesAt on rationals: a slice of the call's own. -/
theorem impl_vals (a b : Option Addr) (cap capb : Nat) (xs : List RatD) (cs : List Int) (lo hi B : Nat) (w : World) (hn : xs.length ≤ 1048576) (hm : cs.length ≤ 1048576) (hc0 : ∀ k (h : k < cs.length), ∃ j : Nat, j < xs.length ∧ cs[k] = (j : Int)) (h : Els 2 rRat w lo hi a xs) (h' : Rd w B b cs) (hh : hi ≤ w.heap.size) (hB : B ≤ w.heap.size) :
    Calls Try.prog 37 #[.slice a xs.length cap, .slice b cs.length capb] w fun e w' => e = .returned (.slice (some ⟨w.heap.size, 0, none⟩) cs.length cs.length) ∧ Els 2 rRat w' w.heap.size (w.heap.size + 1) (some ⟨w.heap.size, 0, none⟩) (vals xs cs) ∧ Below w.heap.size w w' ∧ w.heap.size < w'.heap.size := by
  obtain ⟨i0, hi0, hz0, hz1, hz2⟩ := info_parts infoRat
  have hmk := make_k (P := Try.prog) w 28 25 i0 _ 2 16 Try.underlying28 hi0 hz0 hz1 hz2 (by omega) cs.length hm
  have hat0 := hid (own_k w 25 (Value.cells (.agg #[.int .i64 0, .int .i64 0])) 2 cs.length hm)
  have HC := hid hc0
  have HX := hid h
  have HY := hid h'
  have hvl := vals_len xs cs
  clear hc0 h h'
  go_enter Try.func37, Try.ntmps37
  go_wp2
  go_loopw [6, 7, 13] (fun _ _ i wr => ∃ (j : Nat) (ds : List Value), j ≤ cs.length ∧ i = .int .i64 j ∧ Hid (wr.ownsRow w.heap.size 25 2 (.slice (some ⟨w.heap.size, 0, none⟩) cs.length cs.length) cs.length ds) ∧ Hid (Fil 2 rRat wr (w.heap.size + 1) (w.heap.size + 1) ds (vals xs cs) j) ∧ Hid (Below w.heap.size w wr) ∧ w.heap.size < wr.heap.size) (fun _ _ i _ => cs.length - (intOf i).toNat)
  case atStart => exact ⟨0, _, Nat.zero_le _, rfl, hat0, hid Fil.zero, hid ((Below.refl _ _).alloc (Nat.le_refl _) _), by simp⟩
  case round =>
    obtain ⟨j, ds, hj, rfl, hown, hfil, hb, hsz⟩ := hrel
    clear hmk
    by_cases hlt : j < cs.length
    · obtain ⟨i, hi1, hci⟩ := HC.out j hlt
      obtain ⟨bc, offc, rfl, _, hc1⟩ := (HY.out.below (hb.out.mono hB)) (by omega)
      have g1 := hc1 j hlt
      rw [hci] at g1
      obtain ⟨b, off, rfl, _, hbB, c0, c1⟩ := rats_at (HX.out.grow good_rat hb.out hh) i hi1
      have hbd := hid (rats_bd HX.out i hi1)
      have hva := vals_at xs cs j i hlt hi1 hci (by omega)
      have hlt' : (j : Int) < (cs.length : Int) := by omega
      have h0' : (0 : Int) ≤ (j : Int) := by omega
      have hlt2 : (i : Int) < (xs.length : Int) := by omega
      have h02 : (0 : Int) ≤ (i : Int) := by omega
      obtain ⟨u0, e0⟩ := ownk_cell hown.out j 0 hlt (by omega)
      rw [Nat.add_zero] at e0
      obtain ⟨u1, e1⟩ := ownk_cell hown.out j 1 hlt (by omega)
      have f0 := World.ownsRow.frozenAt hown.out (j * 2)
      have f1 := World.ownsRow.frozenAt hown.out (j * 2 + 1)
      have O2 := (World.ownsRow.stored hown.out (j * 2) (.int .i64 xs[i].1)).1
      have O3 := (World.ownsRow.stored O2 (j * 2 + 1) (.int .i64 xs[i].2)).1
      have HO := hid O3
      have HS := hid (show Sm (w.heap.size + 1) (w.heap.size + 1) wr ((wr.setCell ⟨w.heap.size, j * 2, none⟩ (.int .i64 xs[i].1)).setCell ⟨w.heap.size, j * 2 + 1, none⟩ (.int .i64 xs[i].2)) from fun b h1 h2 => by omega)
      have HF2 := hid ((hfil.out.keep good_rat HS.out (Nat.le_refl _)).step (ds := [.int .i64 xs[i].1, .int .i64 xs[i].2]) (by omega) rfl (by rw [hown.out.1, hvl]) (by rw [hva]; exact rat_mk hbd.out.1 hbd.out.2))
      have HB := hid ((hb.out.setCell (p := ⟨w.heap.size, j * 2, none⟩) (Nat.le_refl _) (.int .i64 xs[i].1)).setCell (p := ⟨w.heap.size, j * 2 + 1, none⟩) (Nat.le_refl _) (.int .i64 xs[i].2))
      have hwl : w.heap.size < ((wr.setCell ⟨w.heap.size, j * 2, none⟩ (.int .i64 xs[i].1)).setCell ⟨w.heap.size, j * 2 + 1, none⟩ (.int .i64 xs[i].2)).heap.size := by (try simp); omega
      clear O2 O3 HS hbd hfil hown hb hc1 hva hci
      go_wp2
      go_roundw
      case rel => exact ⟨j + 1, _, by omega, by go_num, HO, HF2, HB, hwl⟩
      case measure => simp [intOf]; omega
    · have e : j = (vals xs cs).length := by omega
      have hk' : ¬ (j : Int) < (cs.length : Int) := by omega
      have HE := hid (Fil.done good_rat (e ▸ hfil.out) hown.out hvl.symm (show w.heap.size ≤ w.heap.size + 1 by omega) (Nat.le_refl _) (Nat.le_refl _) (Nat.lt_succ_self _))
      clear hfil hown e
      go_wp2
      go_ret
      exact ⟨rfl, HE.out, hb.out, hsz⟩
end Go.Proofs.Ythghggnlfnbbgab.Awv
