/- The test of validity of queries, the model's (spec.IsValidQuery). -/
import Derived.Test.YthghggnlfnbbgabDoorVarIn
import Derived.Test.YthghggnlfnbbgabDoorQryP
import Derived.Test.YthghggnlfnbbgabDoorNames
import Derived.IntWalk
import Derived.BigQuiet
import Derived.Deep.QuietTactic
namespace Go.Proofs.YthghggnlfnbbgabDoor.QryVS
open Go.RowKit
open Go.Proofs.YthghggnlfnbbgabDoor.Num Go.Proofs.YthghggnlfnbbgabDoor.IntRow Go.Proofs.YthghggnlfnbbgabDoor.Rdr Go.Proofs.YthghggnlfnbbgabDoor.Dat Go.Proofs.YthghggnlfnbbgabDoor.HasL Go.Proofs.YthghggnlfnbbgabDoor.VarName Go.Proofs.YthghggnlfnbbgabDoor.Names Go.Proofs.YthghggnlfnbbgabDoor.VarIn Go.Proofs.YthghggnlfnbbgabDoor.QryP
set_option linter.unusedVariables false

/-- The index that spec.l7Find gives. -/
def fidx : List Int → Int → Nat → Int
  | [], _, _ => -1
  | x :: t, v, k => if x = v then (k : Int) else fidx t v (k + 1)
theorem fidx_dec (l : List Int) (v : Int) (k : Nat) : decide (0 ≤ fidx l v k) = decide (v ∈ l) := by
  induction l generalizing k with
  | nil => simp [fidx]
  | cons x t ih =>
    by_cases h : x = v
    · simp [fidx, h]
    · have h' : ¬ v = x := fun e => h e.symm
      have := ih (k + 1)
      simp [fidx, h, h'] at this ⊢
      exact this
theorem fidx_bd (l : List Int) (v : Int) (k : Nat) : -1 ≤ fidx l v k ∧ fidx l v k ≤ (k : Int) + l.length := by
  induction l generalizing k with
  | nil => simp [fidx]
  | cons x t ih =>
    by_cases h : x = v
    · simp [fidx, h]; omega
    · have := ih (k + 1)
      simp [fidx, h] at this ⊢
      omega
theorem spec_findF (a : Option Addr) (n cap B : Nat) (xs : List Int) (v z : Int) (w : World) (hl : xs.length = n) (hn : n ≤ 1048576) (hz : fidx xs v 0 = z) (h : Rd w B a xs) :
    Calls Tryd.prog 35 #[.slice a n cap, .int .i64 v] w fun e w' => e = .returned (.int .i64 z) ∧ w' = w := by
  subst hl
  have HZ := hid hz
  clear hz
  go_enter Tryd.func35, Tryd.ntmps35
  go_wp2
  go_loop [5] (fun i => ∃ k : Nat, k ≤ xs.length ∧ i = .int .i64 k ∧ Hid (fidx (xs.drop k) v k = z)) (fun i => xs.length - (intOf i).toNat)
  case atStart => exact ⟨0, Nat.zero_le _, rfl, HZ⟩
  case round =>
    obtain ⟨k, hk, rfl, hno⟩ := hrel
    by_cases hlt : k < xs.length
    · obtain ⟨b, off, rfl, hbB, hc⟩ := h (by omega)
      have g := hc k hlt
      clear hc h
      have hd := hno.out
      rw [List.drop_eq_getElem_cons hlt] at hd
      by_cases hx : xs[k] = v
      · have ht : (xs[k] == v) = true := by simp [hx]
        have H := hid (show (k : Int) = z by simpa [fidx, hx] using hd)
        clear hx hd
        go_wp2
        go_ret
        exact ⟨by rw [← H.out]; rfl, rfl⟩
      · have ht : (xs[k] == v) = false := by simp only [beq_eq_false_iff_ne]; exact hx
        have HN := hid (show fidx (xs.drop (k + 1)) v (k + 1) = z by simpa [fidx, hx] using hd)
        clear hx hd
        go_wp2
        go_round
        case rel => exact ⟨k + 1, by omega, by go_num, HN⟩
        case measure => simp [intOf]; omega
    · have e : k = xs.length := by omega
      subst e
      have H := hid (show (-1 : Int) = z by have := hno.out; rw [List.drop_length] at this; exact this)
      clear h
      go_wp2
      go_ret
      exact ⟨by rw [← H.out]; rfl, rfl⟩
theorem in_is' (v lo hi : Int) (b : Bool) (w : World) (h : inR v lo hi = b) : Calls Tryd.prog 33 #[.int .i64 v, .int .i64 lo, .int .i64 hi] w fun e w' => e = .returned (.bool b) ∧ w' = w := (in_is v lo hi b w h).mono fun _ _ h => ⟨h.1, h.2.symm⟩
theorem occ_snoc {us : List AtomD} {v : Int} (k : Nat) (h : k < us.length) : occ (us.take (k + 1)) v = (occ (us.take k) v || decide (v ∈ us[k].2)) := by
  unfold occ
  rw [List.take_succ_eq_append_getElem h, List.any_append]
  simp
theorem rd_take {w : World} {B k : Nat} {a : Option Addr} {xs : List Int} (hk : k ≤ xs.length) (h : Rd w B a xs) : Rd w B a (xs.take k) := fun h0 => by
  have h1 : 0 < xs.length := by simp at h0; omega
  obtain ⟨b, off, e, hB, hc⟩ := h h1
  exact ⟨b, off, e, hB, fun j hj => by
    have hj' : j < k := by simp at hj; omega
    rw [hc j (by omega)]
    simp⟩

theorem svq_no (cs : List Value) (x : QueryD) (lo hi : Nat) (w : World) (hs : szQ x ≤ 1048576) (h : rQuery w lo hi cs x) (hno : inR x.1 1 5 = false ∨ (inR x.1 1 5 = true ∧ inR (x.2.1.length : Int) 1 4 = false) ∨ (inR x.1 1 5 = true ∧ inR (x.2.1.length : Int) 1 4 = true ∧ x.1 < (x.2.2.length : Int))) :
    Calls Tryd.prog 14 #[.agg cs.toArray] w fun e w' => e = .returned (.bool false) ∧ Below w.heap.size w w' := by
  obtain ⟨a, cap, o, capo, rfl, _, _, ha, ho⟩ := query_open h
  have B1 := hid ((Below.refl w.heap.size w).alloc (Nat.le_refl _) (.cells #[.int .i64 x.1, .slice a x.2.1.length cap, .slice o x.2.2.length capo] 32))
  have hxl := tots_len szA x.2.1
  have hx1 : x.2.1.length ≤ 1048576 := by unfold szQ at hs; omega
  have hx2 : x.2.2.length ≤ 1048576 := by unfold szQ at hs; omega
  clear h ha ho hs hxl
  rcases hno with h1 | ⟨h1, h2⟩ | ⟨h1, h2, h3⟩
  · have I := hid (fun W => in_is x.1 1 5 false W h1)
    clear h1
    go_enter Tryd.func14, Tryd.ntmps14
    go_wp2_with fail
    refine (I.out _).mono ?_
    rintro e w2 ⟨rfl, rfl⟩
    go_wp2
    go_ret
    exact ⟨rfl, B1.out⟩
  · have I := hid (fun W => in_is x.1 1 5 true W h1)
    have J := hid (fun W => in_is (x.2.1.length : Int) 1 4 false W h2)
    clear h1 h2
    go_enter Tryd.func14, Tryd.ntmps14
    go_wp2_with fail
    refine (I.out _).mono ?_
    rintro e w2 ⟨rfl, rfl⟩
    go_wp2_with fail
    refine (J.out _).mono ?_
    rintro e w2 ⟨rfl, rfl⟩
    go_wp2
    go_ret
    exact ⟨rfl, B1.out⟩
  · have I := hid (fun W => in_is x.1 1 5 true W h1)
    have J := hid (fun W => in_is (x.2.1.length : Int) 1 4 true W h2)
    clear h1 h2
    go_enter Tryd.func14, Tryd.ntmps14
    go_wp2_with fail
    refine (I.out _).mono ?_
    rintro e w2 ⟨rfl, rfl⟩
    go_wp2_with fail
    refine (J.out _).mono ?_
    rintro e w2 ⟨rfl, rfl⟩
    go_wp2
    go_ret
    exact ⟨rfl, B1.out⟩

set_option maxRecDepth 100000 in
set_option maxHeartbeats 4000000 in
theorem svq_main (a o : Option Addr) (cap capo n : Nat) (x : QueryD) (lo hi : Nat) (w : World) (hn : x.1 = (n : Int)) (hs : szQ x ≤ 1048576) (hN : inR x.1 1 5 = true) (hL : inR (x.2.1.length : Int) 1 4 = true) (ho3 : x.2.2.length ≤ n) (hcapo : x.2.2.length ≤ capo) (ha : Els 2 rAtom w lo hi a x.2.1) (ho : Els 1 rInt w lo hi o x.2.2) (hh : hi ≤ w.heap.size) :
    Calls Tryd.prog 14 #[.agg #[.int .i64 (n : Int), .slice a x.2.1.length cap, .slice o x.2.2.length capo]] w fun e w' => e = .returned (.bool (vq x)) ∧ Below w.heap.size w w' := by
  have hN' := hN
  rw [hn] at hN'
  have hnn : 1 ≤ (n : Int) ∧ (n : Int) ≤ 5 := by simpa [inR] using hN'
  obtain ⟨hn1, hn5⟩ := hnn
  have K := hid (hasl_new w [.int .i64 (n : Int), .slice a x.2.1.length cap, .slice o x.2.2.length capo] 32)
  have B1 := hid ((Below.refl w.heap.size w).alloc (Nat.le_refl _) (.cells #[.int .i64 (n : Int), .slice a x.2.1.length cap, .slice o x.2.2.length capo] 32))
  have hxl := tots_len szA x.2.1
  have hx1 : x.2.1.length ≤ 1048576 := by unfold szQ at hs; omega
  have hx2 : x.2.2.length ≤ 1048576 := by unfold szQ at hs; omega
  have HS := hid (fun j (hj : j < x.2.1.length) => show szA x.2.1[j] ≤ 1048576 by have := elem_le szA x.2.1 j hj; unfold szQ at hs; omega)
  have I := hid (fun W => in_is (n : Int) 1 5 true W hN')
  have J := hid (fun W => in_is (x.2.1.length : Int) 1 4 true W hL)
  have HN := hid hN
  have HL := hid hL
  have HE := hid hn
  have HA := hid ha
  have HRo := hid (rd_of ho)
  have t3 : ¬ (n : Int) < (x.2.2.length : Int) := by omega
  have t3b : decide (n < x.2.2.length) = false := by simp; omega
  have hw := hid (IntWalk.i64_in ((n : Int) - 1) (by omega))
  clear ha ho hs hN hN' hL hn hxl
  go_enter Tryd.func14, Tryd.ntmps14
  go_wp2_with fail
  refine (I.out _).mono ?_
  rintro e w2 ⟨rfl, rfl⟩
  go_wp2_with fail
  refine (J.out _).mono ?_
  rintro e w2 ⟨rfl, rfl⟩
  go_wp2
  clear t3 t3b
  go_loopw [3, 4] (fun i _ wr => ∃ k : Nat, k ≤ x.2.1.length ∧ i = .int .i64 k ∧ Hid (∀ j (h : j < x.2.1.length), j < k → okA (n : Int) x.2.1[j] = true) ∧ Hid (HasL wr w.heap.size [.int .i64 (n : Int), .slice a x.2.1.length cap, .slice o x.2.2.length capo]) ∧ Hid (Below w.heap.size w wr)) (fun i _ _ => x.2.1.length - (intOf i).toNat)
  case atStart => exact ⟨0, Nat.zero_le _, rfl, hid (fun j _ h => by omega), K, B1⟩
  case round =>
    obtain ⟨k, hk, rfl, hall, hbox, hb⟩ := hrel
    obtain ⟨wo, rfl⟩ : ∃ wo : World, wo = wr := ⟨_, rfl⟩
    obtain ⟨p0, p1, p2, _, _, _, p6⟩ := hbox.out.three
    by_cases hlt : k < x.2.1.length
    · obtain ⟨b, off, aj, capj, rfl, _, hbB, c0, c1, rx⟩ := atoms_at (HA.out.grow good_atom hb.out hh) k hlt
      have hsA := HS.out k hlt
      have hz1 : x.2.1[k].1.size ≤ 1048576 := by unfold szA at hsA; omega
      have hz2 : x.2.1[k].2.length ≤ 1048576 := by unfold szA at hsA; omega
      obtain ⟨ok, hok⟩ : ∃ z, nameOk x.2.1[k].1 = z := ⟨_, rfl⟩
      have N := hid (fun W => spec_name x.2.1[k].1 W hz1)
      rw [hok] at N
      have HO := hid hok
      have hlt' : (k : Int) < (x.2.1.length : Int) := by omega
      have h0' : (0 : Int) ≤ (k : Int) := by omega
      clear hok rx hsA
      cases ok with
      | false =>
        have hf := hid (show vq x = false from vq_as (okAs_at k hlt (by rw [HE.out]; exact okA_name HO.out)))
        go_wp2_with fail
        refine (N.out _).mono ?_
        rintro e w2 ⟨rfl, rfl⟩
        go_wp2
        go_ret
        exact ⟨by rw [hf.out]; rfl, hb.out⟩
      | true =>
        obtain ⟨okL, hokL⟩ : ∃ z, inR (x.2.1[k].2.length : Int) 1 5 = z := ⟨_, rfl⟩
        have M := hid (fun W => in_is (x.2.1[k].2.length : Int) 1 5 okL W hokL)
        have HOL := hid hokL
        clear hokL
        cases okL with
        | false =>
          have hf := hid (show vq x = false from vq_as (okAs_at k hlt (by rw [HE.out]; exact okA_len HOL.out)))
          go_wp2_with fail
          refine (N.out _).mono ?_
          rintro e w2 ⟨rfl, rfl⟩
          go_wp2_with fail
          refine (M.out _).mono ?_
          rintro e w2 ⟨rfl, rfl⟩
          go_wp2
          go_ret
          exact ⟨by rw [hf.out]; rfl, hb.out⟩
        | true =>
          go_wp2_with fail
          refine (N.out _).mono ?_
          rintro e w2 ⟨rfl, rfl⟩
          go_wp2_with fail
          refine (M.out _).mono ?_
          rintro e w2 ⟨rfl, rfl⟩
          go_wp2
          clear p0 p1 p2 c0 c1
          go_loopw [4] (fun i wr => ∃ m : Nat, m ≤ x.2.1[k].2.length ∧ i = .int .i64 m ∧ Hid (∀ j (h : j < x.2.1[k].2.length), j < m → isv x.2.1[k].2[j] (n : Int) = true) ∧ Hid (HasL wr w.heap.size [.int .i64 (n : Int), .slice (some ⟨b, off, none⟩) x.2.1.length cap, .slice o x.2.2.length capo]) ∧ Hid (Below w.heap.size w wr)) (fun i _ => x.2.1[k].2.length - (intOf i).toNat)
          case atStart => exact ⟨0, Nat.zero_le _, rfl, hid (fun j _ h => by omega), hbox, hb⟩
          case round =>
            obtain ⟨m, hm, rfl, hvs, hbox2, hb2⟩ := hrel
            obtain ⟨p0, p1, p2, _, _, _, p6'⟩ := hbox2.out.three
            obtain ⟨b2, off2, aj2, capj2, he2, _, hbB2, c0, c1, rx2⟩ := atoms_at (HA.out.grow good_atom hb2.out hh) k hlt
            simp only [Option.some.injEq, Addr.mk.injEq, and_true] at he2
            obtain ⟨rfl, rfl⟩ := he2
            by_cases hlt2 : m < x.2.1[k].2.length
            · obtain ⟨aa, cc, hcs, _, _, rr⟩ := atom_open rx2
              simp only [List.cons.injEq, Value.slice.injEq, and_true, true_and] at hcs
              obtain ⟨rfl, rfl⟩ := hcs
              obtain ⟨bv, ov, rfl, hbv, hcv⟩ := (rd_of rr) (by omega)
              have g := hcv m hlt2
              have hm' : (m : Int) < (x.2.1[k].2.length : Int) := by omega
              have hm0 : (0 : Int) ≤ (m : Int) := by omega
              obtain ⟨ov1, hov⟩ : ∃ z, isv x.2.1[k].2[m] (n : Int) = z := ⟨_, rfl⟩
              have HV := hid hov
              have hin : inR x.2.1[k].2[m] 0 ((n : Int) - 1) = ov1 := by rw [inR_isv]; exact hov
              have IV := hid (fun W => in_is' x.2.1[k].2[m] 0 ((n : Int) - 1) ov1 W hin)
              have hww := hw.out
              clear rx2 rr hcv hov hin
              cases ov1 with
              | false =>
                have hf := hid (show vq x = false from vq_as (okAs_at k hlt (by rw [HE.out]; exact okA_at m hlt2 HV.out)))
                go_wp2
                go_quiet ((go_at_call 33; exact Calls.quiet_of_same (IV.out _)))
                clear hww
                go_wp2
                go_ret
                exact ⟨by rw [hf.out]; rfl, ⟨hb2.out.os, hb2.out.tape, hb2.out.output, hb2.out.size, hb2.out.block⟩⟩
              | true =>
                have HVS := hid (show ∀ j (h : j < x.2.1[k].2.length), j < m + 1 → isv x.2.1[k].2[j] (n : Int) = true from fun j hj hjm => by
                  by_cases e : j = m
                  · subst e; exact HV.out
                  · exact hvs.out j hj (by omega))
                go_wp2
                go_quiet ((go_at_call 33; exact Calls.quiet_of_same (IV.out _)))
                clear hww
                go_wp2
                go_roundw
                case rel => exact ⟨m + 1, by omega, by go_num, HVS, hid ⟨hbox2.out.1, hbox2.out.2⟩, hid ⟨hb2.out.os, hb2.out.tape, hb2.out.output, hb2.out.size, hb2.out.block⟩⟩
                case measure => simp [intOf]; omega
            · have HAll := hid (show ∀ j (h : j < x.2.1.length), j < k + 1 → okA (n : Int) x.2.1[j] = true from fun j hj hjk => by
                by_cases e : j = k
                · subst e; exact okA_yes HO.out HOL.out (fun i hi => hvs.out i hi (by omega))
                · exact hall.out j hj (by omega))
              clear rx2
              go_wp2
              go_roundw
              case rel => first | exact ⟨k + 1, by omega, by go_num, HAll, hbox2, hb2⟩ | ((repeat apply Exists.intro); refine And.intro ?_ rfl; exact ⟨k + 1, by omega, by go_num, HAll, hbox2, hb2⟩)
              case measure => simp [intOf]; omega
    · have HOA := hid (okAs_yes HL.out (fun j hj => hall.out j hj (by omega)))
      clear hall
      go_wp2
      clear p0 p1 p2
      go_loopw [5] (fun i wr => ∃ v : Nat, v ≤ n ∧ i = .int .i64 v ∧ Hid (∀ j, j < v → occ x.2.1 (j : Int) = true) ∧ Hid (HasL wr w.heap.size [.int .i64 (n : Int), .slice a x.2.1.length cap, .slice o x.2.2.length capo]) ∧ Hid (Below w.heap.size w wr)) (fun i _ => n - (intOf i).toNat)
      case atStart => exact ⟨0, Nat.zero_le _, rfl, hid (fun j h => by omega), hbox, hb⟩
      case round =>
        obtain ⟨v, hv, rfl, hoccs, hbox2, hb2⟩ := hrel
        obtain ⟨wo2, rfl⟩ : ∃ wo : World, wo = wr := ⟨_, rfl⟩
        obtain ⟨p0, p1, p2, _, _, _, p6'⟩ := hbox2.out.three
        by_cases hltv : v < n
        · have hv' : (v : Int) < (n : Int) := by omega
          go_wp2
          clear p0 p1 p2
          go_loopw [6, 7] (fun s i wr => ∃ (m : Nat) (q : Bool), m ≤ x.2.1.length ∧ i = .int .i64 m ∧ s = .bool q ∧ Hid (occ (x.2.1.take m) (v : Int) = q) ∧ Hid (HasL wr w.heap.size [.int .i64 (n : Int), .slice a x.2.1.length cap, .slice o x.2.2.length capo]) ∧ Hid (Below w.heap.size w wr)) (fun _ i _ => x.2.1.length - (intOf i).toNat)
          case atStart => exact ⟨0, false, Nat.zero_le _, rfl, rfl, hid (by simp [occ]), hbox2, hb2⟩
          case round =>
            obtain ⟨m, q, hm, rfl, rfl, hocc, hbox3, hb3⟩ := hrel
            obtain ⟨p0, p1, p2, _, _, _, p6''⟩ := hbox3.out.three
            by_cases hltm : m < x.2.1.length
            · have hstep := occ_snoc (us := x.2.1) (v := (v : Int)) m hltm
              rw [hocc.out] at hstep
              have hm' : (m : Int) < (x.2.1.length : Int) := by omega
              have hm0 : (0 : Int) ≤ (m : Int) := by omega
              cases q with
              | true =>
                have HST := hid (show occ (x.2.1.take (m + 1)) (v : Int) = true by rw [hstep]; rfl)
                clear hstep
                go_wp2
                go_roundw
                case rel => first | exact ⟨m + 1, true, by omega, by go_num, rfl, HST, hbox3, hb3⟩ | ((repeat apply Exists.intro); refine And.intro ?_ rfl; exact ⟨m + 1, true, by omega, by go_num, rfl, HST, hbox3, hb3⟩)
                case measure => simp [intOf]; omega
              | false =>
                obtain ⟨b, off, aj, capj, rfl, _, hbB, c0, c1, rx⟩ := atoms_at (HA.out.grow good_atom hb3.out hh) m hltm
                have hsA := HS.out m hltm
                have hz2 : x.2.1[m].2.length ≤ 1048576 := by unfold szA at hsA; omega
                have hsz := hb3.out.size
                have C := hid (spec_has _ x.2.1[m] (v : Int) lo hi _ hz2 rx (by omega))
                have HST := hid (show occ (x.2.1.take (m + 1)) (v : Int) = decide ((v : Int) ∈ x.2.1[m].2) by rw [hstep]; simp)
                clear hstep rx hsA
                go_wp2_with fail
                refine C.out.mono ?_
                rintro e w3 ⟨rfl, hb4⟩
                have HB := hid (hb3.out.trans (hb4.mono hsz))
                have HK := hid (hbox3.out.below hb4)
                clear hb4
                go_wp2
                go_roundw
                case rel => first | exact ⟨m + 1, _, by omega, by go_num, rfl, HST, HK, HB⟩ | ((repeat apply Exists.intro); refine And.intro ?_ rfl; exact ⟨m + 1, _, by omega, by go_num, rfl, HST, HK, HB⟩)
                case measure => simp [intOf]; omega
            · have hoc : occ x.2.1 (v : Int) = q := by
                have := hocc.out
                rw [List.take_of_length_le (by omega)] at this
                exact this
              have HOC := hid hoc
              clear hoc
              cases q with
              | false =>
                have hf := hid (show vq x = false from vq_ev (range_no (k := v) (by rw [HE.out]; simpa using hltv) HOC.out))
                go_wp2
                go_ret
                exact ⟨by rw [hf.out]; rfl, hb3.out⟩
              | true =>
                have HOS := hid (show ∀ j, j < v + 1 → occ x.2.1 (j : Int) = true from fun j hj => by
                  by_cases e : j = v
                  · subst e; exact HOC.out
                  · exact hoccs.out j (by omega))
                go_wp2
                go_roundw
                case rel => first | exact ⟨v + 1, by omega, by go_num, HOS, hbox3, hb3⟩ | ((repeat apply Exists.intro); refine And.intro ?_ rfl; exact ⟨v + 1, by omega, by go_num, HOS, hbox3, hb3⟩)
                case measure => simp [intOf]; omega
        · have HEV := hid (show everyV x.1 x.2.1 = true from range_yes (fun j hj => hoccs.out j (by rw [HE.out] at hj; simp at hj; omega)))
          clear hoccs
          go_wp2
          clear p0 p1 p2
          go_loopw [8] (fun i wr => ∃ m : Nat, m ≤ x.2.2.length ∧ i = .int .i64 m ∧ Hid (∀ j, j < m → fits (n : Int) x.2.2 j = true) ∧ Hid (HasL wr w.heap.size [.int .i64 (n : Int), .slice a x.2.1.length cap, .slice o x.2.2.length capo]) ∧ Hid (Below w.heap.size w wr)) (fun i _ => x.2.2.length - (intOf i).toNat)
          case atStart => exact ⟨0, Nat.zero_le _, rfl, hid (fun j h => by omega), hbox2, hb2⟩
          case round =>
            obtain ⟨m, hm, rfl, hfits, hbox3, hb3⟩ := hrel
            obtain ⟨p0, p1, p2, _, _, _, p6''⟩ := hbox3.out.three
            by_cases hltm : m < x.2.2.length
            · have hrd := HRo.out.below (hb3.out.mono hh)
              have HT := hid (fun W (hW : Below hi wr W) => rd_take (k := m) (by omega) (hrd.below hW))
              obtain ⟨b, off, rfl, hbB, hc⟩ := hrd (by omega)
              have g := hc m hltm
              have hm' : (m : Int) < (x.2.2.length : Int) := by omega
              have hm0 : (0 : Int) ≤ (m : Int) := by omega
              have hmc : (m : Int) ≤ (capo : Int) := by omega
              obtain ⟨ov1, hov⟩ : ∃ z, isv x.2.2[m] (n : Int) = z := ⟨_, rfl⟩
              have HV := hid hov
              have hin : inR x.2.2[m] 0 ((n : Int) - 1) = ov1 := by rw [inR_isv]; exact hov
              have IV := hid (fun W => in_is' x.2.2[m] 0 ((n : Int) - 1) ov1 W hin)
              have hww := hw.out
              clear hc hov hin
              cases ov1 with
              | false =>
                have hf := hid (show vq x = false from vq_di (range_no hltm (by rw [HE.out]; exact fits_no1 m hltm HV.out)))
                go_wp2
                go_quiet ((go_at_call 33; exact Calls.quiet_of_same (IV.out _)))
                clear hww
                go_wp2
                go_ret
                exact ⟨by rw [hf.out]; rfl, ⟨hb3.out.os, hb3.out.tape, hb3.out.output, hb3.out.size, hb3.out.block⟩⟩
              | true =>
                obtain ⟨z, hz⟩ : ∃ z, fidx (x.2.2.take m) x.2.2[m] 0 = z := ⟨_, rfl⟩
                have hbd := fidx_bd (x.2.2.take m) x.2.2[m] 0
                have hdec := fidx_dec (x.2.2.take m) x.2.2[m] 0
                rw [hz] at hbd hdec
                have hlk : (x.2.2.take m).length = m := by simp; omega
                have F := hid (fun W (hW : Below hi wr W) => spec_findF (some ⟨b, off, none⟩) m capo hi (x.2.2.take m) x.2.2[m] z W hlk (by omega) hz (HT.out W hW))
                have HD := hid hdec
                have hz1 : -1 ≤ z := hbd.1
                have hz2 : z ≤ 1048576 := by omega
                clear hbd hdec hlk hz
                by_cases hzp : 0 ≤ z
                · have hf := hid (show vq x = false from vq_di (range_no hltm (by rw [HE.out]; exact fits_no2 m hltm (by rw [← HD.out]; simpa using hzp))))
                  go_wp2
                  go_quiet ((first | (go_at_call 33; exact Calls.quiet_of_same (IV.out _)) | (go_at_call 35; exact Calls.quiet_of_same (F.out _ ⟨rfl, rfl, rfl, Nat.le_refl _, fun _ _ => rfl⟩))))
                  clear hww
                  go_wp2
                  go_ret
                  exact ⟨by rw [hf.out]; rfl, ⟨hb3.out.os, hb3.out.tape, hb3.out.output, hb3.out.size, hb3.out.block⟩⟩
                · have HFS := hid (show ∀ j, j < m + 1 → fits (n : Int) x.2.2 j = true from fun j hj => by
                    by_cases e : j = m
                    · subst e; exact fits_yes j hltm HV.out (by rw [← HD.out]; simpa using hzp)
                    · exact hfits.out j (by omega))
                  go_wp2
                  go_quiet ((first | (go_at_call 33; exact Calls.quiet_of_same (IV.out _)) | (go_at_call 35; exact Calls.quiet_of_same (F.out _ ⟨rfl, rfl, rfl, Nat.le_refl _, fun _ _ => rfl⟩))))
                  clear hww
                  go_wp2
                  go_roundw
                  case rel => first | exact ⟨m + 1, by omega, by go_num, HFS, hid ⟨hbox3.out.1, hbox3.out.2⟩, hid ⟨hb3.out.os, hb3.out.tape, hb3.out.output, hb3.out.size, hb3.out.block⟩⟩ | ((repeat apply Exists.intro); refine And.intro ?_ rfl; exact ⟨m + 1, by omega, by go_num, HFS, hid ⟨hbox3.out.1, hbox3.out.2⟩, hid ⟨hb3.out.os, hb3.out.tape, hb3.out.output, hb3.out.size, hb3.out.block⟩⟩)
                  case measure => simp [intOf]; omega
            · have hf := hid (show vq x = true from vq_yes HN.out (by rw [HE.out]; exact HOA.out) HEV.out (range_yes (fun j hj => by rw [HE.out]; exact hfits.out j (by omega))))
              go_wp2
              go_ret
              exact ⟨by rw [hf.out]; rfl, hb3.out⟩

/-- spec.IsValidQuery at every query of some size. -/
theorem spec_vq (cs : List Value) (x : QueryD) (lo hi : Nat) (w : World) (hs : szQ x ≤ 1048576) (h : rQuery w lo hi cs x) (hh : hi ≤ w.heap.size) :
    Calls Tryd.prog 14 #[.agg cs.toArray] w fun e w' => e = .returned (.bool (vq x)) ∧ Below w.heap.size w w' := by
  cases h1 : inR x.1 1 5 with
  | false =>
    rw [vq_n h1]
    exact svq_no cs x lo hi w hs h (.inl h1)
  | true =>
    cases h2 : inR (x.2.1.length : Int) 1 4 with
    | false =>
      rw [vq_as (okAs_len h2)]
      exact svq_no cs x lo hi w hs h (.inr (.inl ⟨h1, h2⟩))
    | true =>
      have hb : 1 ≤ x.1 ∧ x.1 ≤ 5 := by simpa [inR] using h1
      by_cases h3 : x.1 < (x.2.2.length : Int)
      · rw [vq_di (dist_long (by omega) h3)]
        exact svq_no cs x lo hi w hs h (.inr (.inr ⟨h1, h2, h3⟩))
      · obtain ⟨n, hn⟩ : ∃ n : Nat, x.1 = (n : Int) := ⟨x.1.toNat, by omega⟩
        obtain ⟨a, cap, o, capo, hcs, _, _, ha, ho⟩ := query_open h
        subst hcs
        have hcp := (query_cap h).2
        have := svq_main a o cap capo n x lo hi w hn hs h1 h2 (by omega) hcp ha ho hh
        rw [← hn] at this
        exact this
end Go.Proofs.YthghggnlfnbbgabDoor.QryVS
