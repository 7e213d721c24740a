/- The test of validity of queries, the program's (impl.IsValidQuery). -/
import Derived.Test.YthghggnlfnbbgabDoorVarIn
import Derived.Test.YthghggnlfnbbgabDoorQryP
import Derived.Test.YthghggnlfnbbgabDoorNames
namespace Go.Proofs.YthghggnlfnbbgabDoor.QryVI
open Go.RowKit
open Go.Proofs.YthghggnlfnbbgabDoor.Num Go.Proofs.YthghggnlfnbbgabDoor.IntRow Go.Proofs.YthghggnlfnbbgabDoor.Rdr Go.Proofs.YthghggnlfnbbgabDoor.Dat Go.Proofs.YthghggnlfnbbgabDoor.HasL Go.Proofs.YthghggnlfnbbgabDoor.VarName Go.Proofs.YthghggnlfnbbgabDoor.Names Go.Proofs.YthghggnlfnbbgabDoor.VarIn Go.Proofs.YthghggnlfnbbgabDoor.QryP
set_option linter.unusedVariables false

set_option maxRecDepth 100000 in
theorem impl_atom (cs : List Value) (x : AtomD) (n : Int) (lo hi : Nat) (w : World) (hs : szA x ≤ 1048576) (h : rAtom w lo hi cs x) (hh : hi ≤ w.heap.size) :
    Calls Tryd.prog 51 #[.agg cs.toArray, .int .i64 n] w fun e w' => e = .returned (.bool (okA n x)) ∧ Below w.heap.size w w' := by
  obtain ⟨a, cap, rfl, _, _, hr⟩ := atom_open h
  have hz1 : x.1.size ≤ 1048576 := by unfold szA at hs; omega
  have hz2 : x.2.length ≤ 1048576 := by unfold szA at hs; omega
  obtain ⟨c0, c1, _, _, z⟩ := (hasl_new w [.string x.1, .slice a x.2.length cap] 45).two
  have B1 := hid ((Below.refl w.heap.size w).alloc (Nat.le_refl _) (.cells #[.string x.1, .slice a x.2.length cap] 45))
  have HR := hid ((rd_of hr).below (B1.out.mono hh))
  obtain ⟨ok, hok⟩ : ∃ z, nameOk x.1 = z := ⟨_, rfl⟩
  have N := hid (fun W => impl_name x.1 W hz1)
  rw [hok] at N
  have HO := hid hok
  clear h hr hs hok
  cases ok with
  | false =>
    have hf := hid (okA_name (n := n) HO.out)
    go_enter Tryd.func51, Tryd.ntmps51
    go_wp2_with fail
    refine (N.out _).mono ?_
    rintro e w1 ⟨rfl, rfl⟩
    go_wp2
    go_ret
    exact ⟨by rw [hf.out]; rfl, B1.out⟩
  | true =>
    by_cases h0 : x.2.length = 0
    · have t0 : ((x.2.length : Int) == 0) = true := by simp [h0]
      have hf := hid (okA_len (n := n) (a := x) (inR_no (.inl (by omega))))
      clear h0
      go_enter Tryd.func51, Tryd.ntmps51
      go_wp2_with fail
      refine (N.out _).mono ?_
      rintro e w1 ⟨rfl, rfl⟩
      go_wp2
      go_ret
      exact ⟨by rw [hf.out]; rfl, B1.out⟩
    · have t0 : ((x.2.length : Int) == 0) = false := by simp only [beq_eq_false_iff_ne]; omega
      have h0' : 0 < x.2.length := by omega
      clear h0
      by_cases h5 : (5 : Int) < (x.2.length : Int)
      · have hf := hid (okA_len (n := n) (a := x) (inR_no (.inr (by omega))))
        go_enter Tryd.func51, Tryd.ntmps51
        go_wp2_with fail
        refine (N.out _).mono ?_
        rintro e w1 ⟨rfl, rfl⟩
        go_wp2
        go_ret
        exact ⟨by rw [hf.out]; rfl, B1.out⟩
      · have HL := hid (inR_yes (v := (x.2.length : Int)) (lo := 1) (hi := 5) (by omega) (by omega))
        go_enter Tryd.func51, Tryd.ntmps51
        go_wp2_with fail
        refine (N.out _).mono ?_
        rintro e w1 ⟨rfl, rfl⟩
        go_wp2
        go_loop [6, 26] (fun _ i => ∃ k : Nat, k ≤ x.2.length ∧ i = .int .i64 k ∧ Hid (∀ j (h : j < x.2.length), j < k → isv x.2[j] n = true)) (fun _ i => x.2.length - (intOf i).toNat)
        case atStart => exact ⟨0, Nat.zero_le _, rfl, hid (fun j _ h => by omega)⟩
        case round =>
          obtain ⟨k, hk, rfl, hall⟩ := hrel
          by_cases hlt : k < x.2.length
          · obtain ⟨b, off, rfl, hbB, hc⟩ := HR.out (by omega)
            have g := hc k hlt
            clear hc
            cases hv : isv x.2[k] n with
            | false =>
              have hf := hid (okA_at k hlt hv)
              have I := hid (fun W => isv_is x.2[k] n false W hv)
              clear hv
              go_wp2_with fail
              refine (I.out _).mono ?_
              rintro e w2 ⟨rfl, rfl⟩
              go_wp2
              go_ret
              exact ⟨by rw [hf.out]; rfl, B1.out⟩
            | true =>
              have I := hid (fun W => isv_is x.2[k] n true W hv)
              have HA := hid (show ∀ j (h : j < x.2.length), j < k + 1 → isv x.2[j] n = true from fun j hj hjk => by
                by_cases e : j = k
                · subst e; exact hv
                · exact hall.out j hj (by omega))
              clear hv
              go_wp2_with fail
              refine (I.out _).mono ?_
              rintro e w2 ⟨rfl, rfl⟩
              go_wp2
              go_round
              case rel => exact ⟨k + 1, by omega, by go_num, HA⟩
              case measure => simp [intOf]; omega
          · have hf := hid (okA_yes HO.out HL.out (fun j hj => hall.out j hj (by omega)))
            go_wp2
            go_ret
            exact ⟨by rw [hf.out]; rfl, B1.out⟩

set_option maxRecDepth 100000 in
theorem impl_atoms (a : Option Addr) (cap : Nat) (xs : List AtomD) (n : Int) (lo hi : Nat) (w : World) (hs : tots szA xs ≤ 1048576) (h : Els 2 rAtom w lo hi a xs) (hh : hi ≤ w.heap.size) :
    Calls Tryd.prog 39 #[.slice a xs.length cap, .int .i64 n] w fun e w' => e = .returned (.bool (okAs n xs)) ∧ Below w.heap.size w w' := by
  have hn1 : xs.length ≤ 1048576 := by have := tots_len szA xs; omega
  have HG := hid h
  have HS := hid (fun j (hj : j < xs.length) => show szA xs[j] ≤ 1048576 by have := elem_le szA xs j hj; omega)
  clear h hs
  by_cases h0 : xs.length = 0
  · have t0 : ((xs.length : Int) == 0) = true := by simp [h0]
    have hf := hid (okAs_len (n := n) (us := xs) (inR_no (.inl (by omega))))
    clear h0
    go_enter Tryd.func39, Tryd.ntmps39
    go_wp2
    go_ret
    exact ⟨by rw [hf.out]; rfl, Below.refl _ _⟩
  · have t0 : ((xs.length : Int) == 0) = false := by simp only [beq_eq_false_iff_ne]; omega
    have h0' : 0 < xs.length := by omega
    clear h0
    by_cases h4 : (4 : Int) < (xs.length : Int)
    · have hf := hid (okAs_len (n := n) (us := xs) (inR_no (.inr (by omega))))
      go_enter Tryd.func39, Tryd.ntmps39
      go_wp2
      go_ret
      exact ⟨by rw [hf.out]; rfl, Below.refl _ _⟩
    · have HL := hid (inR_yes (v := (xs.length : Int)) (lo := 1) (hi := 4) (by omega) (by omega))
      go_enter Tryd.func39, Tryd.ntmps39
      go_wp2
      go_loopw [6, 17] (fun _ i wr => ∃ k : Nat, k ≤ xs.length ∧ i = .int .i64 k ∧ Hid (∀ j (h : j < xs.length), j < k → okA n xs[j] = true) ∧ Hid (Below w.heap.size w wr)) (fun _ i _ => xs.length - (intOf i).toNat)
      case atStart => exact ⟨0, Nat.zero_le _, rfl, hid (fun j _ h => by omega), hid (Below.refl _ _)⟩
      case round =>
        obtain ⟨k, hk, rfl, hall, hb⟩ := hrel
        by_cases hlt : k < xs.length
        · obtain ⟨b, off, aj, capj, rfl, _, hbB, c0, c1, rx⟩ := atoms_at (HG.out.grow good_atom hb.out hh) k hlt
          have hsz := hb.out.size
          have B2 := hid ((Below.refl wr.heap.size wr).alloc (Nat.le_refl _) (.cells #[.string xs[k].1, .slice aj xs[k].2.length capj] 45))
          have HB2 := hid (hb.out.trans (B2.out.mono hsz))
          obtain ⟨ok, hok⟩ : ∃ z, okA n xs[k] = z := ⟨_, rfl⟩
          have E := hid (by
            have := impl_atom _ xs[k] n lo hi _ (HS.out k hlt) (good_atom.keep rx (sm_below B2.out (by omega))) (by simp; omega)
            rw [hok] at this
            exact this)
          have HO := hid hok
          have hlt' : (k : Int) < (xs.length : Int) := by omega
          have h0'' : (0 : Int) ≤ (k : Int) := by omega
          clear hok rx
          cases ok with
          | false =>
            have hf := hid (okAs_at k hlt HO.out)
            go_wp2_with fail
            refine E.out.mono ?_
            rintro e w2 ⟨rfl, hb2⟩
            have HB := hid (HB2.out.trans (hb2.mono (by simp; omega)))
            clear hb2
            go_wp2
            go_ret
            exact ⟨by rw [hf.out]; rfl, HB.out⟩
          | true =>
            have HA := hid (show ∀ j (h : j < xs.length), j < k + 1 → okA n xs[j] = true from fun j hj hjk => by
              by_cases e : j = k
              · subst e; exact HO.out
              · exact hall.out j hj (by omega))
            go_wp2_with fail
            refine E.out.mono ?_
            rintro e w2 ⟨rfl, hb2⟩
            have HB := hid (HB2.out.trans (hb2.mono (by simp; omega)))
            clear hb2
            go_wp2
            go_roundw
            case rel => exact ⟨k + 1, by omega, by go_num, HA, HB⟩
            case measure => simp [intOf]; omega
        · have hf := hid (okAs_yes HL.out (fun j hj => hall.out j hj (by omega)))
          go_wp2
          go_ret
          exact ⟨by rw [hf.out]; rfl, hb.out⟩

/-! ### every variable occurs -/
theorem impl_occ1 (cs : List Value) (x : AtomD) (v : Int) (g lo hi : Nat) (w : World) (hs : x.2.length ≤ 1048576) (hg : w.cell? ⟨g, 0, none⟩ = some (.int .i64 v)) (hgz : g < w.heap.size) (h : rAtom w lo hi cs x) (hh : hi ≤ w.heap.size) :
    Calls Tryd.prog 52 #[.agg cs.toArray, .pointer (some ⟨g, 0, none⟩)] w fun e w' => e = .returned (.bool (decide (v ∈ x.2))) ∧ Below w.heap.size w w' := by
  obtain ⟨a, cap, hcs, _, _, hr⟩ := atom_open h
  subst hcs
  have B1 := hid ((Below.refl w.heap.size w).alloc (Nat.le_refl _) (.cells #[.string x.1, .slice a x.2.length cap] 45))
  have E := hid (impl_has _ x v lo hi _ hs (good_atom.keep h (sm_below B1.out hh)) (by simp; omega))
  clear h hr
  go_enter Tryd.func52, Tryd.ntmps52
  go_wp2_with fail
  refine E.out.mono ?_
  rintro e w1 ⟨rfl, hb⟩
  have HB := hid (B1.out.trans (hb.mono (by simp)))
  clear hb
  go_wp2
  go_ret
  exact ⟨rfl, HB.out⟩
def IdxF (us : List AtomD) (v : Int) (w : World) (e : Ending) (w' : World) : Prop := ∃ i : Int, e = .returned (.int .i64 i) ∧ -1 ≤ i ∧ i ≤ 9223372036854775807 ∧ decide (0 ≤ i) = occ us v ∧ Below w.heap.size w w'

set_option maxRecDepth 100000 in
theorem lib_indexF (a : Option Addr) (cap : Nat) (xs : List AtomD) (v : Int) (g lo hi : Nat) (w : World) (hs : tots szA xs ≤ 1048576) (hg : w.cell? ⟨g, 0, none⟩ = some (.int .i64 v)) (hgz : g < w.heap.size) (h : Els 2 rAtom w lo hi a xs) (hh : hi ≤ w.heap.size) :
    Calls Tryd.prog 63 #[.slice a xs.length cap, .func (.func 52) #[] #[.pointer (some ⟨g, 0, none⟩)]] w (IdxF xs v w) := by
  have hn1 : xs.length ≤ 1048576 := by have := tots_len szA xs; omega
  have HG := hid h
  have HS := hid (fun j (hj : j < xs.length) => show xs[j].2.length ≤ 1048576 by have := elem_le szA xs j hj; unfold szA at this hs; omega)
  have HC := hid hg
  clear h hs hg
  go_enter Tryd.func63, Tryd.ntmps63
  go_wp2
  go_loopw [5, 8] (fun _ i wr => ∃ k : Nat, k ≤ xs.length ∧ i = .int .i64 k ∧ Hid (∀ j (h : j < xs.length), j < k → decide (v ∈ xs[j].2) = false) ∧ Hid (Below w.heap.size w wr)) (fun _ i _ => xs.length - (intOf i).toNat)
  case atStart => exact ⟨0, Nat.zero_le _, rfl, hid (fun j _ h => by omega), hid (Below.refl _ _)⟩
  case round =>
    obtain ⟨k, hk, rfl, hno, hb⟩ := hrel
    by_cases hlt : k < xs.length
    · obtain ⟨b, off, aj, capj, rfl, _, hbB, c0, c1, rx⟩ := atoms_at (HG.out.grow good_atom hb.out hh) k hlt
      have hsz := hb.out.size
      obtain ⟨ok, hok⟩ : ∃ z, decide (v ∈ xs[k].2) = z := ⟨_, rfl⟩
      have E := hid (by
        have := impl_occ1 _ xs[k] v g lo hi wr (HS.out k hlt) ((hb.out.cell (p := ⟨g, 0, none⟩) hgz).trans HC.out) (by omega) rx (by omega)
        rw [hok] at this
        exact this)
      have HO := hid hok
      clear hok rx
      cases ok with
      | true =>
        have H := hid (show decide (0 ≤ (k : Int)) = occ xs v by rw [occ_yes k hlt HO.out]; simp)
        go_wp2_with fail
        refine E.out.mono ?_
        rintro e w2 ⟨rfl, hb2⟩
        have HB := hid (hb.out.trans (hb2.mono hsz))
        clear hb2
        go_wp2
        go_ret
        exact ⟨k, rfl, by omega, by omega, H.out, HB.out⟩
      | false =>
        have HN := hid (show ∀ j (h : j < xs.length), j < k + 1 → decide (v ∈ xs[j].2) = false from fun j hj hjk => by
          by_cases e : j = k
          · subst e; exact HO.out
          · exact hno.out j hj (by omega))
        go_wp2_with fail
        refine E.out.mono ?_
        rintro e w2 ⟨rfl, hb2⟩
        have HB := hid (hb.out.trans (hb2.mono hsz))
        clear hb2
        go_wp2
        go_roundw
        case rel => exact ⟨k + 1, by omega, by go_num, HN, HB⟩
        case measure => simp [intOf]; omega
    · have H := hid (show decide (0 ≤ (-1 : Int)) = occ xs v by rw [occ_no (fun j hj => hno.out j hj (by omega))]; rfl)
      go_wp2
      go_ret
      exact ⟨-1, rfl, by omega, by omega, H.out, hb.out⟩

theorem lib_containsF (a : Option Addr) (cap : Nat) (xs : List AtomD) (v : Int) (g lo hi : Nat) (w : World) (hs : tots szA xs ≤ 1048576) (hg : w.cell? ⟨g, 0, none⟩ = some (.int .i64 v)) (hgz : g < w.heap.size) (h : Els 2 rAtom w lo hi a xs) (hh : hi ≤ w.heap.size) :
    Calls Tryd.prog 54 #[.slice a xs.length cap, .func (.func 52) #[] #[.pointer (some ⟨g, 0, none⟩)]] w fun e w' => e = .returned (.bool (occ xs v)) ∧ Below w.heap.size w w' := by
  have I := hid (lib_indexF a cap xs v g lo hi w hs hg hgz h hh)
  clear h hg
  go_enter Tryd.func54, Tryd.ntmps54
  go_wp2_with fail
  refine I.out.mono ?_
  rintro e w' ⟨i, rfl, h1, h2, hi, hb⟩
  have HI := hid hi
  have HB := hid hb
  clear hi hb
  go_wp2
  go_ret
  exact ⟨by rw [← HI.out]; rfl, HB.out⟩

set_option maxRecDepth 100000 in
theorem impl_every (cs : List Value) (x : QueryD) (n : Nat) (lo hi : Nat) (w : World) (hn : x.1 = (n : Int)) (hn5 : n ≤ 5) (hs : tots szA x.2.1 ≤ 1048576) (h : rQuery w lo hi cs x) (hh : hi ≤ w.heap.size) :
    Calls Tryd.prog 40 #[.agg cs.toArray] w fun e w' => e = .returned (.bool (everyV x.1 x.2.1)) ∧ Below w.heap.size w w' := by
  obtain ⟨a, cap, o, capo, rfl, _, _, ha, ho⟩ := query_open h
  rw [hn]
  have K := hid (hasl_new w [.int .i64 (n : Int), .slice a x.2.1.length cap, .slice o x.2.2.length capo] 32)
  have B1 := hid ((Below.refl w.heap.size w).alloc (Nat.le_refl _) (.cells #[.int .i64 (n : Int), .slice a x.2.1.length cap, .slice o x.2.2.length capo] 32))
  have hmf : ∀ (fn : Fn) (first cap : Array Value) (w : World), (Instr.makeFunc fn first cap).run Tryd.prog w = .ok (.func fn first cap) w := fun _ _ _ _ => rfl
  have HA := hid ha
  clear h ha ho hn
  go_enter Tryd.func40, Tryd.ntmps40
  go_wp2
  go_loopw [3, 4, 7] (fun _ _ i wr => ∃ k : Nat, k ≤ n ∧ i = .int .i64 k ∧ Hid (∀ j, j < k → occ x.2.1 (j : Int) = true) ∧ Hid (HasL wr w.heap.size [.int .i64 (n : Int), .slice a x.2.1.length cap, .slice o x.2.2.length capo]) ∧ Hid (Below w.heap.size w wr)) (fun _ _ i _ => n - (intOf i).toNat)
  case atStart => exact ⟨0, Nat.zero_le _, rfl, hid (fun j h => by omega), K, B1⟩
  case round =>
    obtain ⟨k, hk, rfl, hall, hbox, hb⟩ := hrel
    by_cases hlt : k < n
    · obtain ⟨_, p1, _, _, _, _, p6⟩ := hbox.out.three
      have hsz := hb.out.size
      have B2 := hid ((Below.refl wr.heap.size wr).alloc (Nat.le_refl _) (.cells #[.int .i64 (k : Int)] 3))
      obtain ⟨ok, hok⟩ : ∃ z, occ x.2.1 (k : Int) = z := ⟨_, rfl⟩
      have E := hid (by
        have := lib_containsF a cap x.2.1 (k : Int) wr.heap.size lo hi (wr.alloc (.cells #[.int .i64 (k : Int)] 3)) hs (by simp) (by simp) (HA.out.keep good_atom (sm_below (hb.out.trans (B2.out.mono hsz)) hh)) (by simp; omega)
        rw [hok] at this
        exact this)
      have HB2 := hid (hb.out.trans (B2.out.mono hsz))
      have HK2 := hid (hbox.out.alloc (.cells #[.int .i64 (k : Int)] 3))
      have HO := hid hok
      clear hok
      cases ok with
      | false =>
        have hf := hid (show everyV (n : Int) x.2.1 = false from range_no (k := k) (by simpa using hlt) HO.out)
        go_wp2_with fail
        refine E.out.mono ?_
        rintro e w2 ⟨rfl, hb2⟩
        have HB := hid (HB2.out.trans (hb2.mono (by simp; omega)))
        clear hb2
        go_wp2
        go_ret
        exact ⟨by rw [hf.out]; rfl, HB.out⟩
      | true =>
        have HAl := hid (show ∀ j, j < k + 1 → occ x.2.1 (j : Int) = true from fun j hj => by
          by_cases e : j = k
          · subst e; exact HO.out
          · exact hall.out j (by omega))
        go_wp2_with fail
        refine E.out.mono ?_
        rintro e w2 ⟨rfl, hb2⟩
        have HB := hid (HB2.out.trans (hb2.mono (by simp; omega)))
        have HK := hid (HK2.out.below hb2)
        clear hb2
        go_wp2
        go_roundw
        case rel => exact ⟨k + 1, by omega, by go_num, HAl, HK, HB⟩
        case measure => simp [intOf]; omega
    · have hf := hid (show everyV (n : Int) x.2.1 = true from range_yes (fun j hj => hall.out j (by simp at hj; omega)))
      go_wp2
      go_ret
      exact ⟨by rw [hf.out]; rfl, hb.out⟩

/-! ### the output -/
set_option maxRecDepth 100000 in
theorem impl_dist (a : Option Addr) (cap B : Nat) (xs : List Int) (n : Int) (w : World) (hn : xs.length ≤ 1048576) (hcap : xs.length ≤ cap) (h : Rd w B a xs) :
    Calls Tryd.prog 41 #[.slice a xs.length cap, .int .i64 n] w fun e w' => e = .returned (.bool (distV n xs)) ∧ w = w' := by
  go_enter Tryd.func41, Tryd.ntmps41
  go_wp2
  go_loop [5, 6, 9] (fun _ _ i => ∃ k : Nat, k ≤ xs.length ∧ i = .int .i64 k ∧ Hid (∀ j, j < k → fits n xs j = true)) (fun _ _ i => xs.length - (intOf i).toNat)
  case atStart => exact ⟨0, Nat.zero_le _, rfl, hid (fun j h => by omega)⟩
  case round =>
    obtain ⟨k, hk, rfl, hall⟩ := hrel
    by_cases hlt : k < xs.length
    · have HT := hid (show Rd w B a (xs.take k) from fun h0 => by
        obtain ⟨b, off, e, hB, hc⟩ := h (by omega)
        exact ⟨b, off, e, hB, fun j hj => by
          have hj' : j < k := by simp at hj; omega
          rw [hc j (by omega)]
          simp⟩)
      obtain ⟨b, off, rfl, hbB, hc⟩ := h (by omega)
      have g := hc k hlt
      clear hc h
      cases hv : isv xs[k] n with
      | false =>
        have hf := hid (show distV n xs = false from range_no hlt (fits_no1 k hlt hv))
        have I := hid (fun W => isv_is xs[k] n false W hv)
        clear hv
        go_wp2_with fail
        refine (I.out _).mono ?_
        rintro e w2 ⟨rfl, rfl⟩
        go_wp2
        go_ret
        exact ⟨by rw [hf.out]; rfl, rfl⟩
      | true =>
        have I := hid (fun W => isv_is xs[k] n true W hv)
        have HV := hid hv
        obtain ⟨ok, hok⟩ : ∃ z, decide (xs[k] ∈ xs.take k) = z := ⟨_, rfl⟩
        have hlk : (xs.take k).length = k := by simp; omega
        have C := hid (by
          have := lib_contains (some ⟨b, off, none⟩) cap B (xs.take k) xs[k] w (by omega) HT.out
          rw [hok, hlk] at this
          exact this)
        have HO := hid hok
        have hk2 : (k : Int) ≤ (cap : Int) := by omega
        have hk3 : (0 : Int) ≤ (k : Int) := by omega
        clear hv hok hlk
        cases ok with
        | true =>
          have hf := hid (show distV n xs = false from range_no hlt (fits_no2 k hlt HO.out))
          go_wp2_with fail
          refine (I.out _).mono ?_
          rintro e w2 ⟨rfl, rfl⟩
          go_wp2_with fail
          refine C.out.mono ?_
          rintro e w2 ⟨rfl, rfl⟩
          go_wp2
          go_ret
          exact ⟨by rw [hf.out]; rfl, rfl⟩
        | false =>
          have HA := hid (show ∀ j, j < k + 1 → fits n xs j = true from fun j hj => by
            by_cases e : j = k
            · subst e; exact fits_yes j hlt HV.out HO.out
            · exact hall.out j (by omega))
          go_wp2_with fail
          refine (I.out _).mono ?_
          rintro e w2 ⟨rfl, rfl⟩
          go_wp2_with fail
          refine C.out.mono ?_
          rintro e w2 ⟨rfl, rfl⟩
          go_wp2
          go_round
          case rel => exact ⟨k + 1, by omega, by go_num, HA⟩
          case measure => simp [intOf]; omega
    · have hf := hid (show distV n xs = true from range_yes (fun j hj => hall.out j (by omega)))
      clear h
      go_wp2
      go_ret
      exact ⟨by rw [hf.out]; rfl, rfl⟩

set_option maxRecDepth 100000 in
/-- impl.IsValidQuery at every query of some size. -/
theorem impl_vq (cs : List Value) (x : QueryD) (lo hi : Nat) (w : World) (hs : szQ x ≤ 1048576) (h : rQuery w lo hi cs x) (hh : hi ≤ w.heap.size) :
    Calls Tryd.prog 22 #[.agg cs.toArray] w fun e w' => e = .returned (.bool (vq x)) ∧ Below w.heap.size w w' := by
  obtain ⟨a, cap, o, capo, hcs, _, _, ha, ho⟩ := query_open h
  subst hcs
  obtain ⟨_, hcapo⟩ := query_cap h
  have hx1 : tots szA x.2.1 ≤ 1048576 := by unfold szQ at hs; omega
  have hx2 : x.2.2.length ≤ 1048576 := by unfold szQ at hs; omega
  have K := hid (hasl_new w [.int .i64 x.1, .slice a x.2.1.length cap, .slice o x.2.2.length capo] 32)
  have B1 := hid ((Below.refl w.heap.size w).alloc (Nat.le_refl _) (.cells #[.int .i64 x.1, .slice a x.2.1.length cap, .slice o x.2.2.length capo] 32))
  have HQ := hid h
  have HA := hid ha
  have HRo := hid (rd_of ho)
  clear h ha ho
  by_cases h1 : 1 ≤ x.1
  · by_cases h5 : x.1 ≤ 5
    · have HN := hid (inR_yes h1 h5)
      obtain ⟨n, hn⟩ : ∃ n : Nat, x.1 = (n : Int) := ⟨x.1.toNat, by omega⟩
      obtain ⟨okA, hokA⟩ : ∃ z, okAs x.1 x.2.1 = z := ⟨_, rfl⟩
      have E1 := hid (by
        have := impl_atoms a cap x.2.1 x.1 lo hi _ hx1 (HA.out.keep good_atom (sm_below B1.out hh)) (by simp; omega)
        rw [hokA] at this
        exact this)
      have HOA := hid hokA
      have HNN := hid hn
      have hn5 : n ≤ 5 := by omega
      clear hokA hn
      cases okA with
      | false =>
        have hf := hid (vq_as (x := x) HOA.out)
        go_enter Tryd.func22, Tryd.ntmps22
        go_wp2_with fail
        refine E1.out.mono ?_
        rintro e w1 ⟨rfl, hb⟩
        have HB := hid (B1.out.trans (hb.mono (by simp)))
        clear hb
        go_wp2
        go_ret
        exact ⟨by rw [hf.out]; rfl, HB.out⟩
      | true =>
        obtain ⟨okE, hokE⟩ : ∃ z, everyV x.1 x.2.1 = z := ⟨_, rfl⟩
        have E2 := hid (fun W (hW : Below w.heap.size w W) => by
          have := impl_every _ x n lo hi W HNN.out hn5 hx1 (good_query.keep HQ.out (sm_below hW hh)) (Nat.le_trans hh hW.size)
          rw [hokE] at this
          exact this)
        have HOE := hid hokE
        clear hokE
        cases okE with
        | false =>
          have hf := hid (vq_ev (x := x) HOE.out)
          go_enter Tryd.func22, Tryd.ntmps22
          go_wp2_with fail
          refine E1.out.mono ?_
          rintro e w1 ⟨rfl, hb⟩
          have HB := hid (B1.out.trans (hb.mono (by simp)))
          obtain ⟨p0, p1, p2, _, _, _, _⟩ := (K.out.below hb).three
          clear hb
          go_wp2_with fail
          refine (E2.out _ HB.out).mono ?_
          rintro e w2 ⟨rfl, hb⟩
          have HB2 := hid (HB.out.trans (hb.mono HB.out.size))
          clear hb
          go_wp2
          go_ret
          exact ⟨by rw [hf.out]; rfl, HB2.out⟩
        | true =>
          have hf := hid (show vq x = distV x.1 x.2.2 by simp [vq, HN.out, HOA.out, HOE.out])
          have E3 := hid (fun W (hW : Below w.heap.size w W) => impl_dist o capo hi x.2.2 x.1 W hx2 hcapo (HRo.out.below (hW.mono hh)))
          go_enter Tryd.func22, Tryd.ntmps22
          go_wp2_with fail
          refine E1.out.mono ?_
          rintro e w1 ⟨rfl, hb⟩
          have HB := hid (B1.out.trans (hb.mono (by simp)))
          have K1 := hid (K.out.below hb)
          obtain ⟨p0, p1, p2, _, _, _, _⟩ := K1.out.three
          clear hb
          go_wp2_with fail
          refine (E2.out _ HB.out).mono ?_
          rintro e w2 ⟨rfl, hb⟩
          have HB2 := hid (HB.out.trans (hb.mono HB.out.size))
          obtain ⟨q0, q1, q2, _, _, _, _⟩ := (K1.out.below hb).three
          clear hb p0 p1 p2
          go_wp2_with fail
          refine (E3.out _ HB2.out).mono ?_
          rintro e w3 ⟨rfl, rfl⟩
          go_wp2
          go_ret
          exact ⟨by rw [hf.out]; rfl, HB2.out⟩
    · have hf := hid (vq_n (x := x) (inR_no (.inr (by omega))))
      go_enter Tryd.func22, Tryd.ntmps22
      go_wp2
      go_ret
      exact ⟨by rw [hf.out]; rfl, B1.out⟩
  · have hf := hid (vq_n (x := x) (inR_no (.inl (by omega))))
    go_enter Tryd.func22, Tryd.ntmps22
    go_wp2
    go_ret
    exact ⟨by rw [hf.out]; rfl, B1.out⟩
end Go.Proofs.YthghggnlfnbbgabDoor.QryVI
