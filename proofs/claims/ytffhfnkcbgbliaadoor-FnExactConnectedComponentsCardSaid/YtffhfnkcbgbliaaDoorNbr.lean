/- The neighbors of a variable: the model's function and the program's. -/
import Derived.Test.YtffhfnkcbgbliaaDoorSetA
import Derived.Test.YtffhfnkcbgbliaaDoorQryVI
import Derived.Test.YtffhfnkcbgbliaaDoorQryVS
namespace Go.Proofs.YtffhfnkcbgbliaaDoor.Nbr
open Go.RowKit
open Go.Proofs.YtffhfnkcbgbliaaDoor.Num Go.Proofs.YtffhfnkcbgbliaaDoor.IntRow Go.Proofs.YtffhfnkcbgbliaaDoor.IntLaw Go.Proofs.YtffhfnkcbgbliaaDoor.Rdr Go.Proofs.YtffhfnkcbgbliaaDoor.Dat Go.Proofs.YtffhfnkcbgbliaaDoor.HasL Go.Proofs.YtffhfnkcbgbliaaDoor.VarName Go.Proofs.YtffhfnkcbgbliaaDoor.VarIn Go.Proofs.YtffhfnkcbgbliaaDoor.QryP Go.Proofs.YtffhfnkcbgbliaaDoor.QryVI Go.Proofs.YtffhfnkcbgbliaaDoor.QryVS Go.Proofs.YtffhfnkcbgbliaaDoor.SetV Go.Proofs.YtffhfnkcbgbliaaDoor.SetI Go.Proofs.YtffhfnkcbgbliaaDoor.SetA
set_option linter.unusedVariables false

theorem own_lit (w : World) (base : Nat) (e : TypeId) (hb : base ≤ w.heap.size) : Own (w.alloc (.cells #[] e)) base e (.slice (some ⟨w.heap.size, 0, none⟩) 0 0) [] :=
  World.ownsRow_made w #[] 0 hb (by decide) (by decide)

/-- What a valid query's variables are. -/
theorem vq_vars {x : QueryD} (h : vq x = true) : ∃ n : Nat, x.1 = (n : Int) ∧ 1 ≤ n ∧ n ≤ 5 ∧ ∀ a ∈ x.2.1, ∀ z ∈ a.2, 0 ≤ z ∧ z < (n : Int) := by
  unfold vq at h
  simp only [Bool.and_eq_true] at h
  obtain ⟨h1, h2, _, _⟩ := h
  have h1' : 1 ≤ x.1 ∧ x.1 ≤ 5 := by unfold inR at h1; simpa using h1
  refine ⟨x.1.toNat, by omega, by omega, by omega, fun a ha z hz => ?_⟩
  unfold okAs at h2
  simp only [Bool.and_eq_true, List.all_eq_true] at h2
  have h3 := h2.2 a ha
  unfold okA at h3
  simp only [Bool.and_eq_true, List.all_eq_true] at h3
  have h4 := isv_iff.1 (h3.2.2 z hz)
  omega

def hit (v : Int) (w : Nat) (a : AtomD) : Bool := decide ((w : Int) ≠ v) && (decide (v ∈ a.2) && decide ((w : Int) ∈ a.2))
def nbP (us : List AtomD) (v : Int) (w : Nat) : Bool := us.any (hit v w)
def nbr (x : QueryD) (v : Int) : List Int := if vq x = true then fl (nbP x.2.1 v) x.1.toNat else []
theorem nbr_no {x : QueryD} {v : Int} (h : vq x = false) : nbr x v = [] := if_neg (by rw [h]; decide)
theorem nbr_yes {x : QueryD} {v : Int} {n : Nat} (h : vq x = true) (hn : x.1 = (n : Int)) : nbr x v = fl (nbP x.2.1 v) n := by rw [nbr, if_pos h, hn]; rfl
theorem nbr_len (x : QueryD) (v : Int) : (nbr x v).length ≤ 5 := by
  cases h : vq x with
  | false => rw [nbr_no h]; simp
  | true =>
    obtain ⟨n, hn, _, h5, _⟩ := vq_vars h
    rw [nbr_yes h hn]
    have := fl_len (nbP x.2.1 v) n
    omega
theorem hit_far {n : Nat} {v : Int} {w : Nat} {a : AtomD} (h : ∀ z ∈ a.2, 0 ≤ z ∧ z < (n : Int)) (hw : n ≤ w) : hit v w a = false := by
  unfold hit
  have : ¬ (w : Int) ∈ a.2 := fun hm => by have := h _ hm; omega
  simp [this]
theorem nbP_far {us : List AtomD} {n : Nat} {v : Int} {w : Nat} (h : ∀ a ∈ us, ∀ z ∈ a.2, 0 ≤ z ∧ z < (n : Int)) (hw : n ≤ w) : nbP us v w = false := by
  unfold nbP
  rw [List.any_eq_false]
  intro a ha
  rw [hit_far (h a ha) hw]; decide
theorem nbP_none {us : List AtomD} {n : Nat} {v : Int} {w : Nat} (h : ∀ a ∈ us, ∀ z ∈ a.2, 0 ≤ z ∧ z < (n : Int)) (hv : ¬ (0 ≤ v ∧ v < (n : Int))) : nbP us v w = false := by
  unfold nbP
  rw [List.any_eq_false]
  intro a ha
  have : ¬ v ∈ a.2 := fun hm => hv (h a ha _ hm)
  unfold hit
  simp [this]
theorem fl_none {p : Nat → Bool} (k : Nat) (h : ∀ v, v < k → p v = false) : fl p k = [] := by
  have := fl_cut (p := p) (n := 0) k (fun v _ h2 => h v (by omega))
  rw [Nat.zero_add] at this
  exact this
theorem any_step {α : Type} {p : α → Bool} {us : List α} (k : Nat) (h : k < us.length) : (us.take (k + 1)).any p = ((us.take k).any p || p us[k]) := by
  rw [List.take_succ_eq_append_getElem h, List.any_append]
  simp

/-! ### the program's: withNeighbors -/
/-- Does the set s meet the atom? -/
def meets (s : Nat) (a : AtomD) : Bool := (List.range 5).any fun v => s.testBit v && mem a.2 v
theorem meets_is {s n : Nat} {a : AtomD} (hs : s < 32) (hn : Is n (mem a.2)) : decide (n &&& s ≠ 0) = meets s a := by
  have hi := is_and hn (is_self hs)
  cases h : meets s a with
  | true =>
    unfold meets at h
    rw [List.any_eq_true] at h
    obtain ⟨v, hv, hb⟩ := h
    have hv5 : v < 5 := List.mem_range.1 hv
    have := is_some hi hv5 (by rw [Bool.and_comm]; exact hb)
    simpa using this
  | false =>
    unfold meets at h
    rw [List.any_eq_false] at h
    have := is_none hi (fun v hv => by
      have h1 := h v (List.mem_range.2 hv)
      rw [Bool.and_comm]
      simpa using h1)
    simpa using this
def nb (us : List AtomD) (s : Nat) (v : Nat) : Bool := s.testBit v || us.any fun a => meets s a && mem a.2 v
theorem nb_zero {us : List AtomD} {s : Nat} (hs : s < 32) : Is s (nb (us.take 0) s) := is_congr (is_self hs) (fun v _ => by simp [nb])
theorem nb_yes {us : List AtomD} {s m n : Nat} (k : Nat) (h : k < us.length) (hm : meets s us[k] = true) (hn : Is n (mem us[k].2)) (hi : Is m (nb (us.take k) s)) : Is (m ||| n) (nb (us.take (k + 1)) s) :=
  is_congr (is_or hi hn) (fun v _ => by
    show (nb (us.take k) s v || mem us[k].2 v) = nb (us.take (k + 1)) s v
    unfold nb
    rw [any_step k h, hm, Bool.true_and, Bool.or_assoc])
theorem nb_no {us : List AtomD} {s m : Nat} (k : Nat) (h : k < us.length) (hm : meets s us[k] = false) (hi : Is m (nb (us.take k) s)) : Is m (nb (us.take (k + 1)) s) :=
  is_congr hi (fun v _ => by
    unfold nb
    rw [any_step k h, hm, Bool.false_and, Bool.or_false])

set_option maxRecDepth 100000 in
theorem impl_with (a : Option Addr) (cap : Nat) (us : List AtomD) (s lo hi : Nat) (w : World) (hs : tots szA us ≤ 1048576) (hs5 : s < 32) (h : Els 2 rAtom w lo hi a us) (hh : hi ≤ w.heap.size) :
    Calls Tryd.prog 71 #[.slice a us.length cap, .int .u64 s] w fun e w' => ∃ m : Nat, e = .returned (.int .u64 m) ∧ Is m (nb us s) ∧ Below w.heap.size w w' := by
  have hn1 : us.length ≤ 1048576 := by have := tots_len szA us; omega
  have HG := hid h
  have HSA := hid (fun j (hj : j < us.length) => show us[j].2.length ≤ 1048576 by have := elem_le szA us j hj; exact Nat.le_trans (Nat.le_add_left _ _) (show szA us[j] ≤ 1048576 by omega))
  clear h hs
  go_enter Tryd.func71, Tryd.ntmps71
  go_wp2
  go_loopw [5, 7, 8, 12] (fun z _ _ i wr => ∃ k m : Nat, k ≤ us.length ∧ i = .int .i64 k ∧ z = .int .u64 m ∧ m < 32 ∧ Hid (Is m (nb (us.take k) s)) ∧ Hid (Below w.heap.size w wr)) (fun _ _ _ i _ => us.length - (intOf i).toNat)
  case atStart => exact ⟨0, s, Nat.zero_le _, rfl, rfl, hs5, hid (nb_zero hs5), hid (Below.refl _ _)⟩
  case round =>
    obtain ⟨k, m, hk, rfl, rfl, hm, his, hb⟩ := hrel
    by_cases hlt : k < us.length
    · have hlt' : (k : Int) < (us.length : Int) := by omega
      have h0' : (0 : Int) ≤ (k : Int) := by omega
      obtain ⟨b, off, aj, capj, he, _, hbB, c0, c1, rx⟩ := atoms_at (HG.out.grow good_atom hb.out hh) k hlt
      subst he
      obtain ⟨_, _, hae, _, _, hr⟩ := atom_open rx
      simp only [List.cons.injEq, Value.slice.injEq, and_true, true_and] at hae
      obtain ⟨rfl, rfl⟩ := hae
      have hsz := hb.out.size
      have B2 := hid ((Below.refl wr.heap.size wr).alloc (Nat.le_refl _) (.cells #[.string us[k].1, .slice aj us[k].2.length capj] 97))
      have HB2 := hid (hb.out.trans (B2.out.mono hsz))
      obtain ⟨n, hn⟩ := ex_is (mem us[k].2)
      have C := hid (ofM aj capj hi us[k].2 n _ (HSA.out k hlt) ((rd_of hr).below (B2.out.mono (by omega))) hn)
      obtain ⟨bb, hbb⟩ : ∃ z, meets s us[k] = z := ⟨_, rfl⟩
      have D := hid (fun W => impl_meets n s bb W hn.1 hs5 (by rw [meets_is hs5 hn, hbb]))
      clear rx hr
      cases bb with
      | false =>
        have HI := hid (nb_no k hlt hbb his.out)
        clear hbb his hn
        go_wp2_with fail
        with_reducible refine C.out.mono ?_
        rintro e w2 ⟨rfl, rfl⟩
        go_wp2_with fail
        with_reducible refine (D.out _).mono ?_
        rintro e w3 ⟨rfl, rfl⟩
        clear c0 c1
        go_wp2
        go_roundw
        case rel => exact ⟨k + 1, m, by omega, by go_num, rfl, hm, HI, HB2⟩
        case measure => simp [intOf]; omega
      | true =>
        have HI := hid (nb_yes k hlt hbb hn his.out)
        obtain ⟨p, hp⟩ : ∃ z, m ||| n = z := ⟨_, rfl⟩
        have e2 : bits .or .u64 (m : Int) (n : Int) = (p : Int) := by rw [← hp]; exact u_or hm hn.1
        rw [hp] at HI
        clear hbb his hn hp
        go_wp2_with fail
        with_reducible refine C.out.mono ?_
        rintro e w2 ⟨rfl, rfl⟩
        go_wp2_with fail
        with_reducible refine (D.out _).mono ?_
        rintro e w3 ⟨rfl, rfl⟩
        clear c0 c1
        go_wp2
        go_roundw
        case rel => exact ⟨k + 1, p, by omega, by go_num, rfl, HI.out.1, HI, HB2⟩
        case measure => simp [intOf]; omega
    · have e : k = us.length := by omega
      subst e
      have HI := hid (show Is m (nb us s) by have := his.out; rw [List.take_length] at this; exact this)
      clear his
      go_wp2
      go_ret
      exact ⟨m, rfl, HI.out, hb.out⟩

/-- The set of k with its neighbors, without k. -/
theorem nb_one {us : List AtomD} {m k : Nat} (hk : k < 5) (h : Is m (nb us (2 ^ k))) : Is (m ^^^ (m &&& 2 ^ k)) (nbP us (k : Int)) :=
  is_congr (is_sub h (is_one hk)) (fun w hw => by
    have hme : ∀ a : AtomD, meets (2 ^ k) a = mem a.2 k := fun a => by
      unfold meets
      rw [Bool.eq_iff_iff, List.any_eq_true]
      constructor
      · rintro ⟨v, _, hv⟩
        rw [Nat.testBit_two_pow, Bool.and_eq_true, decide_eq_true_eq] at hv
        rw [hv.1]; exact hv.2
      · intro hv
        exact ⟨k, List.mem_range.2 hk, by rw [Nat.testBit_two_pow, Bool.and_eq_true, decide_eq_true_eq]; exact ⟨rfl, hv⟩⟩
    show (nb us (2 ^ k) w && !decide (k = w)) = nbP us (k : Int) w
    unfold nb nbP
    rw [Nat.testBit_two_pow]
    by_cases e : k = w
    · subst e
      have : us.any (hit (k : Int) k) = false := by rw [List.any_eq_false]; intro a _; simp [hit]
      rw [this]; simp
    · have e1 : (w : Int) ≠ (k : Int) := by omega
      have : us.any (hit (k : Int) w) = us.any (fun a => meets (2 ^ k) a && mem a.2 w) := by
        congr 1
        funext a
        rw [hme, hit, decide_eq_true e1, Bool.true_and]; rfl
      rw [this, decide_eq_false e]; simp)

def Nb (x : QueryD) (v : Int) (w : World) (e : Ending) (w' : World) : Prop := ∃ a cap, e = .returned (.slice a (nbr x v).length cap) ∧ Own w' w.heap.size 3 (.slice a (nbr x v).length cap) (nbr x v) ∧ Below w.heap.size w w'

/-! ### the model's -/
theorem nb_hitE {us : List AtomD} {v : Int} {w j : Nat} (h : j < us.length) {b1 b2 b3 : Bool} (e1 : decide ((w : Int) ≠ v) = b1) (e2 : decide (v ∈ us[j].2) = b2) (e3 : decide ((w : Int) ∈ us[j].2) = b3) {b : Bool} (hb : (us.take j).any (hit v w) = b) : (us.take (j + 1)).any (hit v w) = (b || (b1 && (b2 && b3))) := by
  rw [any_step j h, hb, hit, e1, e2, e3]
theorem hit_once {us : List AtomD} {v : Int} {w j : Nat} (h : j < us.length) (hb : (us.take j).any (hit v w) = true) : (us.take (j + 1)).any (hit v w) = true := by
  rw [any_step j h, hb, Bool.true_or]

set_option maxRecDepth 100000 in
set_option maxHeartbeats 1000000 in
theorem spec_nbr (cs : List Value) (x : QueryD) (v : Int) (lo hi : Nat) (w : World) (hs : szQ x ≤ 1048576) (h : rQuery w lo hi cs x) (hh : hi ≤ w.heap.size) :
    Calls Tryd.prog 43 #[.agg cs.toArray, .int .i64 v] w (Nb x v w) := by
  obtain ⟨i0, hi0, hz0, hz1, hz2⟩ := info_parts IntLaw.info
  obtain ⟨q, capq, o, capo, hcs, _, _, hqe, _⟩ := query_open h
  subst hcs
  have K := hid (hasl_new w [.int .i64 x.1, .slice q x.2.1.length capq, .slice o x.2.2.length capo] 48)
  have B1 := hid ((Below.refl w.heap.size w).alloc (Nat.le_refl _) (.cells #[.int .i64 x.1, .slice q x.2.1.length capq, .slice o x.2.2.length capo] 48))
  have hn2 : x.2.1.length ≤ 1048576 := by have := tots_len szA x.2.1; unfold szQ at hs; omega
  have HSA := hid (fun j (hj : j < x.2.1.length) => show x.2.1[j].2.length ≤ 1048576 by have := elem_le szA x.2.1 j hj; unfold szA at this; unfold szQ szA at hs; omega)
  obtain ⟨qv, hqv⟩ : ∃ z, vq x = z := ⟨_, rfl⟩
  have VQ := hid (fun W (hW : Below w.heap.size w W) => by
    have := spec_vq _ x lo hi W hs (good_query.keep h (sm_below hW hh)) (Nat.le_trans hh hW.size)
    rw [hqv] at this
    exact this)
  have HQE := hid hqe
  have HQV := hid hqv
  clear h hqe hs hqv
  cases qv with
  | false =>
    have HF := hid (nbr_no (v := v) HQV.out)
    go_enter Tryd.func43, Tryd.ntmps43
    go_wp2
    go_loopw [5, 6] (fun s i wr => s = .slice (some ⟨w.heap.size + 1, 0, none⟩) 0 0 ∧ i = .int .i64 0 ∧ Hid (HasL wr w.heap.size [.int .i64 x.1, .slice q x.2.1.length capq, .slice o x.2.2.length capo]) ∧ Own wr (w.heap.size + 1) 3 (.slice (some ⟨w.heap.size + 1, 0, none⟩) 0 0) [] ∧ Hid (Below w.heap.size w wr)) (fun _ _ _ => 0)
    case atStart => exact ⟨rfl, rfl, hid (K.out.alloc _), by simpa using own_lit (w.alloc (.cells #[.int .i64 x.1, .slice q x.2.1.length capq, .slice o x.2.2.length capo] 48)) (w.heap.size + 1) 3 (by simp), hid (B1.out.alloc B1.out.size _)⟩
    case round =>
      obtain ⟨rfl, rfl, kk, hown, hb⟩ := hrel
      obtain ⟨q0, q1, q2, _, _, _, q6⟩ := kk.out.three
      by_cases hlt : (0 : Int) < x.1
      · go_wp2_with fail
        with_reducible refine (VQ.out _ hb.out).mono ?_
        rintro e w1 ⟨rfl, hb1⟩
        have HB := hid (hb.out.trans (hb1.mono hb.out.size))
        have HO := hid ((hown.below' hb1).mono (show w.heap.size ≤ w.heap.size + 1 by omega))
        clear hb1 q0 q1 q2 q6
        go_wp2
        go_ret
        refine ⟨some ⟨w.heap.size + 1, 0, none⟩, 0, by rw [HF.out]; rfl, ?_, HB.out⟩
        rw [HF.out]
        exact HO.out
      · have HO := hid (hown.mono (show w.heap.size ≤ w.heap.size + 1 by omega))
        go_wp2
        go_ret
        refine ⟨some ⟨w.heap.size + 1, 0, none⟩, 0, by rw [HF.out]; rfl, ?_, hb.out⟩
        rw [HF.out]
        exact HO.out
  | true =>
    obtain ⟨n, hn, hn1, hn5, hva⟩ := vq_vars HQV.out
    have HF := hid (nbr_yes (v := v) HQV.out hn)
    rw [hn] at K B1 VQ
    clear hva
    rw [hn]
    clear hn
    go_enter Tryd.func43, Tryd.ntmps43
    go_wp2
    go_loopw [5, 6, 7, 8] (fun s i _ _ wr => ∃ k : Nat, k ≤ n ∧ i = .int .i64 k ∧ Own wr (w.heap.size + 1) 3 s (fl (nbP x.2.1 v) k) ∧ Hid (HasL wr w.heap.size [.int .i64 (n : Int), .slice q x.2.1.length capq, .slice o x.2.2.length capo]) ∧ Hid (Below w.heap.size w wr) ∧ w.heap.size + 1 ≤ wr.heap.size) (fun _ i _ _ _ => n - (intOf i).toNat)
    case atStart => exact ⟨0, by omega, rfl, by simpa [fl] using own_lit (w.alloc (.cells #[.int .i64 (n : Int), .slice q x.2.1.length capq, .slice o x.2.2.length capo] 48)) (w.heap.size + 1) 3 (by simp), hid (K.out.alloc _), hid (B1.out.alloc B1.out.size _), by simp⟩
    case round =>
      obtain ⟨k, hk, rfl, hown, kk, hb, hsz⟩ := hrel
      obtain ⟨q0, q1, q2, _, _, _, q6⟩ := kk.out.three
      by_cases hlt : k < n
      · have hlt' : (k : Int) < (n : Int) := by omega
        go_wp2_with fail
        with_reducible refine (VQ.out _ hb.out).mono ?_
        rintro e w1 ⟨rfl, hb1⟩
        have HB := hid (hb.out.trans (hb1.mono hb.out.size))
        have KB := hid (kk.out.below hb1)
        have HO := hid (hown.below' hb1)
        have hsz1 : w.heap.size + 1 ≤ w1.heap.size := Nat.le_trans hsz hb1.size
        clear hb1 q0 q1 q2 q6 kk hb hown hsz
        go_wp2
        go_loopw [7, 8] (fun t j w2 => ∃ (j0 : Nat) (b : Bool), j0 ≤ x.2.1.length ∧ j = .int .i64 j0 ∧ t = .bool b ∧ Hid ((x.2.1.take j0).any (hit v k) = b) ∧ Hid (HasL w2 w.heap.size [.int .i64 (n : Int), .slice q x.2.1.length capq, .slice o x.2.2.length capo]) ∧ Hid (Below w1.heap.size w1 w2)) (fun _ j _ => x.2.1.length - (intOf j).toNat)
        case atStart => exact ⟨0, false, Nat.zero_le _, rfl, rfl, hid rfl, KB, hid (Below.refl _ _)⟩
        case round =>
          obtain ⟨j, b, hj, rfl, rfl, hany, kk, hb⟩ := hrel
          obtain ⟨q0, q1, q2, _, _, _, q6⟩ := kk.out.three
          by_cases hjl : j < x.2.1.length
          · have hjl' : (j : Int) < (x.2.1.length : Int) := by omega
            have h0' : (0 : Int) ≤ (j : Int) := by omega
            cases b with
            | true =>
              have HA := hid (hit_once hjl hany.out)
              go_wp2
              go_roundw
              case rel => exact ⟨j + 1, true, by omega, by go_num, rfl, HA, kk, hb⟩
              case measure => simp [intOf]; omega
            | false =>
              by_cases hne : (k : Int) = v
              · have t1 : ((k : Int) != v) = false := by simp [hne]
                have HA := hid (show (x.2.1.take (j + 1)).any (hit v k) = false from nb_hitE (v := v) (w := k) hjl (b1 := false) (by simp [hne]) rfl rfl hany.out)
                clear hne
                go_wp2
                go_roundw
                case rel => exact ⟨j + 1, false, by omega, by go_num, rfl, HA, kk, hb⟩
                case measure => simp [intOf]; omega
              · have t1 : ((k : Int) != v) = true := by simp [hne]
                have HNE := hid (show decide ((k : Int) ≠ v) = true by simp [hne])
                clear hne
                have HBB := hid (HB.out.trans (hb.out.mono HB.out.size))
                obtain ⟨bl, off, aj, capj, he, _, hbB, c0, c1, rx⟩ := atoms_at (HQE.out.grow good_atom HBB.out hh) j hjl
                subst he
                have RX := hid rx
                have C := hid (spec_has _ x.2.1[j] v lo hi _ (HSA.out j hjl) rx (Nat.le_trans hh HBB.out.size))
                clear rx
                cases hin : decide (v ∈ x.2.1[j].2) with
                | false =>
                  have C2 := hid (by have := C.out; rw [hin] at this; exact this)
                  have HA := hid (show (x.2.1.take (j + 1)).any (hit v k) = false from nb_hitE (v := v) (w := k) hjl HNE.out hin rfl hany.out)
                  clear C hin
                  go_wp2_with fail
                  with_reducible refine C2.out.mono ?_
                  rintro e w3 ⟨rfl, hb2⟩
                  have HB2 := hid (hb.out.trans (hb2.mono hb.out.size))
                  have KB2 := hid (kk.out.below hb2)
                  clear hb2 q0 q1 q2 q6 c0 c1
                  go_wp2
                  go_roundw
                  case rel => exact ⟨j + 1, false, by omega, by go_num, rfl, HA, KB2, HB2⟩
                  case measure => simp [intOf]; omega
                | true =>
                  have C2 := hid (by have := C.out; rw [hin] at this; exact this)
                  have HIN := hid hin
                  clear C hin
                  go_wp2_with fail
                  with_reducible refine C2.out.mono ?_
                  rintro e w3 ⟨rfl, hb2⟩
                  have HB2 := hid (hb.out.trans (hb2.mono hb.out.size))
                  have KB2 := hid (kk.out.below hb2)
                  have HBB2 := hid (HBB.out.trans (hb2.mono HBB.out.size))
                  have D := hid (spec_has _ x.2.1[j] (k : Int) lo hi _ (HSA.out j hjl) (good_atom.grow RX.out hb2 (Nat.le_trans hh HBB.out.size)) (Nat.le_trans hh HBB2.out.size))
                  have d0 := (hb2.cell (p := ⟨bl, off + j * 2, none⟩) (by show bl < _; have := HBB.out.size; omega)).trans c0
                  have d1 := (hb2.cell (p := ⟨bl, off + j * 2 + 1, none⟩) (by show bl < _; have := HBB.out.size; omega)).trans c1
                  clear hb2 q0 q1 q2 q6 c0 c1
                  obtain ⟨q0, q1, q2, _, _, _, q6⟩ := KB2.out.three
                  obtain ⟨b3, hb3⟩ : ∃ z, decide ((k : Int) ∈ x.2.1[j].2) = z := ⟨_, rfl⟩
                  have HA := hid (nb_hitE (v := v) (w := k) hjl HNE.out HIN.out hb3 hany.out)
                  rw [hb3] at D
                  have HA2 := hid (show (x.2.1.take (j + 1)).any (hit v k) = b3 by rw [HA.out]; simp)
                  clear hb3 HA
                  go_wp2_with fail
                  with_reducible refine D.out.mono ?_
                  rintro e w4 ⟨rfl, hb2⟩
                  have HB4 := hid (HB2.out.trans (hb2.mono HB2.out.size))
                  have KB4 := hid (KB2.out.below hb2)
                  clear hb2 q0 q1 q2 q6 d0 d1
                  go_wp2
                  go_roundw
                  case rel => exact ⟨j + 1, b3, by omega, by go_num, rfl, HA2, KB4, HB4⟩
                  case measure => simp [intOf]; omega
          · have hjl' : ¬ (j : Int) < (x.2.1.length : Int) := by omega
            have HA := hid (show nbP x.2.1 v k = b by have := hany.out; rw [List.take_of_length_le (by omega)] at this; exact this)
            have HB2 := hid (HB.out.trans (hb.out.mono HB.out.size))
            have HO2 := HO.out.below' hb.out
            have hsz2 : w.heap.size + 1 ≤ wr.heap.size := Nat.le_trans hsz1 hb.out.size
            have hln := fl_len (nbP x.2.1 v) k
            clear hany hb
            cases b with
            | false =>
              have E := hid (fl_no HA.out)
              rw [← E.out] at HO2
              go_wp2
              go_roundw
              case rel => exact ⟨k + 1, by omega, by go_num, HO2, kk, HB2, hsz2⟩
              case measure => simp [intOf]; omega
            | true =>
              have E := hid (fl_yes HA.out)
              go_wp2_with (at_builtin; refine append_int rfl _ _ 22 rfl (w.heap.size + 1) 3 i0 Tryd.underlying22 hi0 hz0 hz1 hz2 wr wr _ (fl (nbP x.2.1 v) k) (k : Int) HO2 (by rfl) (Below.refl _ _) hsz2 _ rfl (by rfl) (by omega) ?_)
              intro v1 w3 hown1 hbel1 hsz3 hgr
              have HB3 := hid (HB2.out.trans (hbel1.mono (by omega)))
              have K3 := hid (kk.out.under hbel1 (by omega))
              rw [← E.out] at hown1
              clear HB2 HO2 hsz2 hbel1 hgr kk q0 q1 q2 q6
              go_wp2
              go_roundw
              case rel => exact ⟨k + 1, by omega, by go_num, hown1, K3, HB3, hsz3⟩
              case measure => simp [intOf]; omega
      · have hlt' : ¬ (k : Int) < (n : Int) := by omega
        have e : k = n := by omega
        subst e
        obtain ⟨av, capv, rfl, _, _, _⟩ := hown.form
        have HO := hid (hown.mono (show w.heap.size ≤ w.heap.size + 1 by omega))
        clear hown kk
        go_wp2
        go_ret
        refine ⟨av, capv, by rw [HF.out]; rfl, ?_, hb.out⟩
        rw [HF.out]
        exact HO.out
end Go.Proofs.YtffhfnkcbgbliaaDoor.Nbr
