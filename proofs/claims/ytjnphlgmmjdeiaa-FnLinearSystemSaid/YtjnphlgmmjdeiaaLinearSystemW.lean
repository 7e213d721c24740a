/- The walk of law FnLinearSystem, at every argument. -/
import Derived.Test.YtjnphlgmmjdeiaaSolP
import Derived.Test.YtjnphlgmmjdeiaaRatsSS
import Derived.Test.YtjnphlgmmjdeiaaRats
import Derived.Laws.StructEq
import Derived.BigQuiet
import Derived.Deep.QuietTactic
import Derived.Test.YtjnphlgmmjdeiaaCur
import Derived.WalkKit
import Derived.ProofKit
import Derived.OpenShut
import Derived.Test.YtjnphlgmmjdeiaaDrawSol
import Derived.Test.YtjnphlgmmjdeiaaSolW
namespace Go.Proofs.Ytjnphlgmmjdeiaa.LinQ
open Go.RowKit
open Go.Proofs.Ytjnphlgmmjdeiaa.Rat Go.Proofs.Ytjnphlgmmjdeiaa.Rats Go.Proofs.Ytjnphlgmmjdeiaa.RatOwn Go.Proofs.Ytjnphlgmmjdeiaa.RatsSS Go.Proofs.Ytjnphlgmmjdeiaa.Smq Go.Proofs.Ytjnphlgmmjdeiaa.Qops Go.Proofs.Ytjnphlgmmjdeiaa.LinP Go.Proofs.Ytjnphlgmmjdeiaa.SolP
set_option linter.unusedVariables false

/-! ### sums -/
def su (f : Nat → _root_.Rat) : Nat → _root_.Rat
  | 0 => 0
  | n + 1 => su f n + f n
theorem su_lin (f g h : Nat → _root_.Rat) (c : _root_.Rat) (n : Nat) (e : ∀ j, j < n → h j = f j + c * g j) : su h n = su f n + c * su g n := by
  induction n with
  | zero => simp only [su]; grind
  | succ n ih => rw [su, su, su, ih (fun j hj => e j (by omega)), e n (by omega)]; grind
theorem su_zero (f : Nat → _root_.Rat) (n : Nat) (e : ∀ j, j < n → f j = 0) : su f n = 0 := by
  induction n with
  | zero => rfl
  | succ n ih => rw [su, ih (fun j hj => e j (by omega)), e n (by omega)]; grind
theorem su_one (f : Nat → _root_.Rat) (n i : Nat) (hi : i < n) (e : ∀ j, j < n → j ≠ i → f j = 0) : su f n = f i := by
  induction n with
  | zero => omega
  | succ n ih =>
    rw [su]
    by_cases h : i = n
    · subst h
      rw [su_zero f i (fun j hj => e j (by omega) (by omega))]; grind
    · rw [ih (by omega) (fun j hj => e j (by omega)), e n (by omega) (fun hh => h hh.symm)]; grind
theorem su_congr (f g : Nat → _root_.Rat) (n : Nat) (e : ∀ j, j < n → f j = g j) : su f n = su g n := by
  induction n with
  | zero => rfl
  | succ n ih => rw [su, su, ih (fun j hj => e j (by omega)), e n (by omega)]

/-! ### values -/
def rv (p : RatD) : _root_.Rat := (p.1 : _root_.Rat) / (p.2 : _root_.Rat)
theorem cast_ne {b : Int} (h : b ≠ 0) : (b : _root_.Rat) ≠ 0 := fun e => h (by exact_mod_cast e)
theorem rv_zero {p : RatD} (h : p.1 = 0) : rv p = 0 := by unfold rv; rw [h]; simp; grind
theorem vr_den {p : RatD} (h : vr p.1 p.2 = true) : (p.2 : _root_.Rat) ≠ 0 := cast_ne (by have := (vr_true h).1; omega)
theorem nrm_val {n d : Int} {r : RatD} (h : nrm n d = some r) : (d : _root_.Rat) ≠ 0 ∧ rv r * (d : _root_.Rat) = (n : _root_.Rat) := by
  unfold nrm at h
  split at h
  · next h2 =>
    injection h with h
    subst h
    unfold nok at h2
    rw [Bool.and_eq_true] at h2
    have hd := (fits_true h2.1).1
    have hy : ((ny n d : Int) : _root_.Rat) ≠ 0 := cast_ne (by have := ny_pos (n := n) hd; omega)
    have e1 : ((nx n d : Int) : _root_.Rat) * ((gd n d : Int) : _root_.Rat) = (n : _root_.Rat) := by rw [← _root_.Rat.intCast_mul, nx_mul]
    have e2 : ((ny n d : Int) : _root_.Rat) * ((gd n d : Int) : _root_.Rat) = (d : _root_.Rat) := by rw [← _root_.Rat.intCast_mul, ny_mul]
    refine ⟨cast_ne hd, ?_⟩
    unfold rv
    dsimp only
    rw [← e1, ← e2]
    grind
  · cases h
theorem rv_inj {p q : RatD} (hp : vr p.1 p.2 = true) (hq : vr q.1 q.2 = true) (h : rv p = rv q) : p = q := by
  have h1 := vr_den hp
  have h2 := vr_den hq
  have hx : (p.1 : _root_.Rat) * (q.2 : _root_.Rat) = (q.1 : _root_.Rat) * (p.2 : _root_.Rat) := by unfold rv at h; grind
  have hi : p.1 * q.2 = q.1 * p.2 := by
    rw [← _root_.Rat.intCast_mul, ← _root_.Rat.intCast_mul] at hx
    exact _root_.Rat.intCast_inj.1 hx
  obtain ⟨a1, _, _, _, a5⟩ := vr_true hp
  obtain ⟨b1, _, _, _, b5⟩ := vr_true hq
  have u := nuniq (n := p.1) (d := p.2) (a := q.1) (b := q.2) (by omega) b1 b5 hi.symm
  have s := nself a1 a5
  ext
  · rw [← s.1, u.1]
  · rw [← s.2, u.2]
theorem mulQ_val {p q r : RatD} (h : mulQ p q = some r) : rv r = rv p * rv q := by
  obtain ⟨hp, hq⟩ := mulQ_args h
  unfold mulQ at h
  rw [hp, hq, if_pos (by rfl)] at h
  have hv := nrm_val h
  have h1 := vr_den hp
  have h2 := vr_den hq
  rw [_root_.Rat.intCast_mul, _root_.Rat.intCast_mul] at hv
  have hr : rv r = rv r := rfl
  unfold rv at *
  grind
theorem subQ_val {p q r : RatD} (h : subQ p q = some r) : rv r = rv p - rv q := by
  obtain ⟨hp, hq⟩ := subQ_args h
  unfold subQ at h
  rw [hp, hq, if_pos (by rfl)] at h
  have hv := nrm_val h
  have h1 := vr_den hp
  have h2 := vr_den hq
  rw [_root_.Rat.intCast_mul, _root_.Rat.intCast_sub, _root_.Rat.intCast_mul, _root_.Rat.intCast_mul] at hv
  unfold rv at *
  grind
theorem divQ_val {p q r : RatD} (h : divQ p q = some r) : rv r * rv q = rv p := by
  obtain ⟨hp, hq⟩ := divQ_args h
  unfold divQ at h
  rw [hp, hq, if_pos (by rfl)] at h
  have hv := nrm_val h
  have h1 := vr_den hp
  have h2 := vr_den hq
  rw [_root_.Rat.intCast_mul, _root_.Rat.intCast_mul] at hv
  unfold rv at *
  grind
theorem addQ_val {p q r : RatD} (hp : vr p.1 p.2 = true) (h : addQ p q = some r) : rv r = rv p + rv q := by
  unfold addQ at h
  split at h
  · next hq =>
    split at h
    · next hn =>
      have hv := nrm_val (n := p.1 * q.2 + q.1 * p.2) (d := p.2 * q.2) (r := r) (by unfold nrm; rw [if_pos hn]; exact h)
      have h1 := vr_den hp
      have h2 := vr_den (p := q) (by rw [Bool.and_eq_true] at hq; exact hq.2)
      rw [_root_.Rat.intCast_mul, _root_.Rat.intCast_add, _root_.Rat.intCast_mul, _root_.Rat.intCast_mul] at hv
      unfold rv at *
      grind
    · cases h
  · cases h

/-! ### products -/
def at0 (r : List RatD) (j : Nat) : _root_.Rat := rv (r.getD j (0, 0))
theorem dt_val {xs ys : List RatD} {k : Nat} {p : RatD} (h : dt xs ys k = some p) : rv p = su (fun j => at0 xs j * at0 ys j) k := by
  induction k generalizing p with
  | zero => rw [dt] at h; injection h with h; subst h; rw [su]; exact rv_zero rfl
  | succ k ih =>
    rw [dt] at h
    cases hq : dt xs ys k with
    | none => rw [hq] at h; cases h
    | some q =>
      rw [hq, Option.bind_some] at h
      cases hm : mulQ (xs.getD k (0, 0)) (ys.getD k (0, 0)) with
      | none => rw [hm] at h; cases h
      | some m =>
        rw [hm, Option.bind_some] at h
        rw [su, addQ_val (dt_vr hq) h, ih hq, mulQ_val hm]
        rfl

/-! ### matrices -/
def en (m : MatD) (i j : Nat) : _root_.Rat := at0 (m.getD i []) j
def Sat (m : MatD) (N : Nat) (x : Nat → _root_.Rat) : Prop := ∀ i, i < N → su (fun j => en m i j * x j) N = en m i N
/-- The first p columns are zero but for the diagonal. -/
def Dg (m : MatD) (N p : Nat) : Prop := ∀ i j, i < N → j < p → j ≠ i → en m i j = 0
theorem ro_val {r q l : List RatD} {f : RatD} {p k : Nat} (h : ro r q f p k = some l) (hr : p + k ≤ r.length) : ∀ j, (p ≤ j ∧ j < p + k → at0 l j = at0 r j - rv f * at0 q j) ∧ (¬ (p ≤ j ∧ j < p + k) → at0 l j = at0 r j) := by
  induction k generalizing l with
  | zero => rw [ro] at h; injection h with h; subst h; exact fun j => ⟨fun e => by omega, fun _ => rfl⟩
  | succ k ih =>
    rw [ro] at h
    cases h1 : ro r q f p k with
    | none => rw [h1] at h; cases h
    | some l1 =>
      rw [h1, Option.bind_some] at h
      cases h2 : mulQ f (q.getD (p + k) (0, 0)) with
      | none => rw [h2] at h; cases h
      | some pr =>
        rw [h2, Option.bind_some] at h
        cases h3 : subQ (r.getD (p + k) (0, 0)) pr with
        | none => rw [h3] at h; cases h
        | some d =>
          rw [h3] at h
          injection h with h
          subst h
          have hl := ro_len h1
          intro j
          by_cases e : j = p + k
          · subst e
            refine ⟨fun _ => ?_, fun hc => absurd (by omega) hc⟩
            have : (l1.set (p + k) d).getD (p + k) (0, 0) = d := by rw [List.getD_eq_getElem?_getD, List.getElem?_set_self (by omega)]; rfl
            unfold at0
            rw [this, subQ_val h3, mulQ_val h2]
          · have hs : at0 (l1.set (p + k) d) j = at0 l1 j := by unfold at0; rw [List.getD_eq_getElem?_getD, List.getD_eq_getElem?_getD, List.getElem?_set_ne (fun hh => e hh.symm)]
            rw [hs]
            obtain ⟨i1, i2⟩ := ih h1 (by omega) j
            exact ⟨fun hc => i1 (by omega), fun hc => i2 (by omega)⟩
/-- A row cleared: r less a multiple of q, whose columns before p are zero. -/
theorem rowOp_val {r q l : List RatD} {p n : Nat} (h : rowOp r q p n = some l) (hr : p + n = r.length) (hn : 0 < n) (hq : ∀ j, j < p → at0 q j = 0) : (∃ c : _root_.Rat, ∀ j, j < r.length → at0 r j = at0 l j + c * at0 q j) ∧ at0 l p = 0 ∧ l.length = r.length ∧ ∀ j, j < p → at0 l j = at0 r j := by
  unfold rowOp at h
  cases hd : divQ (r.getD p (0, 0)) (q.getD p (0, 0)) with
  | none => rw [hd] at h; cases h
  | some f =>
    rw [hd, Option.bind_some] at h
    have hv := ro_val h (by omega)
    have hf := divQ_val hd
    refine ⟨⟨rv f, fun j hj => ?_⟩, ?_, ro_len h, fun j hj => (hv j).2 (by omega)⟩
    · by_cases e : p ≤ j
      · rw [(hv j).1 (by omega)]; grind
      · rw [(hv j).2 (by omega), hq j (by omega)]; grind
    · rw [(hv p).1 (by omega)]
      have : rv f * at0 q p = at0 r p := hf
      grind
theorem getD_set_same {m : MatD} {i : Nat} (h : i < m.length) (r : List RatD) : (m.set i r).getD i [] = r := by rw [List.getD_eq_getElem?_getD, List.getElem?_set_self h]; rfl
theorem getD_set_other {m : MatD} {i j : Nat} (h : i ≠ j) (r : List RatD) : (m.set i r).getD j [] = m.getD j [] := by rw [List.getD_eq_getElem?_getD, List.getD_eq_getElem?_getD, List.getElem?_set_ne h]
/-- What clearing the first i rows in column p does. -/
theorem clr_val {m m' : MatD} {p N i : Nat} (h : clr m p (N + 1 - p) i = some m') (hi : i ≤ N) (hp : p < N) (hl : m.length = N) (hr : ∀ j, j < N → (m.getD j []).length = N + 1) (hd : Dg m N p) :
    m'.length = N ∧ (∀ j, j < N → (m'.getD j []).length = N + 1) ∧ m'.getD p [] = m.getD p [] ∧ (∀ a, a < N → ∃ c : _root_.Rat, ∀ j, j < N + 1 → en m a j = en m' a j + c * en m p j) ∧ (∀ a j, a < N → j < p → en m' a j = en m a j) ∧ (∀ a, a < i → a ≠ p → en m' a p = 0) := by
  induction i generalizing m' with
  | zero =>
    rw [clr] at h; injection h with h; subst h
    exact ⟨hl, hr, rfl, fun a ha => ⟨0, fun j hj => by grind⟩, fun _ _ _ _ => rfl, fun a ha => by omega⟩
  | succ i ih =>
    rw [clr] at h
    cases h1 : clr m p (N + 1 - p) i with
    | none => rw [h1] at h; cases h
    | some m1 =>
      rw [h1, Option.bind_some] at h
      obtain ⟨k1, k2, k3, k4, k5, k6⟩ := ih h1 (by omega)
      split at h
      · next hz =>
        injection h with h
        subst h
        refine ⟨k1, k2, k3, k4, k5, fun a ha hap => ?_⟩
        by_cases e : a = i
        · subst e
          rcases hz with hz | hz
          · exact absurd hz hap
          · exact rv_zero hz
        · exact k6 a (by omega) hap
      · next hz =>
        have hip : i ≠ p := fun e => hz (.inl e)
        cases h2 : rowOp (m1.getD i []) (m1.getD p []) p (N + 1 - p) with
        | none => rw [h2] at h; cases h
        | some l =>
          rw [h2] at h
          injection h with h
          subst h
          have hil : i < m1.length := by omega
          obtain ⟨⟨c, hc⟩, hz0, hll, hlo⟩ := rowOp_val h2 (by rw [k2 i (by omega)]; omega) (by omega) (fun j hj => by rw [k3]; exact hd p j hp hj (by omega))
          rw [k2 i (by omega)] at hc hll
          refine ⟨by rw [List.length_set]; exact k1, fun j hj => ?_, ?_, fun a ha => ?_, fun a j ha hj => ?_, fun a ha hap => ?_⟩
          · by_cases e : i = j
            · subst e; rw [getD_set_same hil]; exact hll
            · rw [getD_set_other e]; exact k2 j hj
          · rw [getD_set_other hip]; exact k3
          · obtain ⟨c0, hc0⟩ := k4 a ha
            by_cases e : i = a
            · subst e
              refine ⟨c0 + c, fun j hj => ?_⟩
              have e1 : en (m1.set i l) i j = at0 l j := by unfold en; rw [getD_set_same hil]
              have e2 := hc j hj
              have e3 : en m p j = at0 (m1.getD p []) j := by unfold en; rw [k3]
              have e4 : en m1 i j = at0 (m1.getD i []) j := rfl
              rw [hc0 j hj, e1, e4, e2, e3]
              grind
            · refine ⟨c0, fun j hj => ?_⟩
              have e1 : en (m1.set i l) a j = en m1 a j := by unfold en; rw [getD_set_other e]
              rw [e1]; exact hc0 j hj
          · by_cases e : i = a
            · subst e
              have e1 : en (m1.set i l) i j = at0 l j := by unfold en; rw [getD_set_same hil]
              rw [e1, hlo j hj]; exact k5 i j ha hj
            · have e1 : en (m1.set i l) a j = en m1 a j := by unfold en; rw [getD_set_other e]
              rw [e1]; exact k5 a j ha hj
          · by_cases e : i = a
            · subst e
              have e1 : en (m1.set i l) i p = at0 l p := by unfold en; rw [getD_set_same hil]
              rw [e1]; exact hz0
            · have e1 : en (m1.set i l) a p = en m1 a p := by unfold en; rw [getD_set_other e]
              rw [e1]; exact k6 a (by omega) hap
theorem piv_at {m : MatD} {p c k j : Nat} (h : piv m p c k = some j) : k ≤ j ∧ j < k + c := by
  induction c generalizing k with
  | zero => cases h
  | succ c ih =>
    rw [piv] at h
    split at h
    · have := ih h; omega
    · injection h with h; omega
def sg2 (p k i : Nat) : Nat := if i = k then p else if i = p then k else i
theorem swp_at {m : MatD} {p k : Nat} (hp : p < m.length) (hk : k < m.length) (i : Nat) : (swp m p k).getD i [] = m.getD (sg2 p k i) [] := by
  unfold swp sg2
  by_cases e : i = k
  · subst e
    rw [if_pos rfl, getD_set_same (by simpa using hk)]
  · rw [if_neg e, getD_set_other (fun h => e h.symm)]
    by_cases e2 : i = p
    · subst e2; rw [if_pos rfl, getD_set_same hp]
    · rw [if_neg e2, getD_set_other (fun h => e2 h.symm)]
theorem gj_val {m m' : MatD} {N p : Nat} (h : gj m N p = some m') (hp : p ≤ N) (hl : m.length = N) (hr : ∀ j, j < N → (m.getD j []).length = N + 1) :
    m'.length = N ∧ (∀ j, j < N → (m'.getD j []).length = N + 1) ∧ Dg m' N p ∧ ∀ x, Sat m' N x → Sat m N x := by
  induction p generalizing m' with
  | zero => rw [gj] at h; injection h with h; subst h; exact ⟨hl, hr, fun i j _ hj => by omega, fun x hx => hx⟩
  | succ p ih =>
    rw [gj] at h
    cases h1 : gj m N p with
    | none => rw [h1] at h; cases h
    | some m1 =>
      rw [h1, Option.bind_some] at h
      obtain ⟨k1, k2, k3, k4⟩ := ih h1 (by omega)
      cases h2 : piv m1 p (N - p) p with
      | none => rw [h2] at h; cases h
      | some k =>
        rw [h2, Option.bind_some] at h
        have hk := piv_at h2
        have hpl : p < m1.length := by omega
        have hkl : k < m1.length := by omega
        have hsw := swp_at hpl hkl
        have hen : ∀ i j, en (swp m1 p k) i j = en m1 (sg2 p k i) j := fun i j => by unfold en; rw [hsw]
        have hsl : (swp m1 p k).length = N := by unfold swp; simp; exact k1
        have hsN : ∀ i, i < N → sg2 p k i < N := fun i hi => by unfold sg2; split <;> (try split) <;> omega
        have hsd : Dg (swp m1 p k) N p := fun i j hi hj hne => by
          rw [hen]
          refine k3 _ j (hsN i hi) hj ?_
          unfold sg2
          split
          · omega
          · split
            · omega
            · exact hne
        obtain ⟨q1, q2, q3, q4, q5, q6⟩ := clr_val h (Nat.le_refl N) (by omega) hsl (fun j hj => by rw [hsw]; exact k2 _ (hsN j hj)) hsd
        refine ⟨q1, q2, fun i j hi hj hne => ?_, fun x hx => k4 x fun i hi => ?_⟩
        · by_cases e : j = p
          · subst e; exact q6 i hi (fun h => hne h.symm)
          · rw [q5 i j hi (by omega)]; exact hsd i j hi (by omega) hne
        · have hsat : ∀ a, a < N → su (fun j => en (swp m1 p k) a j * x j) N = en (swp m1 p k) a N := fun a ha => by
            obtain ⟨c, hc⟩ := q4 a ha
            have ep : ∀ j, en (swp m1 p k) p j = en m' p j := fun j => by unfold en; rw [q3]
            rw [su_lin (fun j => en m' a j * x j) (fun j => en m' p j * x j) (fun j => en (swp m1 p k) a j * x j) c N (fun j hj => by
              rw [hc j (by omega), ep]; grind), hx a ha, hx p (by omega), hc N (by omega), ep]
          have e := hsat (sg2 p k i) (hsN i hi)
          have ei : sg2 p k (sg2 p k i) = i := by unfold sg2; (repeat' split) <;> omega
          rw [hen, ei, su_congr _ (fun j => en m1 i j * x j) N (fun j _ => by rw [hen, ei])] at e
          exact e
theorem quo_val {m : MatD} {N k : Nat} {o : List RatD} (h : quo m N k = some o) : o.length = k ∧ ∀ i, i < k → at0 o i * en m i i = en m i N := by
  induction k generalizing o with
  | zero => rw [quo] at h; injection h with h; subst h; exact ⟨rfl, fun i hi => by omega⟩
  | succ k ih =>
    rw [quo] at h
    cases hq : quo m N k with
    | none => rw [hq] at h; cases h
    | some q =>
      rw [hq, Option.bind_some] at h
      cases hd : divQ ((m.getD k []).getD N (0, 0)) ((m.getD k []).getD k (0, 0)) with
      | none => rw [hd] at h; cases h
      | some r =>
        rw [hd] at h
        injection h with h
        subst h
        obtain ⟨h1, h2⟩ := ih hq
        refine ⟨by simp [h1], fun i hi => ?_⟩
        by_cases e : i = k
        · subst e
          have : at0 (q ++ [r]) i = rv r := by unfold at0; rw [List.getD_eq_getElem?_getD, List.getElem?_append_right (by omega), h1]; simp
          rw [this]
          exact divQ_val hd
        · have : at0 (q ++ [r]) i = at0 q i := by unfold at0; rw [List.getD_eq_getElem?_getD, List.getD_eq_getElem?_getD, List.getElem?_append_left (by omega)]
          rw [this]
          exact h2 i (by omega)
/-- What elimination finds satisfies the system. -/
theorem solves {a : MatD} {b x c : List RatD} (h : solQ a b = some x) (hc : mvQ a x = some c) : c = b := by
  unfold solQ at h
  split at h
  · next hok =>
    unfold sysOk at hok
    simp only [Bool.and_eq_true, decide_eq_true_eq] at hok
    obtain ⟨⟨⟨h6, hl⟩, hm⟩, hv⟩ := hok
    have hrow : ∀ j (hj : j < a.length), a[j].length = b.length := fun j hj => (okM_at hm j hj).1
    have hag : ∀ j, j < b.length → (aug a b).getD j [] = a.getD j [] ++ [b.getD j (0, 0)] := fun j hj => by
      have hj2 : j < (aug a b).length := by unfold aug; simp; omega
      rw [List.getD_eq_getElem?_getD, List.getElem?_eq_getElem hj2]
      simp [aug]
    have hal : ∀ j, j < b.length → (a.getD j []).length = b.length := fun j hj => by
      rw [List.getD_eq_getElem?_getD, List.getElem?_eq_getElem (by omega : j < a.length)]
      exact hrow j (by omega)
    cases hg : gj (aug a b) b.length b.length with
    | none => rw [hg] at h; cases h
    | some m =>
      rw [hg, Option.bind_some] at h
      obtain ⟨_, _, hD, hS⟩ := gj_val hg (Nat.le_refl _) (by unfold aug; simp; exact hl) (fun j hj => by rw [hag j hj, List.length_append, hal j hj]; rfl)
      obtain ⟨hxl, hx⟩ := quo_val h
      have hsat := hS (at0 x) (fun i hi => by
        rw [su_one _ b.length i hi (fun j hj hne => by rw [hD i j hi hj hne]; grind)]
        have := hx i hi
        grind)
      have hcl : c.length = a.length := mv_len hc
      have hcv : ∀ k o, mv a x k = some o → k ≤ a.length → ∀ i, i < k → ∃ p, dotQ (a.getD i []) x = some p ∧ o.getD i (0, 0) = p := by
        intro k
        induction k with
        | zero => intro o _ _ i hi; omega
        | succ k ih =>
          intro o ho hk i hi
          rw [mv] at ho
          cases hq : mv a x k with
          | none => rw [hq] at ho; cases ho
          | some q =>
            rw [hq, Option.bind_some] at ho
            cases hd : dotQ (a.getD k []) x with
            | none => rw [hd] at ho; cases ho
            | some r =>
              rw [hd] at ho
              injection ho with ho
              subst ho
              have hql := mv_len hq
              by_cases e : i = k
              · subst e
                exact ⟨r, hd, by rw [List.getD_eq_getElem?_getD, List.getElem?_append_right (by omega), hql]; simp⟩
              · obtain ⟨p, h1, h2⟩ := ih q hq (by omega) i (by omega)
                exact ⟨p, h1, by rw [← h2, List.getD_eq_getElem?_getD, List.getD_eq_getElem?_getD, List.getElem?_append_left (by omega)]⟩
      apply List.ext_getElem (by omega)
      intro i h1 h2
      obtain ⟨p, hp, hp2⟩ := hcv a.length c hc (Nat.le_refl _) i (by omega)
      have e1 : c[i] = p := by rw [← hp2, List.getD_eq_getElem?_getD, List.getElem?_eq_getElem h1]; rfl
      have e2 : b.getD i (0, 0) = b[i] := by rw [List.getD_eq_getElem?_getD, List.getElem?_eq_getElem h2]; rfl
      rw [e1]
      refine rv_inj (dotQ_vr hp) (List.all_eq_true.1 hv b[i] (List.getElem_mem _)) ?_
      have hdot := hp
      unfold dotQ at hdot
      split at hdot
      · rw [dt_val hdot, hal i h2]
        have hs := hsat i h2
        have ha1 : ∀ j, j < b.length → en (aug a b) i j = at0 (a.getD i []) j := fun j hj => by
          unfold en at0
          rw [hag i h2, List.getD_eq_getElem?_getD, List.getElem?_append_left (by rw [hal i h2]; exact hj), ← List.getD_eq_getElem?_getD]
        have ha2 : en (aug a b) i b.length = rv b[i] := by
          unfold en at0
          rw [hag i h2, List.getD_eq_getElem?_getD, List.getElem?_append_right (by rw [hal i h2]; exact Nat.le_refl _), hal i h2, e2]
          simp
        rw [← ha2, ← hs]
        exact su_congr _ _ _ (fun j hj => by rw [ha1 j hj])
      · cases hdot
  · cases h
end Go.Proofs.Ytjnphlgmmjdeiaa.LinQ

namespace Go.Proofs.Ytjnphlgmmjdeiaa.Eqr
open Go.RowKit
open Go.Proofs.Ytjnphlgmmjdeiaa.Num Go.Proofs.Ytjnphlgmmjdeiaa.IntRow Go.Proofs.Ytjnphlgmmjdeiaa.Rdr Go.Proofs.Ytjnphlgmmjdeiaa.HasL Go.Proofs.Ytjnphlgmmjdeiaa.Rats
set_option linter.unusedVariables false

set_option maxRecDepth 100000 in
/-- What '==' says of two rationals. -/
@[go_sem] theorem eqRat (a b c d : Int) (w : World) : (Op.equalIn 10000 35 (.agg #[.int .i64 a, .int .i64 b]) (.agg #[.int .i64 c, .int .i64 d])).run Try.prog w = .ok (a == c && b == d) w := by
  have u3 := Try.underlying3
  have a3 := Try.isAgg3
  have z3 := Try.sizeOf3
  have hS : Try.prog.underlying 35 = some (.struct (Try.prog.fieldsOf 35)) := by kernel_rfl
  have hp : Try.prog.stoodInHeld 35 = false := by kernel_rfl
  rw [show (10000 : Nat) = 9999 + 1 from rfl, run_equalIn_agg w 9999 35 _ _ hS hp]
  simp only [Program.fieldsOf, Try.underlying35]
  go_simp
  by_cases h1 : a = c <;> by_cases h2 : b = d <;> simp [h1, h2]

theorem eqr_no {xs ys : List RatD} (h : xs.length ≠ ys.length) : decide (xs = ys) = false := decide_eq_false (fun e => h (by rw [e]))
theorem eqr_at {xs ys : List RatD} (k : Nat) (h1 : k < xs.length) (h2 : k < ys.length) (h : xs[k] ≠ ys[k]) : decide (xs = ys) = false := decide_eq_false (fun e => h (by subst e; rfl))
theorem eqr_yes {xs ys : List RatD} (hl : xs.length = ys.length) (h : ∀ j (h1 : j < xs.length) (h2 : j < ys.length), xs[j] = ys[j]) : decide (xs = ys) = true := decide_eq_true (List.ext_getElem hl h)

set_option maxRecDepth 100000 in
theorem spec_eqr (a a' : Option Addr) (cap cap' : Nat) (xs ys : List RatD) (lo hi lo' hi' : Nat) (w : World) (hn1 : xs.length ≤ 9223372036854775806) (hn2 : ys.length ≤ 9223372036854775806) (h : Els 2 rRat w lo hi a xs) (h' : Els 2 rRat w lo' hi' a' ys) (hh : hi ≤ w.heap.size) (hh' : hi' ≤ w.heap.size) :
    Calls Try.prog 18 #[.slice a xs.length cap, .slice a' ys.length cap'] w fun e w' => e = .returned (.bool (decide (xs = ys))) ∧ Below w.heap.size w w' := by
  by_cases hl : xs.length = ys.length
  · have hnl : ((xs.length : Int) != (ys.length : Int)) = false := by simp [hl]
    go_enter Try.func18, Try.ntmps18
    go_wp2
    go_loopw [5] (fun i wr => ∃ k : Nat, k ≤ xs.length ∧ i = .int .i64 k ∧ Hid (∀ j (h1 : j < xs.length) (h2 : j < ys.length), j < k → xs[j] = ys[j]) ∧ Below w.heap.size w wr) (fun i _ => xs.length - (intOf i).toNat)
    case atStart => exact ⟨0, Nat.zero_le _, rfl, hid (fun j _ _ h => by omega), Below.refl _ _⟩
    case round =>
      obtain ⟨k, hk, rfl, he, hb⟩ := hrel
      by_cases hlt : k < xs.length
      · have hlt2 : k < ys.length := by omega
        obtain ⟨b, off, rfl, _, hbB, c0, c1⟩ := rats_at (h.grow good_rat hb hh) k hlt
        obtain ⟨b', off', rfl, _, hbB', c0', c1'⟩ := rats_at (h'.grow good_rat hb hh') k hlt2
        have hlt' : (k : Int) < (xs.length : Int) := by omega
        have hlt2' : (k : Int) < (ys.length : Int) := by omega
        have h0' : (0 : Int) ≤ (k : Int) := by omega
        have H0 := hid hl
        clear h h' hl
        by_cases heq : xs[k] = ys[k]
        · have q1 : (xs[k].1 == ys[k].1) = true := by rw [heq]; simp
          have q2 : (xs[k].2 == ys[k].2) = true := by rw [heq]; simp
          have HE := hid (fun j (h1 : j < xs.length) (h2 : j < ys.length) (hj : j < k + 1) => show xs[j] = ys[j] by
            by_cases e : j = k
            · subst e; exact heq
            · exact he.out j h1 h2 (by omega))
          clear heq he
          go_wp2
          go_quiet (fail)
          go_wp2
          go_roundw
          case rel => exact ⟨k + 1, by omega, by go_num, HE, by exact ⟨hb.os, hb.tape, hb.output, hb.size, hb.block⟩⟩
          case measure => simp [intOf]; omega
        · have HF := hid (eqr_at k hlt hlt2 heq)
          by_cases q1 : (xs[k].1 == ys[k].1) = true
          · have q2 : (xs[k].2 == ys[k].2) = false := by
              cases hq : xs[k].2 == ys[k].2 with
              | false => rfl
              | true => exact absurd (Prod.ext (by simpa using q1) (by simpa using hq)) heq
            clear heq he
            go_wp2
            go_quiet (fail)
            go_wp2
            go_ret
            exact ⟨by rw [HF.out]; rfl, by exact ⟨hb.os, hb.tape, hb.output, hb.size, hb.block⟩⟩
          · replace q1 : (xs[k].1 == ys[k].1) = false := by simpa using q1
            clear heq he
            go_wp2
            go_quiet (fail)
            go_wp2
            go_ret
            exact ⟨by rw [HF.out]; rfl, by exact ⟨hb.os, hb.tape, hb.output, hb.size, hb.block⟩⟩
      · have hx1 : ¬ (k : Int) < (xs.length : Int) := by omega
        have hx2 : ¬ (k : Int) < (ys.length : Int) := by omega
        have HF := hid (eqr_yes hl (fun j h1 h2 => he.out j h1 h2 (by omega)))
        clear h h' hl he
        go_wp2
        go_ret
        exact ⟨by rw [HF.out]; rfl, hb⟩
  · have hnl : ((xs.length : Int) != (ys.length : Int)) = true := by simp; omega
    have HF := hid (eqr_no hl)
    clear h h' hl
    go_enter Try.func18, Try.ntmps18
    go_wp2
    go_ret
    exact ⟨by rw [HF.out]; rfl, Below.refl _ _⟩
end Go.Proofs.Ytjnphlgmmjdeiaa.Eqr

namespace Go.Proofs.Ytjnphlgmmjdeiaa.Big
open Go.ChangeShapes Go.WideShapes Go.ChangeAt Go.RowKit
open Go.Proofs.Ytjnphlgmmjdeiaa.Num Go.Proofs.Ytjnphlgmmjdeiaa.Cur
set_option linter.unusedVariables false

theorem big_yes (a : Option Addr) (n cap : Nat) (w : World) (h : 1048576 < n) (h2 : n ≤ 9223372036854775807) :
    Calls Try.prog 14 #[.slice a n cap] w fun e w' => e = .returned (.bool true) ∧ w = w' := by
  have h1 : (1048576 : Int) < (n : Int) := by omega
  go_enter Try.func14, Try.ntmps14
  go_wp2
  go_ret
  exact ⟨rfl, rfl⟩
theorem big_no (a : Option Addr) (n cap : Nat) (w : World) (h : n ≤ 1048576) :
    Calls Try.prog 14 #[.slice a n cap] w fun e w' => e = .returned (.bool false) ∧ w = w' := by
  have h1 : ¬ (1048576 : Int) < (n : Int) := by omega
  go_enter Try.func14, Try.ntmps14
  go_wp2
  go_ret
  exact ⟨rfl, rfl⟩
theorem big_code (sv : Value) (l : List UInt8) (w : World) (c : Nat) (hc : Cur.Code w c sv l) (hl : l.length ≤ 1048576) :
    Calls Try.prog 14 #[sv] w fun e w' => e = .returned (.bool false) ∧ w = w' := by
  rcases hc with ⟨rfl, a, cap, rfl⟩ | ⟨b, off, cap, rfl, _, _⟩
  · exact big_no _ 0 _ _ (by omega)
  · exact big_no _ _ _ _ hl

end Go.Proofs.Ytjnphlgmmjdeiaa.Big

namespace Go.Proofs.Ytjnphlgmmjdeiaa.LinearSystemC
open Go.RowKit
open Go.Proofs.Ytjnphlgmmjdeiaa.Num Go.Proofs.Ytjnphlgmmjdeiaa.Row Go.Proofs.Ytjnphlgmmjdeiaa.Cur Go.Proofs.Ytjnphlgmmjdeiaa.IntRow Go.Proofs.Ytjnphlgmmjdeiaa.Rat Go.Proofs.Ytjnphlgmmjdeiaa.RatLaw Go.Proofs.Ytjnphlgmmjdeiaa.Rdr Go.Proofs.Ytjnphlgmmjdeiaa.HasL Go.Proofs.Ytjnphlgmmjdeiaa.Rats Go.Proofs.Ytjnphlgmmjdeiaa.RatRow Go.Proofs.Ytjnphlgmmjdeiaa.RatOwn Go.Proofs.Ytjnphlgmmjdeiaa.GridQ Go.Proofs.Ytjnphlgmmjdeiaa.RatsSS Go.Proofs.Ytjnphlgmmjdeiaa.LinP Go.Proofs.Ytjnphlgmmjdeiaa.Mvp Go.Proofs.Ytjnphlgmmjdeiaa.SolP Go.Proofs.Ytjnphlgmmjdeiaa.SolQ Go.Proofs.Ytjnphlgmmjdeiaa.SolV Go.Proofs.Ytjnphlgmmjdeiaa.SolW Go.Proofs.Ytjnphlgmmjdeiaa.LinQ Go.Proofs.Ytjnphlgmmjdeiaa.DrawSol Go.Proofs.Ytjnphlgmmjdeiaa.Eqr
set_option linter.unusedVariables false

theorem sol_len {a : MatD} {b x : List RatD} (h : solQ a b = some x) : x.length ≤ 9 := by
  unfold solQ at h
  split at h
  · next hok =>
    have h6 := (sysOk_at hok).1
    cases hg : gj (aug a b) b.length b.length with
    | none => rw [hg] at h; cases h
    | some m => rw [hg, Option.bind_some] at h; rw [quo_len h]; omega
  · cases h
set_option maxRecDepth 100000 in
set_option maxHeartbeats 4000000 in
theorem core (w : World) (sv : Value) (l : List UInt8) (hl : l.length ≤ 1048576) (hc : Cur.Code w w.heap.size sv l) :
    Calls Try.prog 3 #[sv] w fun e w' => e = .returned (.bool true) ∧ Below w.heap.size w w' := by
  have BG := hid (Big.big_code sv l w _ hc hl)
  have DR := hid (draw_sys w sv l hl hc)
  clear hc
  go_enter Try.func3, Try.ntmps3
  go_wp2_with fail
  with_reducible refine BG.out.mono ?_
  rintro e w' ⟨rfl, rfl⟩
  go_wp2_with fail
  with_reducible refine DR.out.mono ?_
  rintro e w1 ⟨a, b, cap, capb, xss, ys, rfl, hx, hrw, hy, hyc, ea, eb, hb1⟩
  have B := hid hb1
  have s1 := hb1.size
  have HR := hid (fun j (hj : j < xss.length) => show xss[j].length ≤ 1048576 by have := hrw j hj; omega)
  have A1 := hid (fun W (h : Below w1.heap.size w1 W) => (ea.keep good_row2 (sm_below h (Nat.le_refl _))).up good_row2 (Nat.le_refl _) h.size)
  have Y1 := hid (fun W (h : Below w1.heap.size w1 W) => (eb.keep good_rat (sm_below h (Nat.le_refl _))).up good_rat (Nat.le_refl _) h.size)
  have IS := hid (fun W (h : Below w1.heap.size w1 W) => impl_solve a b cap capb xss ys 0 _ 0 _ W (by omega) (by omega) HR hyc (A1.out W h) (Y1.out W h) (Nat.le_refl _) (Nat.le_refl _))
  have SS := hid (fun W (h : Below w1.heap.size w1 W) => spec_solve a b cap capb xss ys 0 _ 0 _ W (by omega) (by omega) HR (A1.out W h) (Y1.out W h) (Nat.le_refl _) (Nat.le_refl _))
  have MV := hid (fun (x : List RatD) W (h : Below w1.heap.size w1 W) (p : Option Addr) (c : Nat) (hp : Els 2 rRat W 0 W.heap.size p x) => impl_mv a p cap c xss x 0 _ 0 _ W (by omega) HR (A1.out W h) hp (Nat.le_refl _) (Nat.le_refl _))
  have HSOL := hid (fun x c (h1 : solQ xss ys = some x) (h2 : mvQ xss x = some c) => solves h1 h2)
  have HLEN := hid (fun x (h1 : solQ xss ys = some x) => sol_len h1)
  have hx6 : xss.length ≤ 8 := hx
  have hy9 : ys.length ≤ 9 := hy
  clear ea eb hb1 BG DR hx hrw hyc hy
  generalize solQ xss ys = sol at IS SS HSOL HLEN
  go_wp2_with fail
  with_reducible refine (IS.out _ (Below.refl _ _)).mono ?_
  rintro e w2 ⟨a2, c2, rfl, hown, hb⟩
  have X := hid hown
  have BW := hid hb
  have s2 := hb.size
  replace B := hid (B.out.trans (hb.mono s1))
  clear hown hb IS
  go_wp2_with fail
  with_reducible refine (SS.out _ BW.out).mono ?_
  rintro e w3 ⟨a3, c3, rfl, hown, hb⟩
  have Y := hid hown
  replace X := hid (X.out.below' hb)
  replace BW := hid (BW.out.trans (hb.mono s2))
  replace B := hid (B.out.trans (hb.mono (by omega)))
  have s3 := hb.size
  clear hown hb SS
  cases sol with
  | none =>
    simp only [okO, lstO, Option.isSome_none, Option.getD_none, List.length_nil] at X Y ⊢
    have E := hid (spec_eqr a2 a3 c2 c3 [] [] 0 _ 0 _ w3 (by simp) (by simp) ((ownq_rd X.out).2.up good_rat (Nat.zero_le _) (Nat.le_refl _)) ((ownq_rd Y.out).2.up good_rat (Nat.zero_le _) (Nat.le_refl _)) (Nat.le_refl _) (Nat.le_refl _))
    simp only [decide_true, List.length_nil] at E
    have hne : (false != false) = false := rfl
    clear X Y
    go_wp2_with fail
    with_reducible refine E.out.mono ?_
    rintro e w4 ⟨rfl, hb⟩
    replace B := hid (B.out.trans (hb.mono (by omega)))
    clear hb E
    go_wp2_with fail
    go_ret
    exact ⟨rfl, B.out⟩
  | some x =>
    simp only [okO, lstO, Option.isSome_some, Option.getD_some] at X Y ⊢
    have hxl : x.length ≤ 9 := HLEN.out x rfl
    have E := hid (spec_eqr a2 a3 c2 c3 x x 0 _ 0 _ w3 (by omega) (by omega) ((ownq_rd X.out).2.up good_rat (Nat.zero_le _) (Nat.le_refl _)) ((ownq_rd Y.out).2.up good_rat (Nat.zero_le _) (Nat.le_refl _)) (Nat.le_refl _) (Nat.le_refl _))
    simp only [decide_true] at E
    have hne : (true != true) = false := rfl
    clear Y
    go_wp2_with fail
    with_reducible refine E.out.mono ?_
    rintro e w4 ⟨rfl, hb⟩
    replace X := hid (X.out.below' hb)
    replace BW := hid (BW.out.trans (hb.mono (by omega)))
    replace B := hid (B.out.trans (hb.mono (by omega)))
    have s4 := hb.size
    clear hb E
    go_wp2_with fail
    with_reducible refine (MV.out x _ BW.out _ _ ((ownq_rd X.out).2.up good_rat (Nat.zero_le _) (Nat.le_refl _))).mono ?_
    rintro e w5 ⟨a5, c5, rfl, hown, hb⟩
    replace BW := hid (BW.out.trans (hb.mono (by omega)))
    replace B := hid (B.out.trans (hb.mono (by omega)))
    have C := hid hown
    clear hown hb MV
    cases hmv : mvQ xss x with
    | none =>
      clear C
      simp only [okO, lstO, hmv, Option.isSome_none, Option.getD_none, List.length_nil]
      go_wp2_with fail
      go_ret
      exact ⟨rfl, B.out⟩
    | some c =>
      have hcy : c = ys := HSOL.out x c rfl hmv
      subst hcy
      simp only [okO, lstO, hmv, Option.isSome_some, Option.getD_some] at C ⊢
      have E := hid (spec_eqr a5 b c5 capb c c 0 _ 0 _ w5 (by omega) (by omega) ((ownq_rd C.out).2.up good_rat (Nat.zero_le _) (Nat.le_refl _)) (Y1.out _ BW.out) (Nat.le_refl _) (Nat.le_refl _))
      simp only [decide_true] at E
      clear hmv C
      go_wp2_with fail
      with_reducible refine E.out.mono ?_
      rintro e w6 ⟨rfl, hb⟩
      replace B := hid (B.out.trans (hb.mono (by have := B.out.size; omega)))
      clear hb E
      go_wp2_with fail
      go_ret
      exact ⟨rfl, B.out⟩
end Go.Proofs.Ytjnphlgmmjdeiaa.LinearSystemC
namespace Go.Proofs.Ytjnphlgmmjdeiaa.LinearSystemW
open Go.RowKit
open Go.Proofs.Ytjnphlgmmjdeiaa.Cur
set_option linter.unusedVariables false

theorem walk (w : World) (sv : Value) (l : List UInt8) (hl : l.length ≤ 1048576) (hc : Cur.Code w w.heap.size sv l) :
    Calls Try.prog 3 #[sv] w fun e w' => e = .returned (.bool true) ∧ Below w.heap.size w w' :=
  LinearSystemC.core w sv l hl hc
theorem walk_big (w : World) (a : Option Addr) (n cap : Nat) (h : 1048576 < n) (h2 : n ≤ 9223372036854775807) :
    Calls Try.prog 3 #[.slice a n cap] w fun e w' => e = .returned (.bool true) ∧ Below w.heap.size w w' := by
  go_enter Try.func3, Try.ntmps3
  go_wp2_with fail
  refine (Big.big_yes a n cap w h h2).mono ?_
  rintro e w0 ⟨rfl, rfl⟩
  go_wp2
  go_ret
  exact ⟨rfl, Below.refl _ _⟩
end Go.Proofs.Ytjnphlgmmjdeiaa.LinearSystemW
