/- The connected components of a graph: the model's marks and the classes that they tell (plain). -/
import Derived.Test.YtffhfnkcbgbliaaDoorSetA
namespace Go.Proofs.YtffhfnkcbgbliaaDoor.CmpP
open Go.Proofs.YtffhfnkcbgbliaaDoor.SetV Go.Proofs.YtffhfnkcbgbliaaDoor.SetA
set_option linter.unusedVariables false

abbrev Adj := Nat → Nat → Bool
inductive Rch (A : Adj) : Nat → Nat → Prop
  | refl (v : Nat) : Rch A v v
  | step {v u w : Nat} : Rch A v u → A u w = true → Rch A v w
/-- A graph on the variables below n. -/
structure Gph (A : Adj) (n : Nat) : Prop where
  sym : ∀ u v, A u v = A v u
  irr : ∀ v, A v v = false
  out : ∀ u v, n ≤ v → A u v = false
theorem Rch.trans {A : Adj} {u v w : Nat} (h : Rch A u v) (k : Rch A v w) : Rch A u w := by
  induction k with
  | refl => exact h
  | step _ e ih => exact .step ih e
theorem Rch.symm {A : Adj} {n : Nat} (hA : Gph A n) {u v : Nat} (h : Rch A u v) : Rch A v u := by
  induction h with
  | refl => exact .refl _
  | step _ e ih => exact Rch.trans (.step (.refl _) (by rw [hA.sym]; exact e)) ih
theorem Rch.lt {A : Adj} {n : Nat} (hA : Gph A n) {u v : Nat} (h : Rch A u v) (hu : u < n) : v < n := by
  induction h with
  | refl => exact hu
  | step _ e ih =>
    refine Nat.lt_of_not_le fun hle => ?_
    rw [hA.out _ _ hle] at e
    cases e

/-! ### the model's marks -/
def inn (near : List Int) (v : Nat) (ms : List Int) : Nat → List Int
  | 0 => ms
  | k + 1 => (inn near v ms k).set v (min ((inn near v ms k).getD v 0) ((inn near v ms k).getD (near.getD k 0).toNat 0))
def rnd (A : Adj) (n : Nat) (ms : List Int) : Nat → List Int
  | 0 => ms
  | v + 1 => inn (fl (A v) n) v (rnd A n ms v) (fl (A v) n).length
def marks0 : Nat → List Int
  | 0 => []
  | n + 1 => marks0 n ++ [(n : Int)]
def rds (A : Adj) (n : Nat) : Nat → List Int
  | 0 => marks0 n
  | k + 1 => rnd A n (rds A n k) n
def prt (ms : List Int) (v : Nat) (n : Nat) : List Int := fl (fun w => decide (ms.getD w 0 = (v : Int))) n
def pts (ms : List Int) (n : Nat) : Nat → List (List Int)
  | 0 => []
  | v + 1 => if (prt ms v n).length = 0 then pts ms n v else pts ms n v ++ [prt ms v n]
theorem start_len (n : Nat) : (marks0 n).length = n := by
  induction n with
  | zero => rfl
  | succ n ih => simp [marks0, ih]
theorem start_at {n x : Nat} (h : x < n) : (marks0 n).getD x 0 = (x : Int) := by
  induction n with
  | zero => omega
  | succ n ih =>
    rw [marks0, List.getD_eq_getElem?_getD]
    by_cases e : x = n
    · subst e
      rw [List.getElem?_append_right (by rw [start_len]; exact Nat.le_refl _), start_len]
      simp
    · rw [List.getElem?_append_left (by rw [start_len]; omega), ← List.getD_eq_getElem?_getD]
      exact ih (by omega)
theorem getD_set (l : List Int) (i j : Nat) (a : Int) (hi : i < l.length) : (l.set i a).getD j 0 = if i = j then a else l.getD j 0 := by
  rw [List.getD_eq_getElem?_getD, List.getElem?_set]
  by_cases e : i = j
  · subst e; simp [hi]
  · simp [e]
theorem fl_at {p : Nat → Bool} {k j : Nat} (h : j < (fl p k).length) : ∃ v : Nat, (fl p k).getD j 0 = (v : Int) ∧ v < k ∧ p v = true := by
  have hm : (fl p k).getD j 0 ∈ fl p k := by
    rw [List.getD_eq_getElem?_getD, List.getElem?_eq_getElem h]
    exact List.getElem_mem h
  have key : ∀ (k : Nat) (z : Int), z ∈ fl p k → ∃ v : Nat, z = (v : Int) ∧ v < k ∧ p v = true := by
    intro k
    induction k with
    | zero => intro z hz; simp [fl] at hz
    | succ k ih =>
      intro z hz
      cases hp : p k with
      | true =>
        rw [fl_yes hp, List.mem_append] at hz
        rcases hz with hz | hz
        · obtain ⟨v, h1, h2, h3⟩ := ih z hz; exact ⟨v, h1, by omega, h3⟩
        · simp at hz; exact ⟨k, hz, by omega, hp⟩
      | false =>
        rw [fl_no hp] at hz
        obtain ⟨v, h1, h2, h3⟩ := ih z hz; exact ⟨v, h1, by omega, h3⟩
  exact key k _ hm
theorem fl_has {p : Nat → Bool} {k v : Nat} (hv : v < k) (hp : p v = true) : ∃ j, ∃ h : j < (fl p k).length, (fl p k).getD j 0 = (v : Int) := by
  have key : ∀ k, v < k → (v : Int) ∈ fl p k := by
    intro k
    induction k with
    | zero => intro h; omega
    | succ k ih =>
      intro h
      by_cases e : v = k
      · subst e; rw [fl_yes hp]; simp
      · have := ih (by omega)
        cases hk : p k with
        | true => rw [fl_yes hk]; exact List.mem_append_left _ this
        | false => rw [fl_no hk]; exact this
  obtain ⟨j, hj, e⟩ := List.getElem_of_mem (key k hv)
  exact ⟨j, hj, by rw [List.getD_eq_getElem?_getD, List.getElem?_eq_getElem hj]; exact e⟩

/-- The marks tell variables of the same class, none behind the variable itself. -/
def MOk (A : Adj) (n : Nat) (ms : List Int) : Prop := ms.length = n ∧ ∀ x, x < n → ∃ y : Nat, ms.getD x 0 = (y : Int) ∧ Rch A x y ∧ y ≤ x
theorem MOk.marks0 (A : Adj) (n : Nat) : MOk A n (marks0 n) := ⟨start_len n, fun x hx => ⟨x, start_at hx, .refl _, Nat.le_refl _⟩⟩
theorem MOk.put {A : Adj} {n : Nat} {ms : List Int} (h : MOk A n ms) {v u : Nat} (hv : v < n) (hu : u < n) (e : A v u = true) : MOk A n (ms.set v (min (ms.getD v 0) (ms.getD u 0))) := by
  refine ⟨by simp [h.1], fun x hx => ?_⟩
  rw [getD_set _ _ _ _ (by rw [h.1]; exact hv)]
  by_cases ex : v = x
  · subst ex
    rw [if_pos rfl]
    obtain ⟨y, h1, h2, h3⟩ := h.2 v hv
    obtain ⟨z, k1, k2, _⟩ := h.2 u hu
    rw [h1, k1]
    by_cases hle : y ≤ z
    · exact ⟨y, by omega, h2, h3⟩
    · exact ⟨z, by omega, (Rch.step (.refl _) e).trans k2, by omega⟩
  · rw [if_neg ex]; exact h.2 x hx
section
variable {A : Adj} {n : Nat}
theorem inn_ok (hA : Gph A n) {ms : List Int} (h : MOk A n ms) {v : Nat} (hv : v < n) : ∀ k, k ≤ (fl (A v) n).length → MOk A n (inn (fl (A v) n) v ms k) := by
  intro k
  induction k with
  | zero => intro _; exact h
  | succ k ih =>
    intro hk
    obtain ⟨u, e, hu, hp⟩ := fl_at (p := A v) (k := n) (j := k) (by omega)
    rw [inn, e]
    exact (ih (by omega)).put hv hu hp
theorem inn_len (near : List Int) (v : Nat) (ms : List Int) (k : Nat) : (inn near v ms k).length = ms.length := by
  induction k with
  | zero => rfl
  | succ k ih => simp [inn, ih]
theorem inn_other (near : List Int) (v : Nat) (ms : List Int) (hv : v < ms.length) {x : Nat} (hx : v ≠ x) (k : Nat) : (inn near v ms k).getD x 0 = ms.getD x 0 := by
  induction k with
  | zero => rfl
  | succ k ih => rw [inn, getD_set _ _ _ _ (by rw [inn_len]; exact hv), if_neg hx, ih]
theorem inn_le (near : List Int) (v : Nat) (ms : List Int) (hv : v < ms.length) (k : Nat) : (inn near v ms k).getD v 0 ≤ ms.getD v 0 := by
  induction k with
  | zero => exact Int.le_refl _
  | succ k ih =>
    rw [inn, getD_set _ _ _ _ (by rw [inn_len]; exact hv), if_pos rfl]
    omega
theorem inn_near (near : List Int) (v : Nat) (ms : List Int) (hv : v < ms.length) {j k u : Nat} (hj : j < k) (hu : near.getD j 0 = (u : Int)) (hne : v ≠ u) : (inn near v ms k).getD v 0 ≤ ms.getD u 0 := by
  induction k with
  | zero => omega
  | succ k ih =>
    rw [inn, getD_set _ _ _ _ (by rw [inn_len]; exact hv), if_pos rfl]
    by_cases e : j = k
    · subst e
      rw [hu, show (u : Int).toNat = u from rfl, inn_other _ _ _ hv hne]
      omega
    · have := ih (by omega)
      omega
theorem rnd_ok (hA : Gph A n) {ms : List Int} (h : MOk A n ms) : ∀ v, v ≤ n → MOk A n (rnd A n ms v) := by
  intro v
  induction v with
  | zero => intro _; exact h
  | succ v ih => intro hv; exact inn_ok hA (ih (by omega)) (by omega) _ (Nat.le_refl _)
theorem rnd_le (hA : Gph A n) {ms : List Int} (h : MOk A n ms) : ∀ v, v ≤ n → ∀ x, (rnd A n ms v).getD x 0 ≤ ms.getD x 0 := by
  intro v
  induction v with
  | zero => intro _ x; exact Int.le_refl _
  | succ v ih =>
    intro hv x
    have hl : v < (rnd A n ms v).length := by rw [(rnd_ok hA h v (by omega)).1]; omega
    have := ih (by omega) x
    rw [rnd]
    by_cases e : v = x
    · subst e
      have := inn_le (fl (A v) n) v (rnd A n ms v) hl (fl (A v) n).length
      omega
    · rw [inn_other _ _ _ hl e]; exact this
theorem rnd_near (hA : Gph A n) {ms : List Int} (h : MOk A n ms) {x u : Nat} (hu : u < n) (e : A x u = true) : ∀ v, v ≤ n → x < v → (rnd A n ms v).getD x 0 ≤ ms.getD u 0 := by
  intro v
  induction v with
  | zero => intro _ hx; omega
  | succ v ih =>
    intro hv hx
    have hl : v < (rnd A n ms v).length := by rw [(rnd_ok hA h v (by omega)).1]; omega
    rw [rnd]
    by_cases ex : v = x
    · subst ex
      obtain ⟨j, hj, hju⟩ := fl_has (p := A v) hu e
      have hne : v ≠ u := fun e2 => by subst e2; rw [hA.irr] at e; cases e
      have h1 := inn_near (fl (A v) n) v (rnd A n ms v) hl hj hju hne
      have h2 := rnd_le hA h v (by omega) u
      omega
    · rw [inn_other _ _ _ hl ex]; exact ih (by omega) (by omega)
theorem rds_ok (hA : Gph A n) (k : Nat) : MOk A n (rds A n k) := by
  induction k with
  | zero => exact MOk.marks0 A n
  | succ k ih => exact rnd_ok hA ih n (Nat.le_refl _)

theorem count_lt {p q : Nat → Bool} (hpq : ∀ x, q x = true → p x = true) {w : Nat} (h1 : p w = true) (h2 : q w = false) : ∀ l : List Nat, w ∈ l → l.countP q < l.countP p := by
  have hle : ∀ l : List Nat, l.countP q ≤ l.countP p := fun l => List.countP_mono_left (fun x _ => hpq x)
  intro l
  induction l with
  | nil => intro h; simp at h
  | cons a l ih =>
    intro h
    rw [List.countP_cons, List.countP_cons]
    by_cases e : w = a
    · subst e
      have := hle l
      simp [h1, h2]; omega
    · have h3 : w ∈ l := by simpa [e] using h
      have := ih h3
      cases hq : q a with
      | true => simp [hpq a hq]; exact this
      | false => cases p a <;> simp <;> omega
open Classical in
/-- Not yet at the least of the class. -/
noncomputable def bad (A : Adj) (m : Nat) (ms : List Int) (x : Nat) : Bool := decide (Rch A m x ∧ ms.getD x 0 ≠ (m : Int))
def Least (A : Adj) (m : Nat) : Prop := ∀ y, Rch A m y → m ≤ y
theorem mark_ge (hA : Gph A n) {m x : Nat} (hm : Least A m) {ms : List Int} (h : MOk A n ms) (hx : x < n) (hr : Rch A m x) : (m : Int) ≤ ms.getD x 0 := by
  obtain ⟨y, h1, h2, _⟩ := h.2 x hx
  have := hm y (hr.trans h2)
  rw [h1]; omega
/-- Along a way from the least to a bad variable there is a step from a good one to a bad one. -/
theorem edge {ms : List Int} {m x : Nat} (h0 : bad A m ms m = false) (hr : Rch A m x) (hb : bad A m ms x = true) : ∃ u w, Rch A m u ∧ A u w = true ∧ bad A m ms u = false ∧ bad A m ms w = true := by
  induction hr with
  | refl => rw [h0] at hb; cases hb
  | @step u w hr' e ih =>
    cases hu : bad A m ms u with
    | true => exact ih hu
    | false => exact ⟨u, w, hr', e, hu, hb⟩
theorem bad_good {m x : Nat} {ms : List Int} (hr : Rch A m x) : bad A m ms x = false ↔ ms.getD x 0 = (m : Int) := by
  unfold bad
  simp [hr]
theorem bad_rch {m x : Nat} {ms : List Int} (h : bad A m ms x = true) : Rch A m x ∧ ms.getD x 0 ≠ (m : Int) := by
  unfold bad at h
  simpa using h
theorem rounds (hA : Gph A n) {m : Nat} (hmn : m < n) (hm : Least A m) (k : Nat) : (List.range n).countP (bad A m (rds A n k)) ≤ n - k := by
  induction k with
  | zero => exact Nat.le_trans (List.countP_le_length) (by simp)
  | succ k ih =>
    have hok := rds_ok hA k
    have hle := rnd_le hA hok n (Nat.le_refl _)
    have hok' := rds_ok hA (k + 1)
    have hself : ∀ ms, MOk A n ms → bad A m ms m = false := fun ms h => (bad_good (.refl _)).2 (by
      obtain ⟨y, h1, h2, h3⟩ := h.2 m hmn
      have := hm y h2
      rw [h1]; congr 1; omega)
    have hsub : ∀ x, bad A m (rds A n (k + 1)) x = true → bad A m (rds A n k) x = true := fun x hx => by
      obtain ⟨hr, hne⟩ := bad_rch hx
      cases hb : bad A m (rds A n k) x with
      | true => rfl
      | false =>
        exfalso
        have e := (bad_good hr).1 hb
        have h1 := hle x
        have h2 := mark_ge hA hm hok' (hr.lt hA hmn) hr
        rw [rds] at h2 hne
        omega
    by_cases hz : (List.range n).countP (bad A m (rds A n k)) = 0
    · have : (List.range n).countP (bad A m (rds A n (k + 1))) ≤ (List.range n).countP (bad A m (rds A n k)) := List.countP_mono_left (fun x _ => hsub x)
      omega
    · obtain ⟨x, hx, hb⟩ : ∃ x, x ∈ List.range n ∧ bad A m (rds A n k) x = true := by
        have := List.countP_pos_iff.1 (Nat.pos_of_ne_zero hz)
        exact this
      obtain ⟨u, w, hru, e, hgu, hbw⟩ := edge (hself _ hok) (bad_rch hb).1 hb
      have hw : w < n := (bad_rch hbw).1.lt hA hmn
      have hu : u < n := hru.lt hA hmn
      have hgw : bad A m (rds A n (k + 1)) w = false := by
        refine (bad_good (.step hru e)).2 ?_
        have h1 := rnd_near hA hok hu (by rw [hA.sym]; exact e) n (Nat.le_refl _) hw
        have h2 := mark_ge hA hm hok' hw (.step hru e)
        rw [(bad_good hru).1 hgu] at h1
        rw [rds] at h2 ⊢
        omega
      have := count_lt hsub hbw hgw (List.range n) (List.mem_range.2 hw)
      omega
theorem least_ex (hA : Gph A n) {x : Nat} : ∃ m, Rch A x m ∧ Least A m := by
  have key : ∀ (b y : Nat), y ≤ b → Rch A x y → ∃ m, Rch A x m ∧ Least A m := by
    intro b
    induction b with
    | zero => intro y hy hr; exact ⟨y, hr, fun z _ => by omega⟩
    | succ b ih =>
      intro y hy hr
      by_cases h : ∃ z, Rch A y z ∧ z < y
      · obtain ⟨z, h1, h2⟩ := h
        exact ih z (by omega) (hr.trans h1)
      · exact ⟨y, hr, fun z hz => Nat.le_of_not_lt fun hlt => h ⟨z, hz, hlt⟩⟩
  exact key x x (Nat.le_refl _) (.refl _)
/-- After n rounds each mark is the least of its class. -/
theorem final (hA : Gph A n) {x m : Nat} (hx : x < n) (hr : Rch A x m) (hm : Least A m) : (rds A n n).getD x 0 = (m : Int) := by
  have hmn := hr.lt hA hx
  have h0 := rounds hA hmn hm n
  have h1 : (List.range n).countP (bad A m (rds A n n)) = 0 := by omega
  have h2 := List.countP_eq_zero.1 h1 x (List.mem_range.2 hx)
  exact (bad_good (hr.symm hA)).1 (by simpa using h2)

/-! ### the classes -/
open Classical in
noncomputable def rchB (A : Adj) (v w : Nat) : Bool := decide (Rch A v w)
theorem rchB_iff {v w : Nat} : rchB A v w = true ↔ Rch A v w := by unfold rchB; simp
open Classical in
noncomputable def leastB (A : Adj) (v : Nat) : Bool := decide (Least A v)
theorem leastB_iff {v : Nat} : leastB A v = true ↔ Least A v := by unfold leastB; simp
noncomputable def cps (A : Adj) : Nat → List (List Int)
  | 0 => []
  | k + 1 => if leastB A k = true then cps A k ++ [fl (rchB A k) 5] else cps A k
theorem prt_least (hA : Gph A n) (h5 : n ≤ 5) {v : Nat} (hv : v < n) (hl : Least A v) : prt (rds A n n) v n = fl (rchB A v) 5 := by
  have e1 : prt (rds A n n) v n = fl (rchB A v) n := fl_congr n (fun w hw => by
    cases h : rchB A v w with
    | true =>
      have hr := rchB_iff.1 h
      exact decide_eq_true (final hA hw (hr.symm hA) hl)
    | false =>
      refine decide_eq_false fun e => ?_
      obtain ⟨m, h1, h2⟩ := least_ex hA (x := w)
      rw [final hA hw h1 h2] at e
      have : m = v := by omega
      subst this
      have := rchB_iff.2 (h1.symm hA)
      rw [this] at h
      cases h)
  rw [e1]
  have := fl_cut (p := rchB A v) (n := n) (5 - n) (fun w h1 h2 => by
    cases h : rchB A v w with
    | false => rfl
    | true => have := (rchB_iff.1 h).lt hA hv; omega)
  rw [show n + (5 - n) = 5 by omega] at this
  exact this.symm
theorem prt_none (hA : Gph A n) {v : Nat} (hv : v < n) (hl : ¬ Least A v) : prt (rds A n n) v n = [] := by
  have h0 : ∀ k, k ≤ n → fl (fun w => decide ((rds A n n).getD w 0 = (v : Int))) k = [] := by
    intro k
    induction k with
    | zero => intro _; rfl
    | succ k ih =>
      intro hk
      rw [fl_no, ih (by omega)]
      refine decide_eq_false fun e => hl ?_
      obtain ⟨m, h1, h2⟩ := least_ex hA (x := k)
      rw [final hA (by omega) h1 h2] at e
      have : m = v := by omega
      subst this
      exact h2
  exact h0 n (Nat.le_refl _)
theorem prt_some (hA : Gph A n) (h5 : n ≤ 5) {v : Nat} (hv : v < n) (hl : Least A v) : (prt (rds A n n) v n).length ≠ 0 := by
  intro h0
  obtain ⟨j, hj, _⟩ := fl_has (p := fun w => decide ((rds A n n).getD w 0 = (v : Int))) hv (decide_eq_true (final hA hv (.refl _) hl))
  have : prt (rds A n n) v n = fl (fun w => decide ((rds A n n).getD w 0 = (v : Int))) n := rfl
  rw [this] at h0
  omega
theorem pts_cps (hA : Gph A n) (h5 : n ≤ 5) : ∀ k, k ≤ n → pts (rds A n n) n k = cps A k := by
  intro k
  induction k with
  | zero => intro _; rfl
  | succ k ih =>
    intro hk
    rw [pts, cps, ih (by omega)]
    by_cases h : Least A k
    · rw [if_neg (prt_some hA h5 (by omega) h), if_pos (leastB_iff.2 h), prt_least hA h5 (by omega) h]
    · rw [if_pos (by rw [prt_none hA (by omega) h]; rfl), if_neg (fun e => h (leastB_iff.1 e))]
theorem cps_len (A : Adj) (k : Nat) : (cps A k).length ≤ k ∧ ∀ l ∈ cps A k, l.length ≤ 5 := by
  induction k with
  | zero => simp [cps]
  | succ k ih =>
    rw [cps]
    by_cases h : leastB A k = true
    · rw [if_pos h]
      refine ⟨by simp; exact ih.1, fun l hl => ?_⟩
      rw [List.mem_append] at hl
      rcases hl with hl | hl
      · exact ih.2 l hl
      · simp at hl; subst hl; exact fl_len _ 5
    · rw [if_neg h]; exact ⟨by omega, ih.2⟩
open Classical in
/-- What has been found before variable k: all classes of smaller variables. -/
noncomputable def fnd (A : Adj) (k w : Nat) : Bool := decide (∃ j, j < k ∧ Rch A j w)
theorem fnd_iff {k w : Nat} : fnd A k w = true ↔ ∃ j, j < k ∧ Rch A j w := by unfold fnd; simp
theorem fnd_zero (w : Nat) : fnd A 0 w = false := by unfold fnd; simp
theorem least_new (hA : Gph A n) {k : Nat} : leastB A k = !(fnd A k k) := by
  cases h : fnd A k k with
  | true =>
    obtain ⟨j, h1, h2⟩ := fnd_iff.1 h
    cases hl : leastB A k with
    | false => rfl
    | true => have := leastB_iff.1 hl j (h2.symm hA); omega
  | false =>
    refine leastB_iff.2 fun y hy => Nat.le_of_not_lt fun hlt => ?_
    have := fnd_iff.2 ⟨y, hlt, hy.symm hA⟩
    rw [this] at h
    cases h
theorem fnd_new {k w : Nat} : fnd A (k + 1) w = (fnd A k w || rchB A k w) := by
  cases h : fnd A (k + 1) w with
  | true =>
    obtain ⟨j, h1, h2⟩ := fnd_iff.1 h
    by_cases e : j = k
    · subst e; rw [rchB_iff.2 h2, Bool.or_true]
    · rw [fnd_iff.2 ⟨j, by omega, h2⟩, Bool.true_or]
  | false =>
    cases h1 : fnd A k w with
    | true => obtain ⟨j, h2, h3⟩ := fnd_iff.1 h1; rw [fnd_iff.2 ⟨j, by omega, h3⟩] at h; cases h
    | false =>
      cases h2 : rchB A k w with
      | false => rfl
      | true => rw [fnd_iff.2 ⟨k, by omega, rchB_iff.1 h2⟩] at h; cases h
theorem fnd_old (hA : Gph A n) {k w : Nat} (h : fnd A k k = true) : fnd A (k + 1) w = fnd A k w := by
  rw [fnd_new]
  cases h1 : fnd A k w with
  | true => rfl
  | false =>
    cases h2 : rchB A k w with
    | false => rfl
    | true =>
      obtain ⟨j, h3, h4⟩ := fnd_iff.1 h
      rw [fnd_iff.2 ⟨j, h3, h4.trans (rchB_iff.1 h2)⟩] at h1
      cases h1
/-- A closed set that holds v and only what is reached from v. -/
theorem closed_is {m v : Nat} (h1 : m < 32) (hv : m.testBit v = true) (hs : ∀ w, w < 5 → m.testBit w = true → Rch A v w) (hc : ∀ u w, u < 5 → w < 5 → m.testBit u = true → A u w = true → m.testBit w = true) (hlt : ∀ w, Rch A v w → w < 5) : Is m (rchB A v) := by
  refine ⟨h1, fun w hw => ?_⟩
  have key : ∀ w, Rch A v w → m.testBit w = true := by
    intro w h
    induction h with
    | refl => exact hv
    | step hr e ih => exact hc _ _ (hlt _ hr) (hlt _ (.step hr e)) ih e
  cases h : rchB A v w with
  | true => exact key w (rchB_iff.1 h)
  | false =>
    cases hm : m.testBit w with
    | false => rfl
    | true => rw [rchB_iff.2 (hs w hw hm)] at h; cases h
end
end Go.Proofs.YtffhfnkcbgbliaaDoor.CmpP
