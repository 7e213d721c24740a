/- Elements that are read, as cells; the parts of a slice of them; a row of cells read as elements. Of no program. -/
import Derived.Test.YtaeeogighoobdaaRdr
import Derived.Test.YtaeeogighoobdaaApnd
namespace Go.Proofs.Ytaeeogighoobdaa.CatE
open Go.RowKit
open Go.Proofs.Ytaeeogighoobdaa.IntRow Go.Proofs.Ytaeeogighoobdaa.Rdr Go.Proofs.Ytaeeogighoobdaa.Apnd
set_option linter.unusedVariables false

theorem flatten_at {k : Nat} : ∀ (fs : List (List Value)), (∀ f ∈ fs, f.length = k) → fs.flatten.length = fs.length * k ∧ ∀ j i (hj : j < fs.length), i < k → fs.flatten[j * k + i]? = (fs[j])[i]?
  | [], _ => ⟨by simp, fun j i hj => by simp at hj⟩
  | f :: r, h => by
    obtain ⟨h1, h2⟩ := flatten_at r (fun g hg => h g (List.mem_cons_of_mem _ hg))
    have hf := h f List.mem_cons_self
    refine ⟨by rw [List.flatten_cons, List.length_append, h1, hf, List.length_cons, Nat.add_mul]; omega, fun j i hj hi => ?_⟩
    rw [List.flatten_cons]
    cases j with
    | zero =>
      rw [List.getElem?_append_left (by omega)]
      simp
    | succ j =>
      have e : (j + 1) * k + i = f.length + (j * k + i) := by rw [Nat.add_mul, hf]; omega
      rw [e, List.getElem?_append_right (by omega), Nat.add_sub_cancel_left]
      exact h2 j i (by simpa using hj) hi

/-- What is read, as cells: one list for each element. -/
theorem els_cells {α : Type} {k : Nat} {R : Reader α} {w : World} {lo hi : Nat} {a : Option Addr} {xs : List α} (hk : 0 < k) (h : Els k R w lo hi a xs) :
    ∃ fs : List (List Value), fs.length = xs.length ∧ (∀ f ∈ fs, f.length = k) ∧ (∀ j (h1 : j < fs.length) (h2 : j < xs.length), R w lo hi fs[j] xs[j]) ∧
      (0 < xs.length → ∃ b off, a = some ⟨b, off, none⟩ ∧ lo ≤ b ∧ b < hi ∧ ∀ i u, fs.flatten[i]? = some u → w.cell? ⟨b, off + i, none⟩ = some u) := by
  by_cases h0 : 0 < xs.length
  · obtain ⟨b, off, ha, hb1, hb2, hc⟩ := h h0
    have hl : ∀ f ∈ List.ofFn (fun j : Fin xs.length => Classical.choose (hc j.val j.isLt)), f.length = k := by
      intro f hf
      obtain ⟨j, rfl⟩ := List.mem_ofFn.1 hf
      exact (Classical.choose_spec (hc j.val j.isLt)).1
    obtain ⟨hfl, hfa⟩ := flatten_at _ hl
    refine ⟨List.ofFn (fun j : Fin xs.length => Classical.choose (hc j.val j.isLt)), by simp, hl, fun j h1 h2 => ?_, fun _ => ⟨b, off, ha, hb1, hb2, fun i u hu => ?_⟩⟩
    · have := (Classical.choose_spec (hc j h2)).2.2
      simpa using this
    · have hi : i < xs.length * k := by
        have := (List.getElem?_eq_some_iff.1 hu).1
        rw [hfl] at this
        simpa using this
      have hj : i / k < xs.length := Nat.div_lt_of_lt_mul (by rw [Nat.mul_comm]; exact hi)
      have hm : i % k < k := Nat.mod_lt _ hk
      have e : i / k * k + i % k = i := by rw [Nat.mul_comm]; exact Nat.div_add_mod i k
      have h3 := hfa (i / k) (i % k) (by simpa using hj) hm
      rw [e, hu] at h3
      have h4 := (Classical.choose_spec (hc (i / k) hj)).2.1 (i % k) (by rw [(Classical.choose_spec (hc (i / k) hj)).1]; exact hm)
      rw [Nat.add_assoc, e] at h4
      rw [h4]
      have h5 : (Classical.choose (hc (i / k) hj))[i % k]? = some u := by simpa using h3.symm
      rw [List.getElem?_eq_getElem (by rw [(Classical.choose_spec (hc (i / k) hj)).1]; exact hm)] at h5
      exact h5
  · have : xs = [] := List.length_eq_zero_iff.1 (by omega)
    subst this
    exact ⟨[], rfl, (fun f hf => by cases hf), (fun j h1 => by simp at h1), (fun h => by simp at h)⟩

theorem flatten_take {k m : Nat} {fs : List (List Value)} (h : ∀ f ∈ fs, f.length = k) (hm : m ≤ fs.length) : fs.flatten.take (m * k) = (fs.take m).flatten ∧ fs.flatten.drop (m * k) = (fs.drop m).flatten := by
  have h1 := (flatten_at (fs.take m) (fun f hf => h f (List.mem_of_mem_take hf))).1
  have e : fs.flatten = (fs.take m).flatten ++ (fs.drop m).flatten := by rw [← List.flatten_append, List.take_append_drop]
  have hl : (fs.take m).flatten.length = m * k := by rw [h1, List.length_take, Nat.min_eq_left hm]
  constructor
  · rw [e, List.take_left' hl]
  · rw [e, List.drop_left' hl]

section
variable {P : Program}
theorem run_fromk {t e : TypeId} {i : TypeInfo} {k : Nat} (ht : P.underlying t = some (.slice e)) (hi : P.info? e = some i) (hsize : i.size = k) (a : Option Addr) (n cap p : Nat) (hp : p ≤ n) :
    ∀ W : World, (Instr.sliceAt t (.slice a n cap) (some (.int .i64 (p : Int))) none none).run P W = .ok (.slice (if cap = p then a else a.map (·.add (p * k))) (n - p) (cap - p)) W := fun W => by
  have he : P.elem t = e := by simp [Program.elem, ht]
  rw [run_sliceAt_slice (h := by rw [he]; exact ht), run_slice_l (ht := by rw [he]; exact ht) (h0 := by omega) (h1 := by omega)]
  simp [he, sizeOf, typeInfo, hi, hsize, sliced]
theorem run_uptok {t e : TypeId} {i : TypeInfo} (ht : P.underlying t = some (.slice e)) (hi : P.info? e = some i) (a : Option Addr) (n cap p : Nat) (hp : p ≤ cap) :
    ∀ W : World, (Instr.sliceAt t (.slice a n cap) none (some (.int .i64 (p : Int))) none).run P W = .ok (.slice a p cap) W := fun W => by
  have he : P.elem t = e := by simp [Program.elem, ht]
  have ha : a.map (fun x => x.add 0) = a := by
    cases a with
    | none => rfl
    | some x => simp [Addr.add]
  rw [run_sliceAt_slice (h := by rw [he]; exact ht), run_slice_h (ht := by rw [he]; exact ht) (h0 := by omega) (h2 := by omega)]
  simp [he, sizeOf, typeInfo, hi, sliced, ha]

/-- 's[:p]' and 's[m:]' of a slice that is read (p, m ≤ its length, it is not empty), as sources of cells. -/
theorem parts_k {α : Type} {k : Nat} {R : Reader α} {w : World} {lo hi : Nat} {a : Option Addr} {xs : List α} (hk : 0 < k) (h : Els k R w lo hi a xs) (h1 : ∀ cs x, R w lo hi cs x → ∀ u ∈ cs, u.oneCell' = true) (h0 : 0 < xs.length)
    {t e : TypeId} {i : TypeInfo} (ht : P.underlying t = some (.slice e)) (hi0 : P.info? e = some i) (hsize : i.size = k) (cap p m : Nat) (hp : p ≤ xs.length) (hm : m ≤ xs.length) (hcap : xs.length ≤ cap) :
    ∃ (fs : List (List Value)) (q : Option Addr) (c : Nat), fs.length = xs.length ∧ (∀ f ∈ fs, f.length = k) ∧ (∀ j (h1 : j < fs.length) (h2 : j < xs.length), R w lo hi fs[j] xs[j]) ∧
      (∀ W : World, (Instr.sliceAt t (.slice a xs.length cap) none (some (.int .i64 (p : Int))) none).run P W = .ok (.slice a p cap) W) ∧
      (∀ W : World, (Instr.sliceAt t (.slice a xs.length cap) (some (.int .i64 (m : Int))) none none).run P W = .ok (.slice q (xs.length - m) c) W) ∧
      SrcOk k w hi ⟨a, p, cap, (fs.take p).flatten⟩ ∧ SrcOk k w hi ⟨q, xs.length - m, c, (fs.drop m).flatten⟩ := by
  obtain ⟨fs, hl, hf, hr, hc⟩ := els_cells hk h
  obtain ⟨b, off, ha, hb1, hb2, hcell⟩ := hc h0
  have hone : ∀ f ∈ fs, ∀ u ∈ f, u.oneCell' = true := by
    intro f hm u hu
    obtain ⟨j, hj, rfl⟩ := List.getElem_of_mem hm
    exact h1 _ _ (hr j hj (by omega)) u hu
  refine ⟨fs, _, _, hl, hf, hr, run_uptok ht hi0 a _ cap p (by omega), run_fromk ht hi0 hsize a _ cap m hm, ?_, ?_⟩
  · subst ha
    refine src_at ?_ ?_ hb2 (fun j u hu => ?_)
    · have := (flatten_at (fs.take p) (fun f hf' => hf f (List.mem_of_mem_take hf'))).1
      rw [List.length_take, Nat.min_eq_left (by omega)] at this
      exact this
    · intro u hu
      obtain ⟨f, hf', hu'⟩ := List.mem_flatten.1 hu
      exact hone f (List.mem_of_mem_take hf') u hu'
    · rw [← (flatten_take hf (by omega)).1, List.getElem?_take] at hu
      split at hu
      · exact hcell j u hu
      · cases hu
  · refine ⟨?_, ?_, ?_⟩
    · have := (flatten_at (fs.drop m) (fun f hf' => hf f (List.mem_of_mem_drop hf'))).1
      rw [List.length_drop, hl] at this
      exact this
    · intro u hu
      obtain ⟨f, hf', hu'⟩ := List.mem_flatten.1 hu
      exact hone f (List.mem_of_mem_drop hf') u hu'
    · subst ha
      by_cases e : cap = m
      · refine .inr ⟨⟨b, off, none⟩, by simp [e], fun j u hu => ?_⟩
        have : fs.drop m = [] := List.drop_eq_nil_of_le (by omega)
        rw [this] at hu
        simp at hu
      · refine .inr ⟨⟨b, off + m * k, none⟩, by simp [e, Go.WideShapes.add_plain], fun j u hu => ?_⟩
        dsimp only at hu
        rw [← (flatten_take hf (by omega)).2, List.getElem?_drop] at hu
        have := hcell _ u hu
        rw [Go.WideShapes.add_plain, Nat.add_assoc]
        exact ⟨hb2, this⟩
end

/-- A row of the call's own, read as elements. -/
theorem els_own {α : Type} {k : Nat} {R : Reader α} {w : World} {lo n : Nat} {e : TypeId} {v : Value} {fs : List (List Value)} {xs : List α} (h : w.ownsRow lo e k v n fs.flatten) (hk : 0 < k) (hl : fs.length = xs.length) (hf : ∀ f ∈ fs, f.length = k)
    (hr : ∀ j (h1 : j < fs.length) (h2 : j < xs.length), R w 0 w.heap.size fs[j] xs[j]) : ∃ a cap, v = .slice a xs.length cap ∧ xs.length ≤ cap ∧ n = xs.length ∧ Els k R w 0 w.heap.size a xs := by
  obtain ⟨hfl, hfa⟩ := flatten_at fs hf
  have hn : n = xs.length := by
    have h1 := h.1
    rw [hfl, hl] at h1
    exact (Nat.eq_of_mul_eq_mul_right hk h1).symm
  obtain ⟨h1, h2⟩ := h
  rcases h2 with ⟨rfl, h0⟩ | ⟨g, cap, cur, rfl, hg, hb, hc1, hc2, hsz, htk⟩
  · have hx : xs.length = 0 := by omega
    refine ⟨none, 0, by rw [hx], by omega, hn, fun h0 => by omega⟩
  · subst hn
    refine ⟨some ⟨g, 0, none⟩, cap, rfl, hc1, rfl, fun _ => ⟨g, 0, rfl, Nat.zero_le _, (Array.getElem?_eq_some_iff.1 hb).1, fun j hj => ⟨fs[j], hf _ (List.getElem_mem _), fun i hi => ?_, hr j (by omega) hj⟩⟩⟩
    have hik : i < k := by rw [hf _ (List.getElem_mem _)] at hi; exact hi
    have h3 := hfa j i (by omega) hik
    rw [List.getElem?_eq_getElem hi] at h3
    have h4 : cur[j * k + i]? = some (fs[j])[i] := by
      rw [← htk, List.getElem?_take] at h3
      split at h3
      · simpa using h3
      · cases h3
    simp [World.cell?, hb]
    exact h4
theorem row_le {w : World} {lo lo' : Nat} {e : TypeId} {z n : Nat} {v : Value} {xs : List Value} (h : w.ownsRow lo e z v n xs) (hl : lo' ≤ lo) : w.ownsRow lo' e z v n xs :=
  ⟨h.1, h.2.imp id fun ⟨g, cap, cur, hv, hb, r⟩ => ⟨g, cap, cur, hv, Nat.le_trans hl hb, r⟩⟩
theorem parts_read {α : Type} {Q : List Value → α → Prop} {fs : List (List Value)} {xs : List α} (hl : fs.length = xs.length) (h : ∀ j (h1 : j < fs.length) (h2 : j < xs.length), Q fs[j] xs[j]) (p m : Nat) :
    ∀ j (h1 : j < (fs.take p ++ fs.drop m).length) (h2 : j < (xs.take p ++ xs.drop m).length), Q (fs.take p ++ fs.drop m)[j] (xs.take p ++ xs.drop m)[j] := by
  intro j h1 h2
  have e1 : (fs.take p).length = (xs.take p).length := by simp [hl]
  by_cases hj : j < (fs.take p).length
  · rw [List.getElem_append_left hj, List.getElem_append_left (by omega), List.getElem_take, List.getElem_take]
    exact h j _ _
  · rw [List.getElem_append_right (by omega), List.getElem_append_right (by omega), List.getElem_drop, List.getElem_drop]
    have e2 : m + (j - (fs.take p).length) = m + (j - (xs.take p).length) := by omega
    simp only [e2]
    exact h _ _ _
end Go.Proofs.Ytaeeogighoobdaa.CatE
