/- Headers of the call's own over rows that lie elsewhere; parts of a grid that is read (no program in sight). -/
import Derived.Test.YtikpgkholhokoaaGridAny
namespace Go.Proofs.Ytikpgkholhokoaa.Hds
open Go.RowKit
open Go.Proofs.Ytikpgkholhokoaa.IntRow Go.Proofs.Ytikpgkholhokoaa.Grid Go.Proofs.Ytikpgkholhokoaa.GridMore Go.Proofs.Ytikpgkholhokoaa.RelKit Go.Proofs.Ytikpgkholhokoaa.GridApp Go.Proofs.Ytikpgkholhokoaa.GridAny
set_option linter.unusedVariables false

structure Hs (w : World) (B : Nat) (vs : List Value) (xss : List (List Int)) : Prop where
  len : vs.length = xss.length
  row : ∀ (j : Nat) (h : j < xss.length), ∃ aj capj, vs[j]? = some (.slice aj xss[j].length capj) ∧ Rd w B aj xss[j]
theorem Hs.nil (w : World) (B : Nat) : Hs w B [] [] := ⟨rfl, fun j h => by simp at h⟩
theorem Hs.below {w w' : World} {B : Nat} {vs : List Value} {xss : List (List Int)} (h : Hs w B vs xss) (hb : Below B w w') : Hs w' B vs xss :=
  ⟨h.len, fun j hj => by obtain ⟨aj, capj, h1, h2⟩ := h.row j hj; exact ⟨aj, capj, h1, h2.below hb⟩⟩
theorem Hs.push {w : World} {B : Nat} {vs : List Value} {xss : List (List Int)} {aj : Option Addr} {r : List Int} (h : Hs w B vs xss) (capj : Nat) (hr : Rd w B aj r) : Hs w B (vs ++ [.slice aj r.length capj]) (xss ++ [r]) := by
  refine ⟨by simp [h.len], fun j hj => ?_⟩
  by_cases e : j < xss.length
  · obtain ⟨a, c, h1, h2⟩ := h.row j e
    refine ⟨a, c, ?_, ?_⟩
    · rw [List.getElem?_append_left (by rw [h.len]; exact e), List.getElem_append_left e]
      exact h1
    · rw [List.getElem_append_left e]
      exact h2
  · have e2 : j = xss.length := by simp at hj; omega
    subst e2
    refine ⟨aj, capj, ?_, ?_⟩
    · have e3 : (xss ++ [r])[xss.length] = r := by simp
      rw [e3, List.getElem?_append_right (by rw [h.len]; exact Nat.le_refl _), h.len, Nat.sub_self]
      rfl
    · simpa using hr
theorem Hs.one {w : World} {B : Nat} {vs : List Value} {xss : List (List Int)} (h : Hs w B vs xss) : ∀ u ∈ vs, u.oneCell' = true := fun u hu => by
  obtain ⟨j, hj⟩ := List.getElem?_of_mem hu
  have hjl : j < xss.length := by rw [← h.len]; exact (List.getElem?_eq_some_iff.1 hj).1
  obtain ⟨a, c, h1, _⟩ := h.row j hjl
  rw [h1] at hj
  injection hj with hj
  subst hj
  rfl
theorem hs_grd {w : World} {lo B : Nat} {eR : TypeId} {a : Option Addr} {cap : Nat} {vs : List Value} {xss : List (List Int)} (h : w.ownsRow lo eR 1 (.slice a xss.length cap) xss.length vs) (hs : Hs w B vs xss) (hB : B ≤ w.heap.size) : GRd w w.heap.size a xss := fun hp => by
  rcases h.2 with ⟨_, h0⟩ | ⟨g, c, cur, e, hb, hg, _⟩
  · omega
  · injection e with e _ _
    subst e
    have hgs : g < w.heap.size := by
      rcases Nat.lt_or_ge g w.heap.size with h1 | h1
      · exact h1
      · simp [Array.getElem?_eq_none h1] at hg
    refine ⟨g, 0, rfl, hgs, fun j hj => ?_⟩
    obtain ⟨aj, capj, h1, h2⟩ := hs.row j hj
    refine ⟨aj, capj, ?_, h2.mono hB⟩
    rw [Nat.zero_add]
    have hc : w.cell? ⟨g, j, none⟩ = vs[j]? := h.cellAt j (by rw [Nat.mul_one]; exact hj)
    exact hc.trans h1
theorem grd_take {w : World} {B : Nat} {a : Option Addr} {xss : List (List Int)} (h : GRd w B a xss) (p : Nat) : GRd w B a (xss.take p) := fun hp => by
  have hl : (xss.take p).length ≤ xss.length := List.length_take_le' _ _
  obtain ⟨b, off, e, hb, hc⟩ := h (by omega)
  refine ⟨b, off, e, hb, fun j hj => ?_⟩
  obtain ⟨aj, capj, h1, h2⟩ := hc j (by omega)
  refine ⟨aj, capj, ?_, ?_⟩
  · rw [h1, List.getElem_take]
  · rw [List.getElem_take]
    exact h2
theorem grd_drop {w : World} {B cap : Nat} {a : Option Addr} {xss : List (List Int)} (h : GRd w B a xss) (p : Nat) (hcap : xss.length ≤ cap) : GRd w B (if cap = p then a else a.map (·.add p)) (xss.drop p) := fun hp => by
  simp only [List.length_drop] at hp
  obtain ⟨b, off, rfl, hb, hc⟩ := h (by omega)
  rw [if_neg (by omega)]
  refine ⟨b, off + p, by simp [Addr.add_lit], hb, fun j hj => ?_⟩
  simp only [List.length_drop] at hj
  obtain ⟨aj, capj, h1, h2⟩ := hc (p + j) (by omega)
  refine ⟨aj, capj, ?_, ?_⟩
  · rw [Nat.add_assoc, h1, List.getElem_drop]
  · rw [List.getElem_drop]
    exact h2
section
variable {P : Program}
/-- 's[p:]' of a grid that is read, under one name. -/
theorem from_of {w : World} {B : Nat} {eR t : TypeId} {i : TypeInfo} {a : Option Addr} {cap : Nat} {xss : List (List Int)} (h : GRd w B a xss) (ht : P.underlying t = some (.slice eR)) (hi : P.info? eR = some i) (hsize : i.size = 1) (p : Nat) (hp : p ≤ xss.length) (hcap : xss.length ≤ cap) :
    ∃ q c, (∀ W : World, (Instr.sliceAt t (.slice a xss.length cap) (some (.int .i64 (p : Int))) none none).run P W = .ok (.slice q (xss.drop p).length c) W) ∧ (xss.drop p).length ≤ c ∧ GRd w B q (xss.drop p) := by
  refine ⟨_, cap - p, fun W => ?_, by simp; omega, grd_drop h p hcap⟩
  rw [run_from ht hi hsize a _ cap p hp W, List.length_drop]
end
end Go.Proofs.Ytikpgkholhokoaa.Hds
