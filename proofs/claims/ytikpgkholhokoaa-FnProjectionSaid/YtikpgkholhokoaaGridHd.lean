/- A grid's headers as data: what the library's contracts on rows of one cell an element say of grids (no program in sight). -/
import Derived.Test.YtikpgkholhokoaaGridApp
import Derived.Lib.OwnBridge
import Derived.Lib.ByteType
import Derived.Shelf.SlicesE.Kit
namespace Go.Proofs.Ytikpgkholhokoaa.GridHd
open Go.RowKit Go.Sort
open Go.Proofs.Ytikpgkholhokoaa.IntRow Go.Proofs.Ytikpgkholhokoaa.Grid Go.Proofs.Ytikpgkholhokoaa.GridMore Go.Proofs.Ytikpgkholhokoaa.RelKit Go.Proofs.Ytikpgkholhokoaa.GridApp
set_option linter.unusedVariables false

abbrev Hd := Option Addr × Nat × Nat
def hd (x : Hd) : Value := .slice x.1 x.2.1 x.2.2
theorem hd_one : Go.Proofs.OneCell hd := fun _ => rfl
def nilH : Hd := (none, 0, 0)
theorem heads : ∀ (vs : List Value), (∀ u ∈ vs, ∃ a n c, u = .slice a n c) → ∃ ds : List Hd, vs = ds.map hd
  | [], _ => ⟨[], rfl⟩
  | v :: vs, h => by
    obtain ⟨ds, e⟩ := heads vs (fun u hu => h u (List.mem_cons_of_mem _ hu))
    obtain ⟨a, n, c, rfl⟩ := h v List.mem_cons_self
    exact ⟨(a, n, c) :: ds, by rw [e]; rfl⟩
theorem rws_heads {w : World} {lo : Nat} {eI : TypeId} {vs : List Value} {xss : List (List Int)} (h : Rws w lo eI vs xss) : ∃ ds : List Hd, vs = ds.map hd :=
  heads vs fun u hu => by
    obtain ⟨j, hj⟩ := List.getElem?_of_mem hu
    have hjl : j < xss.length := by rw [← h.len]; exact (List.getElem?_eq_some_iff.1 hj).1
    obtain ⟨a, cap, e, _⟩ := (h.own j hjl u hj).form
    exact ⟨a, _, cap, e⟩
theorem head_zero {P : Program} {t : TypeId} (h : (P.info? t).map (fun i => (i.zero, i.size, i.bytes)) = some (some (.slice none 0 0), 1, 24)) : ∀ w, (zeroValue t).run P w = .ok (hd nilH) w := by
  obtain ⟨i0, hi, hz0, -, -⟩ := info_parts h
  intro w
  simp [zeroValue, typeInfo, hi, hz0, hd, nilH]
theorem grown_putRow {α : Type} [Inhabited α] {enc : α → Value} {w : World} {g q : Nat} (d : Array α) : w.grownBy (putRow enc (Sort.ahead w q) g 0 d) (some g) := by
  refine ⟨rfl, rfl, rfl, by simp [putRow, mapBlock, Sort.ahead], fun k hk hne => ?_⟩
  have : g ≠ k := fun e => hne (by rw [e])
  simp [putRow, mapBlock, Sort.ahead, Array.getElem?_modify, this]
theorem grown_set (w : World) (b o : Nat) (u : Value) : w.grownBy (w.setCell ⟨b, o, none⟩ u) (some b) :=
  ⟨rfl, rfl, rfl, by simp, fun k hk hne => Below.heap_setCell _ _ _ _ (fun e => hne (congrArg some (show k = b from e)))⟩
/-- A grid of which one header has been taken out in place. -/
theorem gown_out {w : World} {lo g cap q p : Nat} {eR eI : TypeId} {vs : List Value} {xss : List (List Int)} {ds : List Hd} (h : GOwn w lo eR eI (.slice (some ⟨g, 0, none⟩) xss.length cap) vs xss) (hne : eR ≠ eI) (e : vs = ds.map hd) (hp : p < xss.length) :
    GOwn (putRow hd (Sort.ahead w q) g 0 (ds.toArray.toList.take p ++ ds.toArray.toList.drop (p + 1) ++ List.replicate (p + 1 - p) nilH).toArray) lo eR eI (.slice (some ⟨g, 0, none⟩) (xss.take p ++ xss.drop (p + 1)).length cap) (vs.take p ++ vs.drop (p + 1)) (xss.take p ++ xss.drop (p + 1)) := by
  have hl : ds.length = xss.length := by have := h.len; rw [e] at this; simpa using this
  have hzl : (xss.take p ++ xss.drop (p + 1)).length = xss.length - 1 := by simp; omega
  have hr := h.row
  rw [e] at hr
  have key := Go.Lib.ownsRow_putRow (q := q) (k := xss.length - 1) (ys := ds.take p ++ ds.drop (p + 1) ++ List.replicate 1 nilH) hr (by simp; omega) (by omega)
  have ht : (ds.take p ++ ds.drop (p + 1) ++ List.replicate 1 nilH).take (xss.length - 1) = ds.take p ++ ds.drop (p + 1) := by
    rw [List.take_append_of_le_length (by simp; omega), List.take_of_length_le (by simp; omega)]
  rw [ht] at key
  have hrw := ((rws_of h).cut p (p + 1) (Nat.le_succ _)).grown (grown_putRow (enc := hd) (w := w) (g := g) (q := q) (ds.take p ++ ds.drop (p + 1) ++ List.replicate 1 nilH).toArray) (fun u hu k hk hk2 => by
    have hm : u ∈ vs := by
      rcases List.mem_append.1 hu with hu | hu
      · exact List.mem_of_mem_take hu
      · exact List.mem_of_mem_drop hu
    obtain ⟨j, hj⟩ := List.getElem?_of_mem hm
    exact h.far hne hj hk (by simpa [Value.ownBlock] using hk2))
  have e2 : p + 1 - p = 1 := by omega
  rw [e2]
  refine Rws.gown hrw ?_
  rw [hzl, e]
  simpa using key
end Go.Proofs.Ytikpgkholhokoaa.GridHd
