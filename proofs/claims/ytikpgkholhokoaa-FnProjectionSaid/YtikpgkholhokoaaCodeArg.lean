/- An argument 'code []byte' opened as the bytes that the draws read. -/
import Derived.Test.YtikpgkholhokoaaCur
import Derived.ProofKit
import Derived.OpenShut
namespace Go.Proofs.Ytikpgkholhokoaa.CodeArg
open Go.ChangeShapes Go.WideShapes Go.ChangeAt Go.RowKit
section
variable {H : Type} {enc : TypeId × Value → H} {P : Program}

theorem lt_of_cell {w : World} {b o : Nat} {v : Value} (h : w.cell? ⟨b, o, none⟩ = some v) : b < w.heap.size := by
  rcases Nat.lt_or_ge b w.heap.size with h1 | h1
  · exact h1
  · simp [World.cell?, Array.getElem?_eq_none h1] at h

theorem byte_back (z : Int) (h : (Lit.int .u8 z).wf = true) : ((((UInt8.ofNat z.toNat).toNat : Nat)) : Int) = z := by
  have : 0 ≤ z ∧ z ≤ 255 := bounds_u8 h
  simp
  omega

theorem open_code {W : World} {base : Nat} {t e : TypeId} {v : Value} {d : DataW H} {p : List MemPlace} (ht : P.underlying t = some (.slice e)) (he : P.underlying e = some (.int .u8)) (hc : P.cellsOf e = 1)
    (hval : Value.okWide P W .any base t v) (h : DataW.Trod enc P W 0 (fun _ => true) true t v d p) :
    (∃ l : List UInt8, l.length ≤ 1048576 ∧ Cur.Code W W.heap.size v l) ∨ (∃ (a : Option Addr) (n cap : Nat), v = .slice a n cap ∧ 1048576 < n ∧ n ≤ 9223372036854775807) := by
  obtain ⟨a0, len, cap, rfl⟩ := okWide_slice ht hval
  obtain ⟨fuel, hf⟩ := h
  rcases open_ints ht he hc hf with ⟨hcs, hx⟩ | ⟨a, len', cap', zs, hcs, _, hl, hm, hz, hx, hcell, hwz⟩
  · simp [Value.cells] at hcs
    obtain ⟨rfl, rfl, rfl⟩ := hcs
    exact Or.inl ⟨[], by simp, Or.inl ⟨rfl, none, 0, rfl⟩⟩
  · simp [Value.cells] at hcs
    obtain ⟨rfl, rfl, rfl⟩ := hcs
    simp only [if_true] at hz
    by_cases hb : 1048576 < len
    · exact Or.inr ⟨_, _, _, rfl, hb, by unfold maxLen at hm; omega⟩
    · left
      by_cases h0 : len = 0
      · subst h0
        exact ⟨[], by simp, Or.inl ⟨rfl, _, _, rfl⟩⟩
      · obtain ⟨b, off, rfl, hat⟩ := ints_at hcell (by omega)
        refine ⟨(zs.take len).map fun z => UInt8.ofNat z.toNat, by simp; omega, Or.inr ⟨b, off, cap, ?_, lt_of_cell (hat 0 (by omega)), ?_⟩⟩
        · have : ((zs.take len).map fun z => UInt8.ofNat z.toNat).length = len := by simp; omega
          rw [this]
        · intro j hj
          have hj' : j < len := by simp at hj; omega
          rw [hat j (by omega)]
          have hz1 : j < zs.length := by omega
          have e1 : zs.getD j 0 = zs[j] := by rw [List.getD_eq_getElem?_getD, List.getElem?_eq_getElem hz1]; rfl
          have e2 : (((zs.take len).map fun z => UInt8.ofNat z.toNat)[j]) = UInt8.ofNat (zs[j]).toNat := by simp
          rw [e1, e2, byte_back _ (hwz _ (List.getElem_mem hz1))]
end
end Go.Proofs.Ytikpgkholhokoaa.CodeArg
