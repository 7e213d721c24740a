/-
  At every code, what SolveLinearSystem finds for the drawn system satisfies it, and the model finds the same.
-/
import Derived.Carry
import Derived.ProofKit
import Derived.OpenShut
import Derived.Test.YtjnphlgmmjdeiaaCur
import Derived.Test.YtjnphlgmmjdeiaaRows
import Derived.ChangeMaps5
import Derived.Test.YtjnphlgmmjdeiaaLinearSystemW
namespace Go.Proofs.Ytjnphlgmmjdeiaa.Step
open Go.ChangeShapes Go.WideShapes Go.ChangeAt Go.RowKit
section
variable {H : Type} {enc : TypeId × Value → H} {P : Program}

theorem trodAll_below (hl : laidOutB P = true) {W W' : World} (hb : Below W.heap.size W W') :
    ∀ {ts : List TypeId} {vs : List Value} {ds : List (DataW H)} {ps : List MemPlace}, (ts.all fun t => P.readableRec t && decide (t < P.types.size)) = true → (∀ x ∈ ps, x.block < W.heap.size) →
      DataW.TrodAll enc P W 0 (fun _ => true) true ts vs ds ps → DataW.TrodAll enc P W' 0 (fun b => decide (b < W.heap.size)) true ts vs ds ps
  | [], [], [], _, _, _, h => h
  | t :: ts, v :: vs, d :: ds, ps, ht, hlt, h => by
    obtain ⟨p, q, h1, h2, e⟩ := h
    simp only [List.all_cons, Bool.and_eq_true, decide_eq_true_eq] at ht
    subst e
    exact ⟨p, q, Below.trod hl ht.1.1 ht.1.2 h1 hb (fun x hx => hlt x (List.mem_append.2 (.inl hx))), trodAll_below hl hb ht.2 (fun x hx => hlt x (List.mem_append.2 (.inr hx))) h2, rfl⟩
  | [], _ :: _, _, _, _, _, h => h.elim
  | [], [], _ :: _, _, _, _, h => h.elim
  | _ :: _, [], _, _, _, _, h => h.elim
  | _ :: _, _ :: _, [], _, _, _, h => h.elim

theorem post_true {f : Func} {s : ChangeSpec} {W W' : World} {args : Array Value} {ds gs : List (DataW H)} {before : List MemPlace} (hl : laidOutB P = true)
    (hts : (f.params.toList.all fun t => P.readableRec t && decide (t < P.types.size)) = true) {tb : TypeId} (hr : f.resultTypes = #[tb]) (hb : P.underlying tb = some .bool)
    (hW : DataW.Whole enc P f.params.toList s.vars false W args.toList ds gs before) (hv : s.vars = [])
    (h1 : (s.fn H ds).results = [.lit (.bool true)]) (h2 : (s.fn H ds).args = ds) (h3 : (s.fn H ds).vars = [])
    (hbel : Below W.heap.size W W') : s.post enc P f false true false false W args (.bool true) W' := by
  have hW' := hW
  obtain ⟨p, q, hA, hV, rfl, hfz, hnd⟩ := hW
  have hlt : ∀ x ∈ p ++ q, x.block < W.heap.size := fun x hx => hW'.lt x hx
  rw [hv] at hV
  obtain ⟨rfl, rfl⟩ := trodVars_none hV
  refine ⟨ds, [], p ++ [], [], p, [], hW', ?_, ?_, ?_, hbel.frame _, fun h => by cases h⟩
  · rw [List.append_nil, h1, hr]
    exact trodAll_mk1 (shut_bool hb _)
  · rw [List.append_nil, h2]
    exact trodAll_below hl hbel hts (fun x hx => hlt x (List.mem_append.2 (.inl hx))) hA
  · rw [List.append_nil, h3, hv]
    exact rfl
end
end Go.Proofs.Ytjnphlgmmjdeiaa.Step

namespace Go.Proofs.Ytjnphlgmmjdeiaa.CodeArg
open Go.ChangeShapes Go.WideShapes Go.ChangeAt Go.RowKit
section
variable {H : Type} {enc : TypeId × Value → H} {P : Program}

theorem lt_of_cell {w : World} {b o : Nat} {v : Value} (h : w.cell? ⟨b, o, none⟩ = some v) : b < w.heap.size := by
  rcases Nat.lt_or_ge b w.heap.size with h1 | h1
  · exact h1
  · simp [World.cell?, Array.getElem?_eq_none h1] at h

theorem byte_back (z : Int) (h : (Lit.int .u8 z).wf = true) : ((((UInt8.ofNat z.toNat).toNat : Nat)) : Int) = z := by
  have : 0 ≤ z ∧ z ≤ 255 := bounds_u8 h
  simp
  omega

theorem open_code {W : World} {base : Nat} {t e : TypeId} {v : Value} {d : DataW H} {p : List MemPlace} (ht : P.underlying t = some (.slice e)) (he : P.underlying e = some (.int .u8)) (hc : P.cellsOf e = 1)
    (hval : Value.okWide P W .any base t v) (h : DataW.Trod enc P W 0 (fun _ => true) true t v d p) :
    (∃ l : List UInt8, l.length ≤ 1048576 ∧ Cur.Code W W.heap.size v l) ∨ (∃ (a : Option Addr) (n cap : Nat), v = .slice a n cap ∧ 1048576 < n ∧ n ≤ 9223372036854775807) := by
  obtain ⟨a0, len, cap, rfl⟩ := okWide_slice ht hval
  obtain ⟨fuel, hf⟩ := h
  rcases open_ints ht he hc hf with ⟨hcs, hx⟩ | ⟨a, len', cap', zs, hcs, _, hl, hm, hz, hx, hcell, hwz⟩
  · simp [Value.cells] at hcs
    obtain ⟨rfl, rfl, rfl⟩ := hcs
    exact Or.inl ⟨[], by simp, Or.inl ⟨rfl, none, 0, rfl⟩⟩
  · simp [Value.cells] at hcs
    obtain ⟨rfl, rfl, rfl⟩ := hcs
    simp only [if_true] at hz
    by_cases hb : 1048576 < len
    · exact Or.inr ⟨_, _, _, rfl, hb, by unfold maxLen at hm; omega⟩
    · left
      by_cases h0 : len = 0
      · subst h0
        exact ⟨[], by simp, Or.inl ⟨rfl, _, _, rfl⟩⟩
      · obtain ⟨b, off, rfl, hat⟩ := ints_at hcell (by omega)
        refine ⟨(zs.take len).map fun z => UInt8.ofNat z.toNat, by simp; omega, Or.inr ⟨b, off, cap, ?_, lt_of_cell (hat 0 (by omega)), ?_⟩⟩
        · have : ((zs.take len).map fun z => UInt8.ofNat z.toNat).length = len := by simp; omega
          rw [this]
        · intro j hj
          have hj' : j < len := by simp at hj; omega
          rw [hat j (by omega)]
          have hz1 : j < zs.length := by omega
          have e1 : zs.getD j 0 = zs[j] := by rw [List.getD_eq_getElem?_getD, List.getElem?_eq_getElem hz1]; rfl
          have e2 : (((zs.take len).map fun z => UInt8.ofNat z.toNat)[j]) = UInt8.ofNat (zs[j]).toNat := by simp
          rw [e1, e2, byte_back _ (hwz _ (List.getElem_mem hz1))]
end
end Go.Proofs.Ytjnphlgmmjdeiaa.CodeArg

namespace Go.Proofs.Ytjnphlgmmjdeiaa.LinearSystem
open Go.ChangeShapes Go.WideShapes Go.ChangeAt Go.RowKit
open Go.ChangeMaps (open_string)
open Go.Proofs.Ytjnphlgmmjdeiaa.LinearSystemW
set_option linter.unusedVariables false

theorem own : ownKnob Try.prog.godebug = none := by kernel_rfl
theorem laidOut : laidOutB Try.prog = true := by kernel_rfl

theorem cellsByte : Try.prog.cellsOf 5 = 1 := by kernel_rfl

set_option maxRecDepth 100000 in
theorem lifted (os : Os) (started : os.Started) (H : Type) (enc : TypeId × Value → H) :
    ReturnsInHanded {} Try.checked os 3 .any (Rows.fnLinearSystemSpec.pre6 enc Try.prog Try.f3 Rows.fnLinearSystemRow.domain false) (Rows.fnLinearSystemSpec.post enc Try.prog Try.f3 false true false false) := by
  refine returnsInHanded_of_change (C := Try.checked) own started (by kernel_rfl) Try.func3
    (ChangeSpec.witness6 (enc := enc) (C := Try.checked) false ⟨#[], #[.slice none 0 0], []⟩ 8 (by kernel_rfl) (by kernel_rfl) (by kernel_rfl) (by kernel_rfl)) ?_
  intro W base args ds gs before hval0 hW hcnd _
  have hval : ∀ (j : Nat) t v, Try.f3.params[j]? = some t → args[j]? = some v → Value.okWide Try.prog W .any 0 t v := fun j t v h1 h2 => (hval0 j t v h1 h2)
  have hW' := hW
  obtain ⟨p, q, hA0, hV, rfl, hfz, hnd⟩ := hW
  have hA : DataW.TrodAll enc Try.prog W 0 (fun _ => true) true Try.f3.params.toList args.toList ds p := hA0
  rw [Try.params3] at hA hval
  obtain ⟨v0, vs0, d0, ds0, p0, q0, hargs, rfl, rfl, h0, r0⟩ := trodAll_cons hA
  obtain ⟨rfl, rfl, rfl⟩ := trodAll_nil r0
  obtain rfl : args = #[v0] := by cases args; simp_all
  have hend : ∀ W', Below W.heap.size W W' → Rows.fnLinearSystemSpec.post enc Try.prog Try.f3 false true false false W #[v0] (.bool true) W' := fun W' hb =>
    Step.post_true laidOut (by kernel_rfl) (by rfl) Try.underlying4 hW' rfl rfl rfl rfl hb
  rcases CodeArg.open_code Try.underlying22 Try.underlying5 cellsByte (hval 0 22 v0 rfl rfl) h0 with ⟨l, hl, hc⟩ | ⟨a, n, cap, rfl, h1, h2⟩
  · refine (walk W v0 l hl hc).mono fun e W' ⟨he, bel⟩ => ?_
    subst he
    exact ⟨_, rfl, hend W' bel⟩
  · refine (walk_big W a n cap h1 h2).mono fun e W' ⟨he, bel⟩ => ?_
    subst he
    exact ⟨_, rfl, hend W' bel⟩

theorem proved : Rows.FnLinearSystemSaid :=
  OpenClaim.holds_of_wide 3 Try.f3 rfl rfl rfl rfl rfl rfl rfl ⟨rfl, rfl, rfl, rfl, rfl⟩ rfl rfl rfl rfl rfl (by kernel_rfl) Try.func3 (by kernel_rfl)
    (of_decide_eq_true (by kernel_rfl)) (by unfold Func.isWrapper; first | (rw [if_pos (by decide +kernel)]; kernel_rfl) | (rw [if_neg (by decide +kernel)]; exact ⟨rfl, rfl⟩))
    (fun os started H enc _ => lifted os started H enc)
#print axioms proved

end Go.Proofs.Ytjnphlgmmjdeiaa.LinearSystem
