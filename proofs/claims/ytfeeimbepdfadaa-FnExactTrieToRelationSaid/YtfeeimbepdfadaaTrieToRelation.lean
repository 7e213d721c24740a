/-
  At every trie and columns the program's TrieToRelation answers as the model's, leaves its arguments as they were, and its answer owns its memory.
-/
import Derived.Test.YtfeeimbepdfadaaRows
import Derived.Test.YtfeeimbepdfadaaStep
import Derived.ChangeMaps5
import Derived.Test.YtfeeimbepdfadaaRelArg
import Derived.Test.YtfeeimbepdfadaaRowArg
import Derived.Test.YtfeeimbepdfadaaTrieToRelationW
namespace Go.Proofs.Ytfeeimbepdfadaa.TrieToRelation
open Go.ChangeShapes Go.WideShapes Go.ChangeAt Go.RowKit
open Go.ChangeMaps (open_string)
open Go.Proofs.Ytfeeimbepdfadaa.TrieToRelationW
set_option linter.unusedVariables false

theorem own : ownKnob Try.prog.godebug = none := by kernel_rfl
theorem laidOut : laidOutB Try.prog = true := by kernel_rfl

theorem triCells : Try.prog.cellsOf 50 = 2 := by kernel_rfl
theorem triOne : Go.Deep.oneCellFields Try.prog #[{ name := "Arity", type := 3, offset := 0, embedded := false, tag := "", pkgPath := "", byteOffset := 0 }, { name := "Rows", type := 24, offset := 1, embedded := false, tag := "", pkgPath := "", byteOffset := 8 }] = true := by kernel_rfl

theorem rowCells : Try.prog.cellsOf 27 = 1 := by kernel_rfl
theorem intCells : Try.prog.cellsOf 3 = 1 := by kernel_rfl

set_option maxRecDepth 100000 in
theorem lifted (os : Os) (started : os.Started) (H : Type) (enc : TypeId × Value → H) :
    ReturnsInHanded {} Try.checked os 6 .any (Rows.fnExactTrieToRelationSpec.pre6 enc Try.prog Try.f6 Rows.fnExactTrieToRelationRow.domain false) (Rows.fnExactTrieToRelationSpec.post enc Try.prog Try.f6 false true false false) := by
  refine returnsInHanded_of_change (C := Try.checked) own started (by kernel_rfl) Try.func6
    (ChangeSpec.witness6 (enc := enc) (C := Try.checked) false ⟨#[], #[.agg #[.int .i64 0, .slice none 0 0], .slice none 0 0], []⟩ 8 (by kernel_rfl) (by kernel_rfl) (by kernel_rfl) (by kernel_rfl)) ?_
  intro W base args ds gs before hval0 hW hcnd _
  have hval : ∀ (j : Nat) t v, Try.f6.params[j]? = some t → args[j]? = some v → Value.okWide Try.prog W .any 0 t v := fun j t v h1 h2 => (hval0 j t v h1 h2)
  have hW' := hW
  obtain ⟨p, q, hA0, hV, rfl, hfz, hnd⟩ := hW
  have hA : DataW.TrodAll enc Try.prog W 0 (fun _ => true) true Try.f6.params.toList args.toList ds p := hA0
  rw [Try.params6] at hA hval
  obtain ⟨v0, vs0, d0, ds0, p0, q0, hargs, rfl, rfl, h0, r0⟩ := trodAll_cons hA
  obtain ⟨v1, vs1, d1, ds1, p1, q1, rfl, rfl, rfl, h1, r1⟩ := trodAll_cons r0
  obtain ⟨rfl, rfl, rfl⟩ := trodAll_nil r1
  obtain rfl : args = #[v0, v1] := by cases args; simp_all
  have hend : ∀ W', Below W.heap.size W W' → Rows.fnExactTrieToRelationSpec.post enc Try.prog Try.f6 false true false false W #[v0, v1] (.bool true) W' := fun W' hb =>
    Step.post_true laidOut (by kernel_rfl) (by rfl) Try.underlying4 hW' rfl rfl rfl rfl hb
  obtain ⟨m0, a0, n0, cap0, rfl, hm0, hn0, xss0, hl0, hx0, hr0⟩ := RelArg.open_rel Try.underlying50 triOne triCells Try.underlying3 Try.underlying24 Try.underlying27 Try.underlying3 rowCells intCells (hval 0 50 v0 rfl rfl) h0
  obtain ⟨a1, n1, cap1, rfl, hn1, xs1, hl1, hr1⟩ := RowArg.open_row Try.underlying27 Try.underlying3 intCells (hval 1 27 v1 rfl rfl) h1
  refine (walk m0 a0 n0 cap0 hn0 xss0 hl0 hx0 a1 n1 cap1 hn1 xs1 hl1 W hr0 hr1).mono fun e W' ⟨he, bel⟩ => ?_
  subst he
  exact ⟨_, rfl, hend W' bel⟩

theorem proved : Rows.FnExactTrieToRelationSaid :=
  OpenClaim.holds_of_wide 6 Try.f6 rfl rfl rfl rfl rfl rfl rfl ⟨rfl, rfl, rfl, rfl, rfl⟩ rfl rfl rfl rfl rfl (by kernel_rfl) Try.func6 (by kernel_rfl)
    (of_decide_eq_true (by kernel_rfl)) (by unfold Func.isWrapper; first | (rw [if_pos (by decide +kernel)]; kernel_rfl) | (rw [if_neg (by decide +kernel)]; exact ⟨rfl, rfl⟩))
    (fun os started H enc _ => lifted os started H enc)
#print axioms proved

end Go.Proofs.Ytfeeimbepdfadaa.TrieToRelation
