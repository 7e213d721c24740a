/-
  The test for fractional packings (impl.IsFractionalPacking) answers as its model at every query and every list of weights: the card of law FnExactIsFractionalPacking is true.
  Condition: the listed variables of math/bits hold what the program's text lays (tied by the card).
-/
import Derived.Test.YthghggnlfnbbgabDoorCards
import Derived.Test.YthghggnlfnbbgabDoorTie
import Derived.Test.YthghggnlfnbbgabDoorStep
import Derived.Test.YthghggnlfnbbgabDoorDatArg
import Derived.Test.YthghggnlfnbbgabDoorIsFractionalPackingW
import Derived.WalkKit
import Derived.ProofKit
import Derived.OpenShut
import Derived.ChangeMaps5
import Derived.Deep.DeepHandedRow
import Derived.Lib.LaidTab
import Derived.Stop.LaidErr
namespace Go.Proofs.YthghggnlfnbbgabDoor.IsFractionalPacking
open Go.ChangeShapes Go.WideShapes Go.ChangeAt Go.RowKit
open Go.ChangeMaps (open_string shut_string)
open Go.Proofs.YthghggnlfnbbgabDoor.SetI Go.Proofs.YthghggnlfnbbgabDoor.IsFractionalPackingW
set_option linter.unusedVariables false

theorem own : ownKnob Tryd.prog.godebug = none := by kernel_rfl
theorem laidOut : laidOutB Tryd.prog = true := by kernel_rfl
theorem gTab : Tryd.prog.globalNamed "math/bits.deBruijn64tab" = some 1 := by kernel_rfl
theorem gTabType : (Tryd.prog.globals[1]?).map (·.type) = some 91 := by kernel_rfl
theorem cellsOne : Tryd.prog.cellsOf 5 = 1 := by kernel_rfl
theorem cellsArr : Tryd.prog.cellsOf 91 = 64 := by kernel_rfl
theorem tab_of {P : Program} {w : World} {name : String} {g : Nat} {k : IntKind} {zs : List Int} (hg : P.globalNamed name = some g) (h : Lib.TabIs P w name k zs) (j : Nat) (hj : j < zs.length) : w.cell? ⟨g, j, none⟩ = some (.int k zs[j]) := by
  unfold Lib.TabIs World.var? at h
  rw [hg] at h
  simp only [Option.bind_some] at h
  unfold World.cell?
  cases hb : w.heap[g]? with
  | none => rw [hb] at h; cases h
  | some b =>
    rw [hb] at h
    cases b with
    | cells cs t f => simp only [Option.some.injEq] at h; subst h; simp [hj]
    | _ => cases h
theorem tab_len : (Lib.deBruijn64tab.map fun z : Nat => (z : Int)).length = 64 := by decide
theorem tab_at : ∀ j : Fin 64, (Lib.deBruijn64tab.map fun z : Nat => (z : Int))[j.val]? = some ((Lib.deBruijn64tab.getD j.val 0 : Nat) : Int) := by decide
theorem table {W : World} (h : laidMetH Tryd.prog Rows.fnExactIsFractionalPackingRow.laid W) : Tab W := by
  have h1 : laidMet Tryd.prog Rows.fnExactIsFractionalPackingRow.laid W := h
  have h2 := Lib.tabIs_of_head (zs := Lib.deBruijn64tab.map fun z : Nat => (z : Int)) (rest := []) gTab gTabType Tryd.underlying91 Tryd.underlying5 cellsOne cellsArr h1.tail
  intro j hj
  have h3 := tab_of gTab h2 j (by rw [tab_len]; exact hj)
  rw [h3]
  have h4 := tab_at ⟨j, hj⟩
  rw [List.getElem?_eq_getElem (by rw [tab_len]; exact hj)] at h4
  rw [Option.some.inj h4]

/-- The numbers of a laid table as values. -/
noncomputable def numOf : DataW Unit → Value
  | .lit (.int k n) => .int k n
  | _ => undef
noncomputable def cellsOf' : DataW Unit → Array Value
  | .agg parts => (parts.map numOf).toArray
  | _ => #[]
/-- Block g of the heap holds other cells. -/
noncomputable def put (g : Nat) (cs : Array Value) (h : Array Obj) : Array Obj := h.modify g fun
  | .cells _ t frozen => .cells cs t frozen
  | o => o
noncomputable def laidWorld (os : Os) : World :=
  { World.holding Tryd.prog os ⟨#[], #[], []⟩ with heap := put 0 (cellsOf' Rows.laid_math_bits_deBruijn32tab) (put 1 (cellsOf' Rows.laid_math_bits_deBruijn64tab) (World.holding Tryd.prog os ⟨#[], #[], []⟩).heap) }

theorem laid_met (os : Os) : laidMet Tryd.prog Rows.fnExactIsFractionalPackingRow.laid ((laidWorld os).forCall (fun _ _ => 0) ⟨#[], #[.agg #[.int .i64 0, .slice none 0 0, .slice none 0 0], .slice none 0 0], []⟩).memory :=
  laidMet_of_run' 8 (by kernel_rfl) (by kernel_rfl)
theorem reads (os : Os) {H : Type} (enc : TypeId × Value → H) : ∃ places, DataW.whole enc Tryd.prog ((laidWorld os).forCall (fun _ _ => 0) ⟨#[], #[.agg #[.int .i64 0, .slice none 0 0, .slice none 0 0], .slice none 0 0], []⟩).memory Tryd.f3.params.toList Rows.fnExactIsFractionalPackingSpec.vars false (#[.agg #[.int .i64 0, .slice none 0 0, .slice none 0 0], .slice none 0 0] : Array Value).toList 8 = some ([.agg [.lit (.int .i64 0), .nil, .nil], .nil], [], places) :=
  ⟨[], by kernel_rfl⟩

set_option maxRecDepth 100000 in
theorem contract (H : Type) (enc : TypeId × Value → H) (W : World) (base : Nat) (args : Array Value) (ds gs : List (DataW H)) (before : List MemPlace)
    (hval0 : ∀ (j : Nat) t v, Tryd.f3.params[j]? = some t → args[j]? = some v → Value.okWide Tryd.prog W .any base t v)
    (hW : DataW.Whole enc Tryd.prog Tryd.f3.params.toList Rows.fnExactIsFractionalPackingSpec.vars false W args.toList ds gs before) (hL : laidMetH Tryd.prog Rows.fnExactIsFractionalPackingRow.laid W) :
    Calls Tryd.prog 3 args W fun e W' => ∃ v, e = .returned v ∧ Rows.fnExactIsFractionalPackingSpec.post enc Tryd.prog Tryd.f3 false true false false W args v W' := by
  have hval := hval0
  have hW' := hW
  obtain ⟨p, q, hA0, hV, rfl, hfz, hnd⟩ := hW
  have hA : DataW.TrodAll enc Tryd.prog W 0 (fun _ => true) true Tryd.f3.params.toList args.toList ds p := hA0
  rw [Tryd.params3] at hA hval
  obtain ⟨v0, vs0, d0, ds0, p0, q0, hargs, rfl, rfl, h0, r0⟩ := trodAll_cons hA
  obtain ⟨v1, vs1, d1, ds1, p1, q1, rfl, rfl, rfl, h1, r1⟩ := trodAll_cons r0
  obtain ⟨rfl, rfl, rfl⟩ := trodAll_nil r1
  obtain rfl : args = #[v0, v1] := by cases args; simp_all
  have hend : ∀ W', Below W.heap.size W W' → Rows.fnExactIsFractionalPackingSpec.post enc Tryd.prog Tryd.f3 false true false false W #[v0, v1] (.bool true) W' := fun W' hb =>
    Step.post_true laidOut (by kernel_rfl) (by rfl) Tryd.underlying4 hW' rfl rfl rfl rfl hb
  obtain ⟨cs0, x0, rfl, hr0⟩ := Rdr.open_agg Tryd.underlying25 DatArg.opn_query (hval 0 25 v0 rfl rfl) h0
  obtain ⟨a1, x1, cap1, rfl, hn1, hr1⟩ := Rats.open_sl Tryd.underlying26 Rats.opn_rats (hval 1 26 v1 rfl rfl) h1
  refine (walk cs0 x0 a1 cap1 x1 hn1 W (table hL) hr0 hr1).mono fun e W' ⟨he, bel⟩ => ?_
  subst he
  exact ⟨_, rfl, hend W' bel⟩

set_option maxRecDepth 100000 in
theorem lifted (os : Os) (started : os.Started) (H : Type) (enc : TypeId × Value → H) (F : Stop.Interp) :
    ReturnsInHanded {} Tryd.checked os 3 .any ((OpenSpec.ofChange Rows.fnExactIsFractionalPackingSpec).preRow enc Tryd.prog Tryd.f3 Rows.fnExactIsFractionalPackingRow.domain false Rows.fnExactIsFractionalPackingRow.laid) (((OpenSpec.ofChange Rows.fnExactIsFractionalPackingSpec).at F).post enc Tryd.prog Tryd.f3 false true false false) := by
  obtain ⟨places, hx⟩ := reads os enc
  refine returnsInHanded_of_row (C := Tryd.checked) (s := OpenSpec.ofChange Rows.fnExactIsFractionalPackingSpec) own started (by kernel_rfl) Tryd.func3
    (witness_row_at (enc := enc) (C := Tryd.checked) false (laidWorld os) #[.agg #[.int .i64 0, .slice none 0 0, .slice none 0 0], .slice none 0 0] rfl (by kernel_rfl) (by kernel_rfl) (by kernel_rfl)
      (OpenSpec.preRow_of_cond 8 hx (by kernel_rfl) (fun k hk => by cases hk) (by kernel_rfl) (laid_met os))) ?_
  intro W base args ds gs before hval hW _ _ _ hL _ _
  exact contract H enc W base args ds gs before hval hW hL

theorem said : Rows.FnExactIsFractionalPackingSaid :=
  OpenClaim.holds_of_cond 3 Tryd.f3 rfl rfl rfl rfl rfl rfl rfl ⟨rfl, rfl, rfl, rfl, rfl⟩ rfl rfl rfl rfl rfl (by kernel_rfl) Tryd.func3 (by kernel_rfl)
    (of_decide_eq_true (by kernel_rfl)) (by unfold Func.isWrapper; first | (rw [if_pos (by decide +kernel)]; kernel_rfl) | (rw [if_neg (by decide +kernel)]; exact ⟨rfl, rfl⟩))
    (fun os started H enc _ F => by rw [OpenClaim.pre_eq_preRow]; exact lifted os started H enc F)

theorem plain (f : FuncId) (fn : Func) (hf : Tryd.pinned.checked.prog.funcNamed "loop.example/g01917/laws.FnExactIsFractionalPacking" = some f) (hfn : Tryd.pinned.checked.prog.funcs[f]? = some fn) :
    false = Tryd.pinned.checked.prog.looks [] ∧ ∀ (j : Nat) t, fn.params[j]? = some t → Tryd.pinned.checked.prog.wantsStandIn t = false := by
  obtain rfl : f = 3 := Option.some.inj ((show Tryd.prog.funcNamed "loop.example/g01917/laws.FnExactIsFractionalPacking" = some 3 by kernel_rfl).symm.trans hf) |>.symm
  obtain rfl : fn = Tryd.f3 := (Option.some.inj (Tryd.func3.symm.trans hfn)).symm
  refine ⟨by kernel_rfl, fun j t ht => ?_⟩
  rw [Tryd.params3] at ht
  rcases (show t = 25 ∨ t = 26 by simpa using Array.mem_of_getElem? ht) with rfl | rfl
  · exact (show Tryd.prog.wantsStandIn 25 = false by kernel_rfl)
  · exact (show Tryd.prog.wantsStandIn 26 = false by kernel_rfl)

theorem card : Rows.FnExactIsFractionalPackingCardSaid :=
  Claim7.holds_tied_plain_at .later [] _ _ _ _ said (fun _ h => by cases h) (by kernel_rfl) (fun _ h => by cases h) fnExactIsFractionalPacking_row_tie rfl ⟨rfl, rfl⟩ (by kernel_rfl) rfl plain (by kernel_rfl)
#print axioms card
end Go.Proofs.YthghggnlfnbbgabDoor.IsFractionalPacking
