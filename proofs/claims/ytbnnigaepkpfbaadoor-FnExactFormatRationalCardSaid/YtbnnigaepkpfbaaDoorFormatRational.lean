/-
  The format of rationals (impl.FormatRational) answers as its model at every rational: law FnExactFormatRational is true; the tied card.
  Condition: the listed tables of strconv and math/bits hold what the program's text lays (tied by the card).
-/
import Derived.Test.YtbnnigaepkpfbaaDoorCards
import Derived.Test.YtbnnigaepkpfbaaDoorTie
import Derived.Test.YtbnnigaepkpfbaaDoorStep
import Derived.Test.YtbnnigaepkpfbaaDoorRatArg
import Derived.Test.YtbnnigaepkpfbaaDoorToRat
import Derived.Test.YtbnnigaepkpfbaaDoorFmtCalls
import Derived.Test.YtbnnigaepkpfbaaDoorFmtFrac
import Derived.WalkKit
import Derived.ProofKit
import Derived.OpenShut
import Derived.Deep.DeepHandedRow
import Derived.Lib.LaidTab
namespace Go.Proofs.YtbnnigaepkpfbaaDoor.FormatRational
open Go.ChangeShapes Go.WideShapes Go.ChangeAt Go.RowKit
open Go.Proofs.YtbnnigaepkpfbaaDoor.Num Go.Proofs.YtbnnigaepkpfbaaDoor.Row Go.Proofs.YtbnnigaepkpfbaaDoor.Rat Go.Proofs.YtbnnigaepkpfbaaDoor.Cells Go.Proofs.YtbnnigaepkpfbaaDoor.LaidI Go.Proofs.YtbnnigaepkpfbaaDoor.FmtCalls Go.Proofs.YtbnnigaepkpfbaaDoor.FmtFrac Go.Proofs.YtbnnigaepkpfbaaDoor.ToRat
set_option linter.unusedVariables false

theorem core (x y : Int) (s : ByteArray) (w : World) (ht : Pow w) (S : RowKit.Hid (∀ W, Calls Tryd.prog 5 #[.agg #[.int .i64 x, .int .i64 y]] W fun e w' => e = .returned (.string s) ∧ Below W.heap.size W w')) (I : RowKit.Hid (∀ W, Pow W → Calls Tryd.prog 7 #[.agg #[.int .i64 x, .int .i64 y]] W fun e w' => e = .returned (.string s) ∧ Below W.heap.size W w')) :
    Calls Tryd.prog 3 #[.agg #[.int .i64 x, .int .i64 y]] w fun e w' => e = .returned (.bool true) ∧ Below w.heap.size w w' := by
  have HT := hid ht
  clear ht
  have K0 := hid (has2_new w (.int .i64 x) (.int .i64 y) 23)
  go_enter Tryd.func3, Tryd.ntmps3
  go_wp2_with fail
  refine (to_rat x y _).mono ?_
  rintro e w1 ⟨rfl, hb1⟩
  have B1 := hid (((Below.refl w.heap.size w).alloc (Nat.le_refl _) _).trans (hb1.mono (by simp)))
  have K1 := hid (K0.out.below hb1)
  clear hb1
  go_wp2_with fail
  refine (S.out _).mono ?_
  rintro e w2 ⟨rfl, hb2⟩
  have B2 := hid (B1.out.trans (hb2.mono B1.out.size))
  obtain ⟨k0, k1, kz, _, _⟩ := K1.out.below hb2
  clear hb2
  go_wp2_with fail
  clear k0 k1
  refine (to_rat x y _).mono ?_
  rintro e w3 ⟨rfl, hb3⟩
  have B3 := hid (B2.out.trans (hb3.mono B2.out.size))
  clear hb3
  go_wp2_with fail
  refine (I.out _ (HT.out.below B3.out)).mono ?_
  rintro e w4 ⟨rfl, hb4⟩
  have B4 := hid (B3.out.trans (hb4.mono B3.out.size))
  clear hb4
  go_wp2_with fail
  go_ret
  exact ⟨rfl, B4.out⟩

theorem walk (x y : Int) (hx : -9223372036854775808 ≤ x ∧ x ≤ 9223372036854775807) (hy : -9223372036854775808 ≤ y ∧ y ≤ 9223372036854775807) (w : World) (ht : Pow w) :
    Calls Tryd.prog 3 #[.agg #[.int .i64 x, .int .i64 y]] w fun e w' => e = .returned (.bool true) ∧ Below w.heap.size w w' := by
  cases h : vr x y with
  | false => exact core x y _ w ht (fun W => spec_fmt_no x y W hx hy h) (fun W _ => impl_fmt_no x y W hx hy h)
  | true =>
    by_cases h1 : y = 1
    · exact core x y _ w ht (fun W => spec_fmt_one x y W h h1) (fun W hp => impl_fmt_one x y W hp h h1)
    · exact core x y _ w ht (fun W => spec_fmt_frac x y W h h1) (fun W hp => impl_fmt_frac x y W hp h h1)

theorem own : ownKnob Tryd.prog.godebug = none := by kernel_rfl
theorem gPowType : (Tryd.prog.globals[3]?).map (·.type) = some 77 := by kernel_rfl
theorem cellsArr : Tryd.prog.cellsOf 77 = 20 := by kernel_rfl
theorem cellsOne : Tryd.prog.cellsOf 56 = 1 := by kernel_rfl

theorem table {W : World} (h : laidMetH Tryd.prog Rows.fnExactFormatRationalRow.laid W) : Pow W := by
  have h1 : laidMet Tryd.prog Rows.fnExactFormatRationalRow.laid W := h
  exact Lib.tabIs_of_head (rest := []) gPow gPowType Tryd.underlying77 Tryd.underlying56 cellsOne cellsArr h1.tail.tail

/-- The numbers of a laid table as values. -/
noncomputable def numOf : DataW Unit → Value
  | .lit (.int k n) => .int k n
  | _ => undef
noncomputable def cellsOf' : DataW Unit → Array Value
  | .agg parts => (parts.map numOf).toArray
  | _ => #[]
/-- Block g of the heap holds other cells. -/
noncomputable def put (g : Nat) (cs : Array Value) (h : Array Obj) : Array Obj := h.modify g fun
  | .cells _ t frozen => .cells cs t frozen
  | o => o

noncomputable def laidWorld (os : Os) : World :=
  { World.holding Tryd.prog os ⟨#[], #[], []⟩ with heap := put 4 (cellsOf' Rows.laid_math_bits_deBruijn32tab) (put 5 (cellsOf' Rows.laid_math_bits_deBruijn64tab) (put 3 (cellsOf' Rows.laid_internal_strconv_uint64pow10) (World.holding Tryd.prog os ⟨#[], #[], []⟩).heap)) }

theorem laid_met (os : Os) : laidMet Tryd.prog Rows.fnExactFormatRationalRow.laid ((laidWorld os).forCall (fun _ _ => 0) ⟨#[], #[.agg #[.int .i64 0, .int .i64 0]], []⟩).memory :=
  laidMet_of_run' 8 (by kernel_rfl) (by kernel_rfl)
theorem reads (os : Os) {H : Type} (enc : TypeId × Value → H) : ∃ places, DataW.whole enc Tryd.prog ((laidWorld os).forCall (fun _ _ => 0) ⟨#[], #[.agg #[.int .i64 0, .int .i64 0]], []⟩).memory Tryd.f3.params.toList Rows.fnExactFormatRationalSpec.vars false #[Value.agg #[.int .i64 0, .int .i64 0]].toList 8 = some ([.agg [.lit (.int .i64 0), .lit (.int .i64 0)]], [], places) :=
  ⟨[], by kernel_rfl⟩

theorem laidOut : laidOutB Tryd.prog = true := by kernel_rfl
theorem ratCells : Tryd.prog.cellsOf 23 = 2 := by kernel_rfl
theorem ratOne : Go.Deep.oneCellFields Tryd.prog #[{ name := "Num", type := 3, offset := 0, embedded := false, tag := "", pkgPath := "", byteOffset := 0 }, { name := "Den", type := 3, offset := 1, embedded := false, tag := "", pkgPath := "", byteOffset := 8 }] = true := by kernel_rfl

theorem contract (H : Type) (enc : TypeId × Value → H) (W : World) (base : Nat) (args : Array Value) (ds gs : List (DataW H)) (before : List MemPlace)
    (hval0 : ∀ (j : Nat) t v, Tryd.f3.params[j]? = some t → args[j]? = some v → Value.okWide Tryd.prog W .any base t v)
    (hW : DataW.Whole enc Tryd.prog Tryd.f3.params.toList Rows.fnExactFormatRationalSpec.vars false W args.toList ds gs before) (hL : laidMetH Tryd.prog Rows.fnExactFormatRationalRow.laid W) :
    Calls Tryd.prog 3 args W fun e W' => ∃ v, e = .returned v ∧ Rows.fnExactFormatRationalSpec.post enc Tryd.prog Tryd.f3 false true false false W args v W' := by
  have hval := hval0
  have hW' := hW
  obtain ⟨p, q, hA0, hV, rfl, hfz, hnd⟩ := hW
  have hA : DataW.TrodAll enc Tryd.prog W 0 (fun _ => true) true Tryd.f3.params.toList args.toList ds p := hA0
  rw [Tryd.params3] at hA hval
  obtain ⟨v0, vs0, d0, ds0, p0, q0, hargs, rfl, rfl, h0, r0⟩ := trodAll_cons hA
  obtain ⟨rfl, rfl, rfl⟩ := trodAll_nil r0
  obtain rfl : args = #[v0] := by cases args; simp_all
  have hend : ∀ W', Below W.heap.size W W' → Rows.fnExactFormatRationalSpec.post enc Tryd.prog Tryd.f3 false true false false W #[v0] (.bool true) W' := fun W' hb =>
    Step.post_true laidOut (by kernel_rfl) (by rfl) Tryd.underlying4 hW' rfl rfl rfl rfl hb
  obtain ⟨x0, y0, rfl, hx0, hy0⟩ := RatArg.open_rat Tryd.underlying23 ratOne ratCells Tryd.underlying3 Tryd.underlying3 (hval 0 23 v0 rfl rfl) h0
  refine (walk x0 y0 hx0 hy0 W (table hL)).mono fun e W' ⟨he, bel⟩ => ?_
  subst he
  exact ⟨_, rfl, hend W' bel⟩

set_option maxRecDepth 100000 in
theorem lifted (os : Os) (started : os.Started) (H : Type) (enc : TypeId × Value → H) (F : Stop.Interp) :
    ReturnsInHanded {} Tryd.checked os 3 .any ((OpenSpec.ofChange Rows.fnExactFormatRationalSpec).preRow enc Tryd.prog Tryd.f3 Rows.fnExactFormatRationalRow.domain false Rows.fnExactFormatRationalRow.laid) (((OpenSpec.ofChange Rows.fnExactFormatRationalSpec).at F).post enc Tryd.prog Tryd.f3 false true false false) := by
  obtain ⟨places, hx⟩ := reads os enc
  refine returnsInHanded_of_row (C := Tryd.checked) (s := OpenSpec.ofChange Rows.fnExactFormatRationalSpec) own started (by kernel_rfl) Tryd.func3
    (witness_row_at (enc := enc) (C := Tryd.checked) false (laidWorld os) #[.agg #[.int .i64 0, .int .i64 0]] rfl (by kernel_rfl) (by kernel_rfl) (by kernel_rfl)
      (OpenSpec.preRow_of_cond 8 hx (by kernel_rfl) (fun k hk => by cases hk) (by kernel_rfl) (laid_met os))) ?_
  intro W base args ds gs before hval hW _ _ _ hL _ _
  exact contract H enc W base args ds gs before hval hW hL

theorem said : Rows.FnExactFormatRationalSaid :=
  OpenClaim.holds_of_cond 3 Tryd.f3 rfl rfl rfl rfl rfl rfl rfl ⟨rfl, rfl, rfl, rfl, rfl⟩ rfl rfl rfl rfl rfl (by kernel_rfl) Tryd.func3 (by kernel_rfl)
    (of_decide_eq_true (by kernel_rfl)) (by unfold Func.isWrapper; first | (rw [if_pos (by decide +kernel)]; kernel_rfl) | (rw [if_neg (by decide +kernel)]; exact ⟨rfl, rfl⟩))
    (fun os started H enc _ F => by rw [OpenClaim.pre_eq_preRow]; exact lifted os started H enc F)

theorem plain (f : FuncId) (fn : Func) (hf : Tryd.pinned.checked.prog.funcNamed "loop.example/g01917/laws.FnExactFormatRational" = some f) (hfn : Tryd.pinned.checked.prog.funcs[f]? = some fn) :
    true = Tryd.pinned.checked.prog.looks [] ∧ ∀ (j : Nat) t, fn.params[j]? = some t → Tryd.pinned.checked.prog.wantsStandIn t = false := by
  obtain rfl : f = 3 := Option.some.inj ((show Tryd.prog.funcNamed "loop.example/g01917/laws.FnExactFormatRational" = some 3 by kernel_rfl).symm.trans hf) |>.symm
  obtain rfl : fn = Tryd.f3 := (Option.some.inj (Tryd.func3.symm.trans hfn)).symm
  refine ⟨by kernel_rfl, fun j t ht => ?_⟩
  rw [Tryd.params3] at ht
  obtain rfl : t = 23 := by simpa using Array.mem_of_getElem? ht
  exact (show Tryd.prog.wantsStandIn 23 = false by kernel_rfl)

theorem card : Rows.FnExactFormatRationalCardSaid :=
  Claim7.holds_tied_plain_at .later [] _ _ _ _ said (fun _ h => by cases h) (by kernel_rfl) (fun _ h => by cases h) fnExactFormatRational_row_tie rfl ⟨rfl, rfl⟩ (by kernel_rfl) rfl plain (by kernel_rfl)
#print axioms card
end Go.Proofs.YtbnnigaepkpfbaaDoor.FormatRational
