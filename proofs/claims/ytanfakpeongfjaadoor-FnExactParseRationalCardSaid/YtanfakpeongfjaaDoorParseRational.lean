/-
  The reading of rationals (impl.ParseRational) answers as its model at every string: law FnExactParseRational is true; the tied card.
  Condition: the listed variables of strconv and math/bits hold what the program's text lays (tied by the card).
-/
import Derived.Test.YtanfakpeongfjaaDoorCards
import Derived.Test.YtanfakpeongfjaaDoorTie
import Derived.Test.YtanfakpeongfjaaDoorSentR
import Derived.Test.YtanfakpeongfjaaDoorParseRS
import Derived.Test.YtanfakpeongfjaaDoorParseRI
import Derived.WalkKit
import Derived.ProofKit
import Derived.OpenShut
import Derived.Deep.DeepHandedRow
import Derived.Lib.LaidTab
namespace Go.Proofs.YtanfakpeongfjaaDoor.ParseRational
open Go.ChangeShapes Go.WideShapes Go.ChangeAt Go.RowKit
open Go.ChangeMaps (open_string shut_string)
open Go.Proofs.YtanfakpeongfjaaDoor.Num Go.Proofs.YtanfakpeongfjaaDoor.Row Go.Proofs.YtanfakpeongfjaaDoor.Cells Go.Proofs.YtanfakpeongfjaaDoor.LaidI Go.Proofs.YtanfakpeongfjaaDoor.SentR Go.Proofs.YtanfakpeongfjaaDoor.ReadR
set_option linter.unusedVariables false

theorem ends (o : Option (Int × Int)) : ∃ (x y : Int) (b : Bool), endR o = .returned (.tuple #[.agg #[.int .i64 x, .int .i64 y], .bool b]) := by
  rcases o with _ | ⟨x, y⟩
  · exact ⟨0, 0, false, rfl⟩
  · exact ⟨x, y, true, rfl⟩
theorem eq_rat (x y : Int) (w : World) : Calls Tryd.prog 6 #[.agg #[.int .i64 x, .int .i64 y], .agg #[.int .i64 x, .int .i64 y]] w fun e w' => e = .returned (.bool true) ∧ Below w.heap.size w w' := by
  have e1 : (x != x) = false := by simp
  have e2 : (y != y) = false := by simp
  have K1 := (has2_new w (.int .i64 x) (.int .i64 y) 23).alloc (.cells #[.int .i64 x, .int .i64 y] 23)
  have K2 := has2_new (w.alloc (.cells #[.int .i64 x, .int .i64 y] 23)) (.int .i64 x) (.int .i64 y) 23
  have B2 := hid (((Below.refl w.heap.size w).alloc (Nat.le_refl _) (.cells #[.int .i64 x, .int .i64 y] 23)).alloc (by simp) (.cells #[.int .i64 x, .int .i64 y] 23))
  simp only [World.size_alloc] at K2
  obtain ⟨k0, k1, _, _, _⟩ := K1
  obtain ⟨l0, l1, _, _, _⟩ := K2
  go_enter Tryd.func6, Tryd.ntmps6
  go_wp2
  go_ret
  exact ⟨rfl, B2.out⟩

set_option maxRecDepth 100000 in
theorem walk (a0 : ByteArray) (w0 : a0.size ≤ maxLen) (w : World) (m : Int) (ht : Pow w) (hv : Sent w) (hm : w.cell? ⟨0, 0, none⟩ = some (.int .i64 m)) :
    Calls Tryd.prog 3 #[.string a0] w fun e w' => e = .returned (.bool true) ∧ Below w.heap.size w w' := by
  have hmx : a0.size ≤ 9223372036854775807 := by unfold maxLen at w0; omega
  have HT := hid ht
  have HV := hid hv
  have hg := ParseRI.cell_lt hm
  have HM := hid hm
  clear ht hv hm
  by_cases hbig : 1048576 < a0.size
  · clear hg
    go_enter Tryd.func3, Tryd.ntmps3
    go_wp2
    go_ret
    exact ⟨rfl, Below.refl _ _⟩
  · have hs : a0.size ≤ 1048576 := by omega
    have HG := hid hg
    clear hg
    obtain ⟨x, y, b, he⟩ := ends (good a0.data.toList)
    have HO := hid he
    clear he
    have e1 : (x != x) = false := by simp
    have e2 : (y != y) = false := by simp
    have e3 : (b != b) = false := by simp
    go_enter Tryd.func3, Tryd.ntmps3
    go_wp2_with fail
    refine (ParseRS.spec_parse a0 _ hs).mono ?_
    rintro e w1 ⟨rfl, hb1⟩
    rw [HO.out]
    have B1 := hid (hb1.alloc hb1.size (.cells #[.int .i64 x, .int .i64 y] 23))
    have K1 := hid (has2_new w1 (.int .i64 x) (.int .i64 y) 23)
    clear hb1
    go_wp2_with fail
    refine (ParseRI.impl_parse a0 m _ hs (HT.out.below B1.out) (HV.out.below B1.out) ((B1.out.cell (p := ⟨0, 0, none⟩) HG.out).trans HM.out)).mono ?_
    rintro e w2 ⟨rfl, hb2⟩
    rw [HO.out]
    have B2 := hid ((B1.out.trans (hb2.mono B1.out.size)).alloc (Nat.le_trans B1.out.size hb2.size) (.cells #[.int .i64 x, .int .i64 y] 23))
    have K1' := (K1.out.below hb2).alloc (.cells #[.int .i64 x, .int .i64 y] 23)
    have K2 := has2_new w2 (.int .i64 x) (.int .i64 y) 23
    obtain ⟨k0, k1, _, _, _⟩ := K1'
    obtain ⟨l0, l1, _, _, _⟩ := K2
    clear hb2 K1 B1
    go_wp2_with fail
    refine (eq_rat x y _).mono ?_
    rintro e w3 ⟨rfl, hb3⟩
    have B3 := hid (B2.out.trans (hb3.mono B2.out.size))
    clear hb3 B2
    go_wp2_with fail
    go_ret
    exact ⟨rfl, B3.out⟩

theorem own : ownKnob Tryd.prog.godebug = none := by kernel_rfl

theorem laid_met (os : Os) : laidMet Tryd.prog Rows.fnExactParseRationalRow.laid ((laidWorld os).forCall (fun _ _ => 0) ⟨#[], #[.string ByteArray.empty], []⟩).memory :=
  laidMet_of_run' 8 (by kernel_rfl) (by kernel_rfl)
theorem reads (os : Os) {H : Type} (enc : TypeId × Value → H) : ∃ places, DataW.whole enc Tryd.prog ((laidWorld os).forCall (fun _ _ => 0) ⟨#[], #[.string ByteArray.empty], []⟩).memory Tryd.f3.params.toList Rows.fnExactParseRationalSpec.vars false #[Value.string ByteArray.empty].toList 8 = some ([.lit (.string [])], [], places) :=
  ⟨[], by kernel_rfl⟩

theorem contract (H : Type) (enc : TypeId × Value → H) (W : World) (base : Nat) (args : Array Value) (ds gs : List (DataW H)) (before : List MemPlace)
    (hval : ∀ (j : Nat) t v, Tryd.f3.params[j]? = some t → args[j]? = some v → Value.okWide Tryd.prog W .any base t v)
    (hW : DataW.Whole enc Tryd.prog Tryd.f3.params.toList Rows.fnExactParseRationalSpec.vars false W args.toList ds gs before) (hL : laidMetH Tryd.prog Rows.fnExactParseRationalRow.laid W) (hS : W.ShapedOpen Tryd.prog) :
    Calls Tryd.prog 3 args W fun e W' => ∃ v, e = .returned v ∧ Rows.fnExactParseRationalSpec.post enc Tryd.prog Tryd.f3 false true false false W args v W' := by
  have hW' := hW
  obtain ⟨p, q, hA0, hV, rfl, hfz, hnd⟩ := hW
  have hA : DataW.TrodAll enc Tryd.prog W 0 (fun _ => true) true Tryd.f3.params.toList args.toList ds p := hA0
  rw [Tryd.params3] at hA hval
  obtain ⟨v0, vs0, d0, ds0, p0, q0, hargs, rfl, rfl, h0, r0⟩ := trodAll_cons hA
  obtain ⟨rfl, rfl, rfl⟩ := trodAll_nil r0
  obtain rfl : args = #[v0] := by cases args; simp_all
  obtain ⟨rfl, rfl⟩ := trodVars_none hV
  obtain ⟨a0, rfl, rfl, rfl, w0⟩ := open_string Tryd.underlying9 (hval 0 9 v0 rfl rfl) h0
  clear hA0
  simp only [List.append_nil] at hW'
  obtain ⟨m, hm⟩ := Tryd.laysM145.s1_3 W hS
  refine (walk a0 w0 W m (gives hL).1 (gives hL).2 hm).mono fun e W' ⟨he, bel⟩ => ?_
  subst he
  exact ⟨_, rfl, _, _, _, [], [], [], hW', trodAll_mk1 (shut_bool Tryd.underlying4 _), (trodAll_cons_mk (shut_string Tryd.underlying9 w0) trodAll_mk0), rfl, bel.frame _, fun h => by cases h⟩

set_option maxRecDepth 100000 in
theorem lifted (os : Os) (started : os.Started) (H : Type) (enc : TypeId × Value → H) (F : Stop.Interp) :
    ReturnsInHanded {} Tryd.checked os 3 .any ((OpenSpec.ofChange Rows.fnExactParseRationalSpec).preRow enc Tryd.prog Tryd.f3 Rows.fnExactParseRationalRow.domain false Rows.fnExactParseRationalRow.laid) (((OpenSpec.ofChange Rows.fnExactParseRationalSpec).at F).post enc Tryd.prog Tryd.f3 false true false false) := by
  obtain ⟨places, hx⟩ := reads os enc
  refine returnsInHanded_of_row (C := Tryd.checked) (s := OpenSpec.ofChange Rows.fnExactParseRationalSpec) own started (by kernel_rfl) Tryd.func3
    (witness_row_at (enc := enc) (C := Tryd.checked) false (laidWorld os) #[.string ByteArray.empty] rfl (by kernel_rfl) (by kernel_rfl) (by kernel_rfl)
      (OpenSpec.preRow_of_cond 8 hx (by kernel_rfl) (fun k hk => by cases hk) (by kernel_rfl) (laid_met os))) ?_
  intro W base args ds gs before hval hW _ _ _ hL hS _
  exact contract H enc W base args ds gs before hval hW hL hS

theorem said : Rows.FnExactParseRationalSaid :=
  OpenClaim.holds_of_cond 3 Tryd.f3 rfl rfl rfl rfl rfl rfl rfl ⟨rfl, rfl, rfl, rfl, rfl⟩ rfl rfl rfl rfl rfl (by kernel_rfl) Tryd.func3 (by kernel_rfl)
    (of_decide_eq_true (by kernel_rfl)) (by unfold Func.isWrapper; first | (rw [if_pos (by decide +kernel)]; kernel_rfl) | (rw [if_neg (by decide +kernel)]; exact ⟨rfl, rfl⟩))
    (fun os started H enc _ F => by rw [OpenClaim.pre_eq_preRow]; exact lifted os started H enc F)

theorem plain (f : FuncId) (fn : Func) (hf : Tryd.pinned.checked.prog.funcNamed "loop.example/g01917/laws.FnExactParseRational" = some f) (hfn : Tryd.pinned.checked.prog.funcs[f]? = some fn) :
    true = Tryd.pinned.checked.prog.looks [] ∧ ∀ (j : Nat) t, fn.params[j]? = some t → Tryd.pinned.checked.prog.wantsStandIn t = false := by
  obtain rfl : f = 3 := Option.some.inj ((show Tryd.prog.funcNamed "loop.example/g01917/laws.FnExactParseRational" = some 3 by kernel_rfl).symm.trans hf) |>.symm
  obtain rfl : fn = Tryd.f3 := (Option.some.inj (Tryd.func3.symm.trans hfn)).symm
  refine ⟨by kernel_rfl, fun j t ht => ?_⟩
  rw [Tryd.params3] at ht
  obtain rfl : t = 9 := by simpa using Array.mem_of_getElem? ht
  exact (show Tryd.prog.wantsStandIn 9 = false by kernel_rfl)

theorem card : Rows.FnExactParseRationalCardSaid :=
  Claim7.holds_tied_plain_at .later [] _ _ _ _ said (fun _ h => by cases h) (by kernel_rfl) (fun _ h => by cases h) fnExactParseRational_row_tie rfl ⟨rfl, rfl⟩ (by kernel_rfl) rfl plain (by kernel_rfl)
#print axioms card
end Go.Proofs.YtanfakpeongfjaaDoor.ParseRational

