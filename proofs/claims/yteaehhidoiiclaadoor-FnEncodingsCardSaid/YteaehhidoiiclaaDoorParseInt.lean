/-
  ParseInt answers as its model at every string: law FnExactParseInt is true; the tied card.
  Condition: the listed variables of strconv and math/bits hold what the program's text lays (tied by the card).
-/
import Derived.Test.YteaehhidoiiclaaDoorCards
import Derived.Test.YteaehhidoiiclaaDoorTie
import Derived.Test.YteaehhidoiiclaaDoorSent
import Derived.Test.YteaehhidoiiclaaDoorParseSpec
import Derived.WalkKit
import Derived.ProofKit
import Derived.OpenShut
import Derived.Deep.DeepHandedRow
import Derived.Lib.LaidTab
import Derived.Lib.SmallJoins
namespace Go.Proofs.YteaehhidoiiclaaDoor.ParseInt
open Go.ChangeShapes Go.WideShapes Go.ChangeAt Go.RowKit
open Go.ChangeMaps (open_string shut_string)
open Go.Proofs.YteaehhidoiiclaaDoor.Num Go.Proofs.YteaehhidoiiclaaDoor.Row Go.Proofs.YteaehhidoiiclaaDoor.Laid Go.Proofs.YteaehhidoiiclaaDoor.Parse Go.Proofs.YteaehhidoiiclaaDoor.Sent
set_option linter.unusedVariables false

def ires (s : ByteArray) : Option Int := implRes s.data.toList
theorem ires_ok {s : ByteArray} {v : Int} (h : Lib.atoiAll s.data.toList = .ok v) (h0 : -999999999 ≤ v) (h1 : v ≤ 999999999) (he : Lib.itoa v = s.data.toList) : ires s = some v := by
  unfold ires implRes
  rw [h]
  simp only []
  rw [if_pos ⟨h0, h1, he⟩]
theorem ires_not {s : ByteArray} {v : Int} (h : Lib.atoiAll s.data.toList = .ok v) (hn : v < -999999999 ∨ 999999999 < v ∨ ¬ Lib.itoa v = s.data.toList) : ires s = none := by
  unfold ires implRes
  rw [h]
  simp only []
  rw [if_neg]
  intro hh
  rcases hn with hn | hn | hn
  · omega
  · omega
  · exact hn hh.2.2
theorem ires_syntax {s : ByteArray} (h : Lib.atoiAll s.data.toList = .«syntax») : ires s = none := by
  unfold ires implRes
  rw [h]
theorem ires_range {s : ByteArray} (h : Lib.atoiAll s.data.toList = .range) : ires s = none := by
  unfold ires implRes
  rw [h]

theorem below_bytes (B : Nat) (w w' : World) (hB : B ≤ w.heap.size) (h : w' = w ∨ ∃ t, w' = Lib.bytesWorld w 5 t) : Below B w w' := by
  rcases h with rfl | ⟨t, rfl⟩
  · exact Below.refl _ _
  · exact Joins.below_bytesWorld _ _ _ _ hB

set_option maxRecDepth 100000 in
theorem impl_any (s : ByteArray) (w : World) (hs : s.size ≤ 1048576) (ht : Pow w) (hv : Sent w) :
    Calls Tryd.prog 13 #[.string s] w fun e w' => e = parseEnd (ires s) ∧ Below w.heap.size w w' := by
  have HT := hid ht
  obtain ⟨⟨tp, p, h1⟩, ⟨tq, q, h2⟩⟩ := hv
  have HS := hid h1
  have HR := hid h2
  clear ht h1 h2
  cases h : Lib.atoiAll s.data.toList with
  | ok v =>
    obtain ⟨hb0, hb1⟩ := Lib.atoiAll_bounds h
    by_cases hr : v < -999999999 ∨ 999999999 < v
    · have hi := hid (ires_not h (by omega))
      have HA := hid h
      clear h
      rcases hr with hr | hr
      · go_enter Tryd.func13, Tryd.ntmps13
        go_wp2_with fail
        refine (Tryd.strconv_Atoi_ok s (by omega) v HA.out _).mono ?_
        rintro e w1 ⟨rfl, hw⟩
        have hb := below_bytes w.heap.size w w1 (Nat.le_refl _) hw
        clear hw
        go_wp2_with fail
        go_ret2
        exact ⟨by rw [hi.out]; rfl, hb⟩
      · go_enter Tryd.func13, Tryd.ntmps13
        go_wp2_with fail
        refine (Tryd.strconv_Atoi_ok s (by omega) v HA.out _).mono ?_
        rintro e w1 ⟨rfl, hw⟩
        have hb := below_bytes w.heap.size w w1 (Nat.le_refl _) hw
        clear hw
        go_wp2_with fail
        go_ret2
        exact ⟨by rw [hi.out]; rfl, hb⟩
    · have hr0 : -999999999 ≤ v := by omega
      have hr1 : v ≤ 999999999 := by omega
      by_cases he : Lib.itoa v = s.data.toList
      · have hi := hid (ires_ok h hr0 hr1 he)
        have hst := str_true he
        have HA := hid h
        clear h he hr
        go_enter Tryd.func13, Tryd.ntmps13
        go_wp2_with fail
        refine (Tryd.strconv_Atoi_ok s (by omega) v HA.out _).mono ?_
        rintro e w1 ⟨rfl, hw⟩
        have hb := below_bytes w.heap.size w w1 (Nat.le_refl _) hw
        clear hw
        go_wp2_with fail
        refine (impl_format v _ (by omega) (by omega) (HT.out.below hb)).mono ?_
        rintro e w2 ⟨rfl, hb2⟩
        go_wp2_with fail
        go_ret2
        exact ⟨by rw [hi.out]; rfl, hb.trans (hb2.mono hb.size)⟩
      · have hi := hid (ires_not h (Or.inr (Or.inr he)))
        have hst := str_false he
        have HA := hid h
        clear h he hr
        go_enter Tryd.func13, Tryd.ntmps13
        go_wp2_with fail
        refine (Tryd.strconv_Atoi_ok s (by omega) v HA.out _).mono ?_
        rintro e w1 ⟨rfl, hw⟩
        have hb := below_bytes w.heap.size w w1 (Nat.le_refl _) hw
        clear hw
        go_wp2_with fail
        refine (impl_format v _ (by omega) (by omega) (HT.out.below hb)).mono ?_
        rintro e w2 ⟨rfl, hb2⟩
        go_wp2_with fail
        go_ret2
        exact ⟨by rw [hi.out]; rfl, hb.trans (hb2.mono hb.size)⟩
  | «syntax» =>
    have hi := hid (ires_syntax h)
    have HA := hid h
    clear h
    go_enter Tryd.func13, Tryd.ntmps13
    go_wp2_with fail
    refine (Tryd.strconv_Atoi_syntax_var s (by omega) HA.out tp p _ HS.out).mono ?_
    rintro e w1 ⟨N, rfl, _, _, hb⟩
    go_wp2_with fail
    go_ret2
    exact ⟨by rw [hi.out]; rfl, hb⟩
  | range =>
    have hi := hid (ires_range h)
    have HA := hid h
    clear h
    go_enter Tryd.func13, Tryd.ntmps13
    go_wp2_with fail
    refine (Tryd.strconv_Atoi_range_var s (by omega) HA.out tq q _ HR.out).mono ?_
    rintro e w1 ⟨N, rfl, _, _, hb⟩
    go_wp2_with fail
    go_ret2
    exact ⟨by rw [hi.out]; rfl, hb⟩

theorem walk (a0 : ByteArray) (w0 : a0.size ≤ maxLen) (w : World) (ht : Pow w) (hv : Sent w) :
    Calls Tryd.prog 5 #[.string a0] w fun e w' => e = .returned (.bool true) ∧ Below w.heap.size w w' := by
  have hm : a0.size ≤ 9223372036854775807 := by unfold maxLen at w0; omega
  have HT := hid ht
  have HV := hid hv
  clear ht hv
  by_cases hbig : 1048576 < a0.size
  · go_enter Tryd.func5, Tryd.ntmps5
    go_wp2
    go_ret
    exact ⟨rfl, Below.refl _ _⟩
  · have hs : a0.size ≤ 1048576 := by omega
    have hsame := hid (show sres a0 = ires a0 from same _)
    generalize ho : ires a0 = o
    have HO := hid ho
    clear ho
    cases o
    all_goals
      go_enter Tryd.func5, Tryd.ntmps5
      go_wp2_with fail
      refine (ParseSpec.spec_any a0 _ hs).mono ?_
      rintro e w1 ⟨rfl, hb1⟩
      rw [hsame.out, HO.out]
      unfold parseEnd
      go_wp2_with fail
      refine (impl_any a0 _ hs (HT.out.below hb1) (HV.out.below hb1)).mono ?_
      rintro e w2 ⟨rfl, hb2⟩
      rw [HO.out]
      unfold parseEnd
      go_wp2_with fail
      go_ret
      exact ⟨rfl, hb1.trans (hb2.mono hb1.size)⟩

theorem own : ownKnob Tryd.prog.godebug = none := by kernel_rfl

theorem laid_met (os : Os) : laidMet Tryd.prog Rows.fnExactParseIntRow.laid ((laidWorld os).forCall (fun _ _ => 0) ⟨#[], #[.string ByteArray.empty], []⟩).memory :=
  laidMet_of_run' 8 (by kernel_rfl) (by kernel_rfl)
theorem reads (os : Os) {H : Type} (enc : TypeId × Value → H) : ∃ places, DataW.whole enc Tryd.prog ((laidWorld os).forCall (fun _ _ => 0) ⟨#[], #[.string ByteArray.empty], []⟩).memory Tryd.f5.params.toList Rows.fnExactParseIntSpec.vars false #[Value.string ByteArray.empty].toList 8 = some ([.lit (.string [])], [], places) :=
  ⟨[], by kernel_rfl⟩

theorem contract (H : Type) (enc : TypeId × Value → H) (W : World) (base : Nat) (args : Array Value) (ds gs : List (DataW H)) (before : List MemPlace)
    (hval : ∀ (j : Nat) t v, Tryd.f5.params[j]? = some t → args[j]? = some v → Value.okWide Tryd.prog W .any base t v)
    (hW : DataW.Whole enc Tryd.prog Tryd.f5.params.toList Rows.fnExactParseIntSpec.vars false W args.toList ds gs before) (hL : laidMetH Tryd.prog Rows.fnExactParseIntRow.laid W) :
    Calls Tryd.prog 5 args W fun e W' => ∃ v, e = .returned v ∧ Rows.fnExactParseIntSpec.post enc Tryd.prog Tryd.f5 false true false false W args v W' := by
  have hW' := hW
  obtain ⟨p, q, hA0, hV, rfl, hfz, hnd⟩ := hW
  have hA : DataW.TrodAll enc Tryd.prog W 0 (fun _ => true) true Tryd.f5.params.toList args.toList ds p := hA0
  rw [Tryd.params5] at hA hval
  obtain ⟨v0, vs0, d0, ds0, p0, q0, hargs, rfl, rfl, h0, r0⟩ := trodAll_cons hA
  obtain ⟨rfl, rfl, rfl⟩ := trodAll_nil r0
  obtain rfl : args = #[v0] := by cases args; simp_all
  obtain ⟨rfl, rfl⟩ := trodVars_none hV
  obtain ⟨a0, rfl, rfl, rfl, w0⟩ := open_string Tryd.underlying9 (hval 0 9 v0 rfl rfl) h0
  clear hA0
  simp only [List.append_nil] at hW'
  refine (walk a0 w0 W (gives hL).1 (gives hL).2).mono fun e W' ⟨he, bel⟩ => ?_
  subst he
  exact ⟨_, rfl, _, _, _, [], [], [], hW', trodAll_mk1 (shut_bool Tryd.underlying4 _), (trodAll_cons_mk (shut_string Tryd.underlying9 w0) trodAll_mk0), rfl, bel.frame _, fun h => by cases h⟩

set_option maxRecDepth 100000 in
theorem lifted (os : Os) (started : os.Started) (H : Type) (enc : TypeId × Value → H) (F : Stop.Interp) :
    ReturnsInHanded {} Tryd.checked os 5 .any ((OpenSpec.ofChange Rows.fnExactParseIntSpec).preRow enc Tryd.prog Tryd.f5 Rows.fnExactParseIntRow.domain false Rows.fnExactParseIntRow.laid) (((OpenSpec.ofChange Rows.fnExactParseIntSpec).at F).post enc Tryd.prog Tryd.f5 false true false false) := by
  obtain ⟨places, hx⟩ := reads os enc
  refine returnsInHanded_of_row (C := Tryd.checked) (s := OpenSpec.ofChange Rows.fnExactParseIntSpec) own started (by kernel_rfl) Tryd.func5
    (witness_row_at (enc := enc) (C := Tryd.checked) false (laidWorld os) #[.string ByteArray.empty] rfl (by kernel_rfl) (by kernel_rfl) (by kernel_rfl)
      (OpenSpec.preRow_of_cond 8 hx (by kernel_rfl) (fun k hk => by cases hk) (by kernel_rfl) (laid_met os))) ?_
  intro W base args ds gs before hval hW _ _ _ hL _ _
  exact contract H enc W base args ds gs before hval hW hL

theorem said : Rows.FnExactParseIntSaid :=
  OpenClaim.holds_of_cond 5 Tryd.f5 rfl rfl rfl rfl rfl rfl rfl ⟨rfl, rfl, rfl, rfl, rfl⟩ rfl rfl rfl rfl rfl (by kernel_rfl) Tryd.func5 (by kernel_rfl)
    (of_decide_eq_true (by kernel_rfl)) (by unfold Func.isWrapper; first | (rw [if_pos (by decide +kernel)]; kernel_rfl) | (rw [if_neg (by decide +kernel)]; exact ⟨rfl, rfl⟩))
    (fun os started H enc _ F => by rw [OpenClaim.pre_eq_preRow]; exact lifted os started H enc F)

theorem plain (f : FuncId) (fn : Func) (hf : Tryd.pinned.checked.prog.funcNamed "loop.example/g01917/laws.FnExactParseInt" = some f) (hfn : Tryd.pinned.checked.prog.funcs[f]? = some fn) :
    true = Tryd.pinned.checked.prog.looks [] ∧ ∀ (j : Nat) t, fn.params[j]? = some t → Tryd.pinned.checked.prog.wantsStandIn t = false := by
  obtain rfl : f = 5 := Option.some.inj ((show Tryd.prog.funcNamed "loop.example/g01917/laws.FnExactParseInt" = some 5 by kernel_rfl).symm.trans hf) |>.symm
  obtain rfl : fn = Tryd.f5 := (Option.some.inj (Tryd.func5.symm.trans hfn)).symm
  refine ⟨by kernel_rfl, fun j t ht => ?_⟩
  rw [Tryd.params5] at ht
  obtain rfl : t = 9 := by simpa using Array.mem_of_getElem? ht
  exact (show Tryd.prog.wantsStandIn 9 = false by kernel_rfl)

theorem card : Rows.FnExactParseIntCardSaid :=
  Claim7.holds_tied_plain_at .later [] _ _ _ _ said (fun _ h => by cases h) (by kernel_rfl) (fun _ h => by cases h) fnExactParseInt_row_tie rfl ⟨rfl, rfl⟩ (by kernel_rfl) rfl plain (by kernel_rfl)
#print axioms card
end Go.Proofs.YteaehhidoiiclaaDoor.ParseInt
