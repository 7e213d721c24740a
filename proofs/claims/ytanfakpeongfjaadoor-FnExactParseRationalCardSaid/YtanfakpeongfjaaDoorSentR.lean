/- The five listed variables of strconv and math/bits: what a row's list gives of them; a world that holds them. -/
import Derived.Test.YtanfakpeongfjaaDoorLaidI
import Derived.WalkKit
import Derived.ProofKit
import Derived.OpenShut
import Derived.Deep.DeepHandedRow
import Derived.Lib.LaidTab
import Derived.LaidLaws
namespace Go.Proofs.YtanfakpeongfjaaDoor.SentR
open Go.ChangeShapes Go.WideShapes Go.ChangeAt Go.RowKit
open Go.Proofs.YtanfakpeongfjaaDoor.Num Go.Proofs.YtanfakpeongfjaaDoor.Row Go.Proofs.YtanfakpeongfjaaDoor.LaidI
set_option linter.unusedVariables false

/-- The two errors of strconv lie in their variables. -/
def Sent (w : World) : Prop := (∃ tp p, w.var? Tryd.prog "strconv.ErrSyntax" = some #[.iface tp p]) ∧ (∃ tp p, w.var? Tryd.prog "strconv.ErrRange" = some #[.iface tp p])
theorem gSyn : Tryd.prog.globalNamed "strconv.ErrSyntax" = some 1 := by kernel_rfl
theorem gRan : Tryd.prog.globalNamed "strconv.ErrRange" = some 2 := by kernel_rfl
theorem Sent.below {w w' : World} (h : Sent w) (hb : Below w.heap.size w w') : Sent w' := by
  obtain ⟨⟨tp, p, h1⟩, ⟨tq, q, h2⟩⟩ := h
  exact ⟨⟨tp, p, var?_below hb gSyn (var_lt gSyn h1) h1⟩, ⟨tq, q, var?_below hb gRan (var_lt gRan h2) h2⟩⟩

theorem gPowType : (Tryd.prog.globals[3]?).map (·.type) = some 74 := by kernel_rfl
theorem cellsArr : Tryd.prog.cellsOf 74 = 20 := by kernel_rfl
theorem cellsOne : Tryd.prog.cellsOf 52 = 1 := by kernel_rfl
theorem gSynType : (Tryd.prog.globals[1]?).map (·.type) = some 33 := by kernel_rfl
theorem gRanType : (Tryd.prog.globals[2]?).map (·.type) = some 33 := by kernel_rfl
theorem cellsErr : Tryd.prog.cellsOf 66 = 1 := by kernel_rfl
theorem cellsStr : Tryd.prog.cellsOf 9 = 1 := by kernel_rfl

/-- The list of the five variables, in the rows' order. -/
def five : List (String × DataW Unit) := Rows.fnExactParseRationalRow.laid

theorem ptrName (u : TypeId) (h : Tryd.prog.typeName? 3 u = some "*errors.errorString") : u = 64 :=
  typeName_ptr_named (nm := "errors.errorString") (by kernel_rfl) (by kernel_rfl) (by decide) u h

theorem gives {W : World} (h : laidMetH Tryd.prog five W) : Pow W ∧ Sent W := by
  have h1 : laidMet Tryd.prog five W := h
  refine ⟨?_, ?_, ?_⟩
  · exact Lib.tabIs_of_head gPow gPowType Tryd.underlying74 Tryd.underlying52 cellsOne cellsArr h1.tail.tail
  · obtain ⟨a, s, hv, -, -, -⟩ := laid_sentinel h1.tail.tail.tail.tail gSyn gSynType Tryd.underlying33 ptrName Tryd.underlying64 Tryd.underlying66 rfl rfl Tryd.underlying9 cellsErr cellsStr
    exact ⟨_, _, hv⟩
  · obtain ⟨a, s, hv, -, -, -⟩ := laid_sentinel h1.tail.tail.tail gRan gRanType Tryd.underlying33 ptrName Tryd.underlying64 Tryd.underlying66 rfl rfl Tryd.underlying9 cellsErr cellsStr
    exact ⟨_, _, hv⟩

/-- The numbers of a laid table as values. -/
noncomputable def numOf : DataW Unit → Value
  | .lit (.int k n) => .int k n
  | _ => undef
noncomputable def cellsOf' : DataW Unit → Array Value
  | .agg parts => (parts.map numOf).toArray
  | _ => #[]
/-- Block g of the heap holds other cells. -/
noncomputable def put (g : Nat) (cs : Array Value) (h : Array Obj) : Array Obj := h.modify g fun
  | .cells _ t frozen => .cells cs t frozen
  | o => o
/-- The texts of the two errors. -/
def textOf : DataW Unit → ByteArray
  | .iface _ (.ptr (.agg [.lit (.string l)])) => ⟨l.toArray⟩
  | _ => ⟨#[]⟩
noncomputable def low : Nat := (World.holding Tryd.prog default ⟨#[], #[], []⟩).heap.size
noncomputable def w0 (os : Os) : World := World.holding Tryd.prog os ⟨#[.cells #[.string (textOf Rows.laid_strconv_ErrSyntax)] 66, .cells #[.string (textOf Rows.laid_strconv_ErrRange)] 66], #[], []⟩
noncomputable def laidWorld (os : Os) : World :=
  { w0 os with heap := put 4 (cellsOf' Rows.laid_math_bits_deBruijn32tab) (put 5 (cellsOf' Rows.laid_math_bits_deBruijn64tab) (put 3 (cellsOf' Rows.laid_internal_strconv_uint64pow10)
      (put 1 #[.iface 64 (.pointer (some ⟨low, 0, none⟩))] (put 2 #[.iface 64 (.pointer (some ⟨low + 1, 0, none⟩))] (w0 os).heap)))) }

end Go.Proofs.YtanfakpeongfjaaDoor.SentR
