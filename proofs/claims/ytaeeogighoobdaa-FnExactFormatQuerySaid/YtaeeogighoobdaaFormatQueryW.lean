/- The walk of law FnExactFormatQuery, at every query. -/
import Derived.Test.YtaeeogighoobdaaFormatQueryC
import Derived.Test.YtaeeogighoobdaaFmtR
namespace Go.Proofs.Ytaeeogighoobdaa.FormatQueryW
open Go.RowKit
open Go.Proofs.Ytaeeogighoobdaa.Num Go.Proofs.Ytaeeogighoobdaa.IntRow Go.Proofs.Ytaeeogighoobdaa.Rdr Go.Proofs.Ytaeeogighoobdaa.Dat Go.Proofs.Ytaeeogighoobdaa.FmtP Go.Proofs.Ytaeeogighoobdaa.FmtR
set_option linter.unusedVariables false

theorem walk (cs0 : List Value) (x0 : QueryD) (w : World) (r0 : rQuery w 0 w.heap.size cs0 x0) :
    Calls Try.prog 9 #[.agg cs0.toArray] w fun e w' => e = .returned (.bool true) ∧ Below w.heap.size w w' :=
  FormatQueryC.walk cs0 x0 w r0 (fun hs => ⟨fq x0,
    fun W d0 h0 => spec_fq d0 x0 0 W.heap.size W hs h0 (Nat.le_refl _),
    fun W d0 h0 => impl_fq d0 x0 0 W.heap.size W hs h0 (Nat.le_refl _)⟩)
end Go.Proofs.Ytaeeogighoobdaa.FormatQueryW
