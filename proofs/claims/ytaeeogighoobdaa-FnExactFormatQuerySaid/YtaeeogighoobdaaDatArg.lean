/- Arguments of the laws' own struct types, opened. -/
import Derived.Test.YtaeeogighoobdaaRows
import Derived.Test.YtaeeogighoobdaaDat
namespace Go.Proofs.Ytaeeogighoobdaa.DatArg
open Go.RowKit
open Go.Proofs.Ytaeeogighoobdaa.Rdr Go.Proofs.Ytaeeogighoobdaa.Dat
theorem opn_row : Opn Try.prog 23 rRow := opn_slice Try.underlying23 (by kernel_rfl) (by decide) (opn_int Try.underlying3)
theorem opn_atom : Opn Try.prog 75 rAtom := opn_struct2 Try.underlying75 rfl (by kernel_rfl) (by kernel_rfl) (opn_str Try.underlying9) opn_row
theorem opn_query : Opn Try.prog 25 rQuery := opn_struct3 Try.underlying25 rfl (by kernel_rfl) (by kernel_rfl) (by kernel_rfl) (opn_int Try.underlying3) (opn_slice Try.underlying22 (by kernel_rfl) (by decide) opn_atom) opn_row
end Go.Proofs.Ytaeeogighoobdaa.DatArg
