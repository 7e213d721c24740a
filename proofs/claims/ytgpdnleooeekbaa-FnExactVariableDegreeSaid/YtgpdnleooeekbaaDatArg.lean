/- Arguments of the laws' own struct types, opened. -/
import Derived.Test.YtgpdnleooeekbaaRows
import Derived.Test.YtgpdnleooeekbaaDat
namespace Go.Proofs.Ytgpdnleooeekbaa.DatArg
open Go.RowKit
open Go.Proofs.Ytgpdnleooeekbaa.Rdr Go.Proofs.Ytgpdnleooeekbaa.Dat
theorem opn_row : Opn Try.prog 26 rRow := opn_slice Try.underlying26 (by kernel_rfl) (by decide) (opn_int Try.underlying3)
theorem opn_atom : Opn Try.prog 83 rAtom := opn_struct2 Try.underlying83 rfl (by kernel_rfl) (by kernel_rfl) (opn_str Try.underlying9) opn_row
theorem opn_query : Opn Try.prog 37 rQuery := opn_struct3 Try.underlying37 rfl (by kernel_rfl) (by kernel_rfl) (by kernel_rfl) (opn_int Try.underlying3) (opn_slice Try.underlying35 (by kernel_rfl) (by decide) opn_atom) opn_row
end Go.Proofs.Ytgpdnleooeekbaa.DatArg
