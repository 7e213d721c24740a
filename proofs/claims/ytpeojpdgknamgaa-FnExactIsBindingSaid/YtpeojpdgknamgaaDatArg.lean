/- Arguments of the laws' own struct types, opened. -/
import Derived.Test.YtpeojpdgknamgaaRows
import Derived.Test.YtpeojpdgknamgaaDat
namespace Go.Proofs.Ytpeojpdgknamgaa.DatArg
open Go.RowKit
open Go.Proofs.Ytpeojpdgknamgaa.Rdr Go.Proofs.Ytpeojpdgknamgaa.Dat
theorem opn_row : Opn Try.prog 25 rRow := opn_slice Try.underlying25 (by kernel_rfl) (by decide) (opn_int Try.underlying3)
theorem opn_grid : Opn Try.prog 22 rGrid := opn_slice Try.underlying22 (by kernel_rfl) (by decide) (opn_slice Try.underlying25 (by kernel_rfl) (by decide) (opn_int Try.underlying3))
theorem opn_rel : Opn Try.prog 24 rRel := opn_struct2 Try.underlying24 rfl (by kernel_rfl) (by kernel_rfl) (opn_int Try.underlying3) opn_grid
theorem opn_table : Opn Try.prog 95 rTable := opn_struct2 Try.underlying95 rfl (by kernel_rfl) (by kernel_rfl) (opn_str Try.underlying9) opn_rel
theorem opn_db : Opn Try.prog 39 rDb := opn_struct1 Try.underlying39 rfl (by kernel_rfl) (opn_slice Try.underlying37 (by kernel_rfl) (by decide) opn_table)
theorem opn_atom : Opn Try.prog 104 rAtom := opn_struct2 Try.underlying104 rfl (by kernel_rfl) (by kernel_rfl) (opn_str Try.underlying9) opn_row
theorem opn_query : Opn Try.prog 51 rQuery := opn_struct3 Try.underlying51 rfl (by kernel_rfl) (by kernel_rfl) (by kernel_rfl) (opn_int Try.underlying3) (opn_slice Try.underlying49 (by kernel_rfl) (by decide) opn_atom) opn_row
end Go.Proofs.Ytpeojpdgknamgaa.DatArg
