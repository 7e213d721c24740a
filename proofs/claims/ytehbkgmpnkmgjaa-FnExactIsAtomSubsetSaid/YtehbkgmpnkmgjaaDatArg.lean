/- Arguments of the laws' own struct types, opened. -/
import Derived.Test.YtehbkgmpnkmgjaaRows
import Derived.Test.YtehbkgmpnkmgjaaDat
namespace Go.Proofs.Ytehbkgmpnkmgjaa.DatArg
open Go.RowKit
open Go.Proofs.Ytehbkgmpnkmgjaa.Rdr Go.Proofs.Ytehbkgmpnkmgjaa.Dat
theorem opn_row : Opn Try.prog 23 rRow := opn_slice Try.underlying23 (by kernel_rfl) (by decide) (opn_int Try.underlying3)
theorem opn_grid : Opn Try.prog 41 rGrid := opn_slice Try.underlying41 (by kernel_rfl) (by decide) (opn_slice Try.underlying23 (by kernel_rfl) (by decide) (opn_int Try.underlying3))
theorem opn_rel : Opn Try.prog 43 rRel := opn_struct2 Try.underlying43 rfl (by kernel_rfl) (by kernel_rfl) (opn_int Try.underlying3) opn_grid
theorem opn_table : Opn Try.prog 107 rTable := opn_struct2 Try.underlying107 rfl (by kernel_rfl) (by kernel_rfl) (opn_str Try.underlying9) opn_rel
theorem opn_db : Opn Try.prog 54 rDb := opn_struct1 Try.underlying54 rfl (by kernel_rfl) (opn_slice Try.underlying52 (by kernel_rfl) (by decide) opn_table)
theorem opn_atom : Opn Try.prog 35 rAtom := opn_struct2 Try.underlying35 rfl (by kernel_rfl) (by kernel_rfl) (opn_str Try.underlying9) opn_row
theorem opn_query : Opn Try.prog 25 rQuery := opn_struct3 Try.underlying25 rfl (by kernel_rfl) (by kernel_rfl) (by kernel_rfl) (opn_int Try.underlying3) (opn_slice Try.underlying22 (by kernel_rfl) (by decide) opn_atom) opn_row
end Go.Proofs.Ytehbkgmpnkmgjaa.DatArg
