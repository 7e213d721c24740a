/- Arguments of the laws' own struct types, opened. -/
import Derived.Test.YtbafhahmpflnjaaRows
import Derived.Test.YtbafhahmpflnjaaDat
namespace Go.Proofs.Ytbafhahmpflnjaa.DatArg
open Go.RowKit
open Go.Proofs.Ytbafhahmpflnjaa.Rdr Go.Proofs.Ytbafhahmpflnjaa.Dat
theorem opn_row : Opn Try.prog 26 rRow := opn_slice Try.underlying26 (by kernel_rfl) (by decide) (opn_int Try.underlying3)
theorem opn_grid : Opn Try.prog 54 rGrid := opn_slice Try.underlying54 (by kernel_rfl) (by decide) (opn_slice Try.underlying26 (by kernel_rfl) (by decide) (opn_int Try.underlying3))
theorem opn_rel : Opn Try.prog 56 rRel := opn_struct2 Try.underlying56 rfl (by kernel_rfl) (by kernel_rfl) (opn_int Try.underlying3) opn_grid
theorem opn_table : Opn Try.prog 120 rTable := opn_struct2 Try.underlying120 rfl (by kernel_rfl) (by kernel_rfl) (opn_str Try.underlying9) opn_rel
theorem opn_db : Opn Try.prog 24 rDb := opn_struct1 Try.underlying24 rfl (by kernel_rfl) (opn_slice Try.underlying22 (by kernel_rfl) (by decide) opn_table)
theorem opn_atom : Opn Try.prog 44 rAtom := opn_struct2 Try.underlying44 rfl (by kernel_rfl) (by kernel_rfl) (opn_str Try.underlying9) opn_row
theorem opn_query : Opn Try.prog 28 rQuery := opn_struct3 Try.underlying28 rfl (by kernel_rfl) (by kernel_rfl) (by kernel_rfl) (opn_int Try.underlying3) (opn_slice Try.underlying25 (by kernel_rfl) (by decide) opn_atom) opn_row
end Go.Proofs.Ytbafhahmpflnjaa.DatArg
