/- Arguments of the laws' own struct types, opened. -/
import Derived.Test.YtffhfnkcbgbliaaRows
import Derived.Test.YtffhfnkcbgbliaaDat
namespace Go.Proofs.Ytffhfnkcbgbliaa.DatArg
open Go.RowKit
open Go.Proofs.Ytffhfnkcbgbliaa.Rdr Go.Proofs.Ytffhfnkcbgbliaa.Dat
theorem opn_row : Opn Try.prog 22 rRow := opn_slice Try.underlying22 (by kernel_rfl) (by decide) (opn_int Try.underlying3)
theorem opn_grid : Opn Try.prog 23 rGrid := opn_slice Try.underlying23 (by kernel_rfl) (by decide) (opn_slice Try.underlying22 (by kernel_rfl) (by decide) (opn_int Try.underlying3))
theorem opn_rel : Opn Try.prog 25 rRel := opn_struct2 Try.underlying25 rfl (by kernel_rfl) (by kernel_rfl) (opn_int Try.underlying3) opn_grid
theorem opn_table : Opn Try.prog 84 rTable := opn_struct2 Try.underlying84 rfl (by kernel_rfl) (by kernel_rfl) (opn_str Try.underlying9) opn_rel
theorem opn_db : Opn Try.prog 44 rDb := opn_struct1 Try.underlying44 rfl (by kernel_rfl) (opn_slice Try.underlying42 (by kernel_rfl) (by decide) opn_table)
end Go.Proofs.Ytffhfnkcbgbliaa.DatArg
