/- Arguments of the laws' own struct types, opened. -/
import Derived.Test.YtdpecjfamcefbaaRows
import Derived.Test.YtdpecjfamcefbaaDat
namespace Go.Proofs.Ytdpecjfamcefbaa.DatArg
open Go.RowKit
open Go.Proofs.Ytdpecjfamcefbaa.Rdr Go.Proofs.Ytdpecjfamcefbaa.Dat
theorem opn_row : Opn Try.prog 50 rRow := opn_slice Try.underlying50 (by kernel_rfl) (by decide) (opn_int Try.underlying3)
theorem opn_grid : Opn Try.prog 33 rGrid := opn_slice Try.underlying33 (by kernel_rfl) (by decide) (opn_slice Try.underlying50 (by kernel_rfl) (by decide) (opn_int Try.underlying3))
theorem opn_rel : Opn Try.prog 42 rRel := opn_struct2 Try.underlying42 rfl (by kernel_rfl) (by kernel_rfl) (opn_int Try.underlying3) opn_grid
theorem opn_table : Opn Try.prog 111 rTable := opn_struct2 Try.underlying111 rfl (by kernel_rfl) (by kernel_rfl) (opn_str Try.underlying9) opn_rel
theorem opn_db : Opn Try.prog 24 rDb := opn_struct1 Try.underlying24 rfl (by kernel_rfl) (opn_slice Try.underlying22 (by kernel_rfl) (by decide) opn_table)
theorem opn_atom : Opn Try.prog 68 rAtom := opn_struct2 Try.underlying68 rfl (by kernel_rfl) (by kernel_rfl) (opn_str Try.underlying9) opn_row
theorem opn_query : Opn Try.prog 52 rQuery := opn_struct3 Try.underlying52 rfl (by kernel_rfl) (by kernel_rfl) (by kernel_rfl) (opn_int Try.underlying3) (opn_slice Try.underlying49 (by kernel_rfl) (by decide) opn_atom) opn_row
end Go.Proofs.Ytdpecjfamcefbaa.DatArg
