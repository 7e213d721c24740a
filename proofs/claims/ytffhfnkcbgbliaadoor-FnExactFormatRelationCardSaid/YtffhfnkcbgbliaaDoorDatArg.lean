/- Arguments of the laws' own struct types, opened. -/
import Derived.Test.YtffhfnkcbgbliaaDoorRows
import Derived.Test.YtffhfnkcbgbliaaDoorDat
namespace Go.Proofs.YtffhfnkcbgbliaaDoor.DatArg
open Go.RowKit
open Go.Proofs.YtffhfnkcbgbliaaDoor.Rdr Go.Proofs.YtffhfnkcbgbliaaDoor.Dat
theorem opn_row : Opn Tryd.prog 22 rRow := opn_slice Tryd.underlying22 (by kernel_rfl) (by decide) (opn_int Tryd.underlying3)
theorem opn_grid : Opn Tryd.prog 23 rGrid := opn_slice Tryd.underlying23 (by kernel_rfl) (by decide) (opn_slice Tryd.underlying22 (by kernel_rfl) (by decide) (opn_int Tryd.underlying3))
theorem opn_rel : Opn Tryd.prog 25 rRel := opn_struct2 Tryd.underlying25 rfl (by kernel_rfl) (by kernel_rfl) (opn_int Tryd.underlying3) opn_grid
theorem opn_atom : Opn Tryd.prog 95 rAtom := opn_struct2 Tryd.underlying95 rfl (by kernel_rfl) (by kernel_rfl) (opn_str Tryd.underlying9) opn_row
theorem opn_query : Opn Tryd.prog 43 rQuery := opn_struct3 Tryd.underlying43 rfl (by kernel_rfl) (by kernel_rfl) (by kernel_rfl) (opn_int Tryd.underlying3) (opn_slice Tryd.underlying41 (by kernel_rfl) (by decide) opn_atom) opn_row
end Go.Proofs.YtffhfnkcbgbliaaDoor.DatArg
