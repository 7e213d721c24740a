/- Arguments of the laws' own struct types, opened. -/
import Derived.Test.YthghggnlfnbbgabDoorRows
import Derived.Test.YthghggnlfnbbgabDoorDat
namespace Go.Proofs.YthghggnlfnbbgabDoor.DatArg
open Go.RowKit
open Go.Proofs.YthghggnlfnbbgabDoor.Rdr Go.Proofs.YthghggnlfnbbgabDoor.Dat
theorem opn_row : Opn Tryd.prog 23 rRow := opn_slice Tryd.underlying23 (by kernel_rfl) (by decide) (opn_int Tryd.underlying3)
theorem opn_atom : Opn Tryd.prog 63 rAtom := opn_struct2 Tryd.underlying63 rfl (by kernel_rfl) (by kernel_rfl) (opn_str Tryd.underlying9) opn_row
theorem opn_query : Opn Tryd.prog 25 rQuery := opn_struct3 Tryd.underlying25 rfl (by kernel_rfl) (by kernel_rfl) (by kernel_rfl) (opn_int Tryd.underlying3) (opn_slice Tryd.underlying22 (by kernel_rfl) (by decide) opn_atom) opn_row
end Go.Proofs.YthghggnlfnbbgabDoor.DatArg
