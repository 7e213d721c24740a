/- Arguments of the laws' own struct types, opened. -/
import Derived.Test.YtehbkgmpnkmgjaaDoorRows
import Derived.Test.YtehbkgmpnkmgjaaDoorDat
namespace Go.Proofs.YtehbkgmpnkmgjaaDoor.DatArg
open Go.RowKit
open Go.Proofs.YtehbkgmpnkmgjaaDoor.Rdr Go.Proofs.YtehbkgmpnkmgjaaDoor.Dat
theorem opn_row : Opn Tryd.prog 23 rRow := opn_slice Tryd.underlying23 (by kernel_rfl) (by decide) (opn_int Tryd.underlying3)
theorem opn_atom : Opn Tryd.prog 43 rAtom := opn_struct2 Tryd.underlying43 rfl (by kernel_rfl) (by kernel_rfl) (opn_str Tryd.underlying9) opn_row
theorem opn_query : Opn Tryd.prog 25 rQuery := opn_struct3 Tryd.underlying25 rfl (by kernel_rfl) (by kernel_rfl) (by kernel_rfl) (opn_int Tryd.underlying3) (opn_slice Tryd.underlying22 (by kernel_rfl) (by decide) opn_atom) opn_row
end Go.Proofs.YtehbkgmpnkmgjaaDoor.DatArg
