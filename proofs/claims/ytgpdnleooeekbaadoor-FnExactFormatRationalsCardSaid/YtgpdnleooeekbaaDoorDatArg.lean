/- Arguments of the laws' own struct types, opened. -/
import Derived.Test.YtgpdnleooeekbaaDoorRows
import Derived.Test.YtgpdnleooeekbaaDoorDat
namespace Go.Proofs.YtgpdnleooeekbaaDoor.DatArg
open Go.RowKit
open Go.Proofs.YtgpdnleooeekbaaDoor.Rdr Go.Proofs.YtgpdnleooeekbaaDoor.Dat
theorem opn_row : Opn Tryd.prog 39 rRow := opn_slice Tryd.underlying39 (by kernel_rfl) (by decide) (opn_int Tryd.underlying3)
theorem opn_atom : Opn Tryd.prog 114 rAtom := opn_struct2 Tryd.underlying114 rfl (by kernel_rfl) (by kernel_rfl) (opn_str Tryd.underlying9) opn_row
theorem opn_query : Opn Tryd.prog 41 rQuery := opn_struct3 Tryd.underlying41 rfl (by kernel_rfl) (by kernel_rfl) (by kernel_rfl) (opn_int Tryd.underlying3) (opn_slice Tryd.underlying38 (by kernel_rfl) (by decide) opn_atom) opn_row
end Go.Proofs.YtgpdnleooeekbaaDoor.DatArg
