/- Arguments of the laws' own struct types, opened. -/
import Derived.Test.YthghggnlfnbbgabRows
import Derived.Test.YthghggnlfnbbgabDat
namespace Go.Proofs.Ythghggnlfnbbgab.DatArg
open Go.RowKit
open Go.Proofs.Ythghggnlfnbbgab.Rdr Go.Proofs.Ythghggnlfnbbgab.Dat
theorem opn_row : Opn Try.prog 34 rRow := opn_slice Try.underlying34 (by kernel_rfl) (by decide) (opn_int Try.underlying3)
theorem opn_atom : Opn Try.prog 75 rAtom := opn_struct2 Try.underlying75 rfl (by kernel_rfl) (by kernel_rfl) (opn_str Try.underlying9) opn_row
theorem opn_query : Opn Try.prog 36 rQuery := opn_struct3 Try.underlying36 rfl (by kernel_rfl) (by kernel_rfl) (by kernel_rfl) (opn_int Try.underlying3) (opn_slice Try.underlying33 (by kernel_rfl) (by decide) opn_atom) opn_row
end Go.Proofs.Ythghggnlfnbbgab.DatArg
