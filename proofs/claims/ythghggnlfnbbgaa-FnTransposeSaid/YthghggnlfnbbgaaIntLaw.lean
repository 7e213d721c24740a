/- Contracts of the laws' own helpers on rows of ints (a seat without big integers). -/
import Derived.Test.YthghggnlfnbbgaaRows
import Derived.Test.YthghggnlfnbbgaaNum
import Derived.Test.YthghggnlfnbbgaaIntRow
import Derived.WalkKit
import Derived.IntWalk
import Derived.BigQuiet
import Derived.Deep.QuietTactic
namespace Go.Proofs.Ythghggnlfnbbgaa.IntLaw
open Go.RowKit
open Go.Proofs.Ythghggnlfnbbgaa.Num Go.Proofs.Ythghggnlfnbbgaa.IntRow
set_option linter.unusedVariables false
end Go.Proofs.Ythghggnlfnbbgaa.IntLaw
