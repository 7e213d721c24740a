/- Contracts of the laws' own helpers on tables and databases. -/
import Derived.Test.YtffhfnkcbgbliaaDoorRelLaw
import Derived.Test.YtffhfnkcbgbliaaDoorRelKit
import Derived.Test.YtffhfnkcbgbliaaDoorHasL
import Derived.Test.YtffhfnkcbgbliaaDoorDat
import Derived.Deep.RegionHeld3
import Derived.Deep.DeepCutAuto
namespace Go.Proofs.YtffhfnkcbgbliaaDoor.TableLaw
open Go.RowKit
open Go.Proofs.YtffhfnkcbgbliaaDoor.Num Go.Proofs.YtffhfnkcbgbliaaDoor.IntRow Go.Proofs.YtffhfnkcbgbliaaDoor.IntLaw Go.Proofs.YtffhfnkcbgbliaaDoor.GridLaw Go.Proofs.YtffhfnkcbgbliaaDoor.GridLaw2 Go.Proofs.YtffhfnkcbgbliaaDoor.RelLaw Go.Proofs.YtffhfnkcbgbliaaDoor.RelKit Go.Proofs.YtffhfnkcbgbliaaDoor.Rdr Go.Proofs.YtffhfnkcbgbliaaDoor.Dat Go.Proofs.YtffhfnkcbgbliaaDoor.HasL Go.Proofs.YtffhfnkcbgbliaaDoor.Keep Go.Proofs.YtffhfnkcbgbliaaDoor.Kept
set_option linter.unusedVariables false

theorem szG_tot (xss : List (List Int)) : szG xss = tot xss := by simp [szG, tots, sumf, tot]

end Go.Proofs.YtffhfnkcbgbliaaDoor.TableLaw
