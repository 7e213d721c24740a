/- (A seat without relations: a stand-in, so that the laws' generator need not part.) -/
import Derived.Test.YtehbkgmpnkmgjaaDoorGridLaw2
import Derived.Test.YtehbkgmpnkmgjaaDoorCells
namespace Go.Proofs.YtehbkgmpnkmgjaaDoor.RelLaw
theorem none_here : True := trivial
end Go.Proofs.YtehbkgmpnkmgjaaDoor.RelLaw
namespace Go.Proofs.YtehbkgmpnkmgjaaDoor.TableLaw
theorem none_here : True := trivial
end Go.Proofs.YtehbkgmpnkmgjaaDoor.TableLaw
