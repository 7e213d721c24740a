/- (A seat without relations: a stand-in, so that the laws' generator need not part.) -/
import Derived.Test.YtaeeogighoobdaaGridLaw2
import Derived.Test.YtaeeogighoobdaaCells
namespace Go.Proofs.Ytaeeogighoobdaa.RelLaw
theorem none_here : True := trivial
end Go.Proofs.Ytaeeogighoobdaa.RelLaw
namespace Go.Proofs.Ytaeeogighoobdaa.TableLaw
theorem none_here : True := trivial
end Go.Proofs.Ytaeeogighoobdaa.TableLaw
