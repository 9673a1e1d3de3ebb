/- Contracts: places, Depth. -/
import Derived.Test.YtpliamckapkhmaaP4g
namespace Go.Proofs.Ytpliamckapkhmaa
open Go.RowKit Go.Shelf
attribute [local go_sem] Oper.semAt_some

end Go.Proofs.Ytpliamckapkhmaa
