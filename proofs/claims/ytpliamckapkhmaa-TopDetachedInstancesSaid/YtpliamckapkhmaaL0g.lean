/- Canonical forms are their own: the plain mathematics. -/
import Derived.Test.YtpliamckapkhmaaR2g
namespace Go.Proofs.Ytpliamckapkhmaa
open Go.RowKit

end Go.Proofs.Ytpliamckapkhmaa
