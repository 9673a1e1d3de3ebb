/- Canonical forms are their own: the plain mathematics. -/
import Derived.Test.YtapcdhagkbfccaaGreatR3g
namespace Go.Proofs.YtapcdhagkbfccaaGreat
open Go.RowKit

end Go.Proofs.YtapcdhagkbfccaaGreat
