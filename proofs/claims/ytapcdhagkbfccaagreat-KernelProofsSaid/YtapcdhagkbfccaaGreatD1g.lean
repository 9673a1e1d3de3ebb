/- Contracts: places, Depth. -/
import Derived.Test.YtapcdhagkbfccaaGreatP4g
namespace Go.Proofs.YtapcdhagkbfccaaGreat
open Go.RowKit Go.Shelf
attribute [local go_sem] Oper.semAt_some

end Go.Proofs.YtapcdhagkbfccaaGreat
