/- Contracts: places, Depth. -/
import Derived.Test.YtapcdhagkbfccaaP4g
namespace Go.Proofs.Ytapcdhagkbfccaa
open Go.RowKit Go.Shelf
attribute [local go_sem] Oper.semAt_some

end Go.Proofs.Ytapcdhagkbfccaa
