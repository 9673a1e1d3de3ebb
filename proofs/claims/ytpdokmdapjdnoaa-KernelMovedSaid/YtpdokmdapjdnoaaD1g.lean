/- Contracts: places, Depth. -/
import Derived.Test.YtpdokmdapjdnoaaP4g
namespace Go.Proofs.Ytpdokmdapjdnoaa
open Go.RowKit Go.Shelf
attribute [local go_sem] Oper.semAt_some

end Go.Proofs.Ytpdokmdapjdnoaa
