/- Canonical forms are their own: the plain mathematics. -/
import Derived.Test.YtpdokmdapjdnoaaR3g
namespace Go.Proofs.Ytpdokmdapjdnoaa
open Go.RowKit

end Go.Proofs.Ytpdokmdapjdnoaa
