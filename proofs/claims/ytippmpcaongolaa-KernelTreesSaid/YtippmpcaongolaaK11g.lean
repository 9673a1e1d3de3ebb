/- Arguments opened: slices of terms, with their capacities. -/
import Derived.Test.YtippmpcaongolaaK8g
import Derived.Test.YtippmpcaongolaaB4g
namespace Go.Proofs.Ytippmpcaongolaa
open Go.ChangeShapes Go.WideShapes Go.ChangeAt Go.RowKit Go.Deep

end Go.Proofs.Ytippmpcaongolaa
