/- Arguments opened: slices of terms, with their capacities. -/
import Derived.Test.YtojofbmpknpggaaK8g
import Derived.Test.YtojofbmpknpggaaB4g
namespace Go.Proofs.Ytojofbmpknpggaa
open Go.ChangeShapes Go.WideShapes Go.ChangeAt Go.RowKit Go.Deep

end Go.Proofs.Ytojofbmpknpggaa
