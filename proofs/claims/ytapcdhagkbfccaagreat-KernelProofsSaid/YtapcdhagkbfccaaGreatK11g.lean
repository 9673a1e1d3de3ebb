/- Arguments opened: slices of terms, with their capacities. -/
import Derived.Test.YtapcdhagkbfccaaGreatK8g
import Derived.Test.YtapcdhagkbfccaaGreatB4g
namespace Go.Proofs.YtapcdhagkbfccaaGreat
open Go.ChangeShapes Go.WideShapes Go.ChangeAt Go.RowKit Go.Deep

end Go.Proofs.YtapcdhagkbfccaaGreat
