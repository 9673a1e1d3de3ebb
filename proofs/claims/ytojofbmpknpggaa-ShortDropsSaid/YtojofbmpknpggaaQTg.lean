/- The cited givens, sorted and each once (pure); contract: slices.Sort of a row of ints of the call's own. -/
import Derived.Test.YtojofbmpknpggaaN13g
import Derived.Shelf.SortG.Plain
import Derived.Shelf.SortG.SortNone
import Derived.Shelf.SlicesG.CompactI
import Derived.Sort.OwnSortedInts
import Derived.Test.YtojofbmpknpggaaQVg
/- Contracts: slices.Sort and slices.Compact at []int, laid. -/
namespace Go.Proofs.Ytojofbmpknpggaa
open Go.RowKit Go.Shelf Go.Sort

end Go.Proofs.Ytojofbmpknpggaa

namespace Go.Proofs.Ytojofbmpknpggaa
open Go.RowKit

end Go.Proofs.Ytojofbmpknpggaa
