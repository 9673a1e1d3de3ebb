/- The cited givens, sorted and each once (pure); contract: slices.Sort of a row of ints of the call's own. -/
import Derived.Test.YtippmpcaongolaaN13g
import Derived.Shelf.SortG.Plain
import Derived.Shelf.SortG.SortNone
import Derived.Shelf.SlicesG.CompactI
import Derived.Sort.OwnSortedInts
import Derived.Test.YtippmpcaongolaaQWg
/- Contracts: slices.Sort and slices.Compact at []int, laid. -/
namespace Go.Proofs.Ytippmpcaongolaa
open Go.RowKit Go.Shelf Go.Sort

end Go.Proofs.Ytippmpcaongolaa

namespace Go.Proofs.Ytippmpcaongolaa
open Go.RowKit

end Go.Proofs.Ytippmpcaongolaa
