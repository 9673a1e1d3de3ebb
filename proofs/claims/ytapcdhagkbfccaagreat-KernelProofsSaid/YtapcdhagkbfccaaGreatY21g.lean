/- Contracts: Join; the statements' own 'awake' (layer 2). -/
import Derived.Test.YtapcdhagkbfccaaGreatY19g
import Derived.Deep.RegionHeld3
import Derived.Deep.CutRange
import Derived.BigQuiet
import Derived.Test.YtapcdhagkbfccaaGreatW0g
/- Contracts: logic.join. -/
namespace Go.Proofs.YtapcdhagkbfccaaGreat
open Go.RowKit Go.WideMaps

section
variable {w wr W : World} {S v : Value} {t : List Int} {met : List Two}
end

end Go.Proofs.YtapcdhagkbfccaaGreat

namespace Go.Proofs.YtapcdhagkbfccaaGreat
open Go.RowKit

end Go.Proofs.YtapcdhagkbfccaaGreat
