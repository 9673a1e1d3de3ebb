/- Contract: the reference's Renaming. -/
import Derived.Test.YtpliamckapkhmaaN7g
import Derived.Test.YtpliamckapkhmaaN8g
/- Contracts: the reference's Of, Solved, Renaming; few. -/
namespace Go.Proofs.Ytpliamckapkhmaa
open Go.RowKit

/-- A list of numbers handed back. -/
def RetL (w : World) (zs : List Int) : Ending → World → Prop := fun e w' => ∃ A n c, e = .returned (.slice A n c) ∧ IntsAt w' w'.heap.size A n zs ∧ Below w.heap.size w w'

end Go.Proofs.Ytpliamckapkhmaa

namespace Go.Proofs.Ytpliamckapkhmaa
open Go.RowKit

end Go.Proofs.Ytpliamckapkhmaa
