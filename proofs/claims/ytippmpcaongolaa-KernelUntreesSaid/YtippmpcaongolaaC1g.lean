/- Contracts: slices.Clone at []int and at Term. -/
import Derived.Test.YtippmpcaongolaaL0g
import Derived.Maps.AppendAt
import Derived.Deep.AppendLies
import Derived.Lib.SliceRun
import Derived.Test.YtippmpcaongolaaA2g
/- Words: an address moved; a row of ints that is returned. -/
namespace Go.Proofs.Ytippmpcaongolaa
open Go.RowKit

theorem add0 (b off j : Nat) : (⟨b, off, none⟩ : Addr).add j = ⟨b, off + j, none⟩ := by
  unfold Addr.add
  split
  · subst_vars; rfl
  · rfl

/-- A row of the call's own is returned. -/
def RetRow (w : World) (xs : List Value) (e : Ending) (w' : World) : Prop := ∃ v, e = .returned v ∧ w'.ownsRow w.heap.size 3 1 v xs.length xs ∧ Below w.heap.size w w'

end Go.Proofs.Ytippmpcaongolaa

namespace Go.Proofs.Ytippmpcaongolaa
open Go.RowKit

end Go.Proofs.Ytippmpcaongolaa
