/- The reference's Detach and Detaches at any arguments. -/
import Derived.Test.YtojofbmpknpggaaKOg
import Derived.Test.YtojofbmpknpggaaZFg
import Derived.Great.BuildSlice
import Derived.Great.Walk
import Derived.Deep.WholeRow
import Derived.BigFrame
import Derived.Test.YtojofbmpknpggaaKQg
import Derived.Test.YtojofbmpknpggaaY21g
/- Detachment is most general: whatever binds make of the major's first part the minor, what they make of its second part is an instance of the detachment (mathematics, for KernelGeneral). -/
namespace Go.Proofs.Ytojofbmpknpggaa
open Go.RowKit

section
variable {ss : Sg}
theorem Shot.vb {zm zn A B : List Int} (h : Shot ss zm zn A B) : valOk ss B = true :=
  valOk_mk (valOk_sig h.vm) (by have := h.lens; omega) (fun x hx => (valOk_term h.vm).2.2.1 x (by rw [h.eq]; simp [hx])) h.sb
end

end Go.Proofs.Ytojofbmpknpggaa

/- The literal of a new solver: 25 cells behind a name. -/
namespace Go.Proofs.Ytojofbmpknpggaa
open Go.RowKit Go.Great

end Go.Proofs.Ytojofbmpknpggaa

/- Contracts: the reference's Unifiable, Meets. -/
namespace Go.Proofs.Ytojofbmpknpggaa
open Go.RowKit

end Go.Proofs.Ytojofbmpknpggaa

/- What Detach hands back is what the reference's solver finds (mathematics, for KernelDetaches). -/
namespace Go.Proofs.Ytojofbmpknpggaa
open Go.RowKit

section
variable {ss : Sg}
end

end Go.Proofs.Ytojofbmpknpggaa

/- The kernel's Detaches at any arguments. -/
namespace Go.Proofs.Ytojofbmpknpggaa
open Go.RowKit

end Go.Proofs.Ytojofbmpknpggaa

/- Contracts: the reference's Unified, Meet. -/
namespace Go.Proofs.Ytojofbmpknpggaa
open Go.RowKit

end Go.Proofs.Ytojofbmpknpggaa

/- The reference's detach and Detach: what they hand back. -/
namespace Go.Proofs.Ytojofbmpknpggaa
open Go.RowKit

end Go.Proofs.Ytojofbmpknpggaa

namespace Go.Proofs.Ytojofbmpknpggaa
open Go.RowKit

end Go.Proofs.Ytojofbmpknpggaa
