/- The walk of KernelMoves. -/
import Derived.Test.YtippmpcaongolaaQGg
import Derived.Test.YtippmpcaongolaaPYg
namespace Go.Proofs.Ytippmpcaongolaa
open Go.RowKit

set_option maxHeartbeats 400000 in
theorem light_any (A : Option Addr) (n c : Nat) (w : World) : Calls Try.prog 43 #[.slice A n c] w fun e w' => e = .returned (.bool (decide (n ≤ 100))) ∧ w = w' := by
  by_cases h : n ≤ 100
  · rw [decide_eq_true h]
    go_enter Try.func43, Try.ntmps43
    go_wp2
    go_ret
    simp; omega
  · rw [decide_eq_false h]
    go_enter Try.func43, Try.ntmps43
    go_wp2
    go_ret
    simp; omega

end Go.Proofs.Ytippmpcaongolaa
