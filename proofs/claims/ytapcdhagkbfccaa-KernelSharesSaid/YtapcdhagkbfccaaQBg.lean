/- Contracts: lemmarylaw04's shelf; the reference's ValidGivens. -/
import Derived.Test.YtapcdhagkbfccaaQGg
import Derived.Test.YtapcdhagkbfccaaPYg
import Derived.Test.YtapcdhagkbfccaaPJg
import Derived.Test.YtapcdhagkbfccaaO3g
import Derived.Test.YtapcdhagkbfccaaB4g
/- The walk of KernelMoves. -/
namespace Go.Proofs.Ytapcdhagkbfccaa
open Go.RowKit

set_option maxHeartbeats 400000 in
theorem light_any (A : Option Addr) (n c : Nat) (w : World) : Calls Try.prog 43 #[.slice A n c] w fun e w' => e = .returned (.bool (decide (n ≤ 100))) ∧ w = w' := by
  by_cases h : n ≤ 100
  · rw [decide_eq_true h]
    go_enter Try.func43, Try.ntmps43
    go_wp2
    go_ret
    simp; omega
  · rw [decide_eq_false h]
    go_enter Try.func43, Try.ntmps43
    go_wp2
    go_ret
    simp; omega

end Go.Proofs.Ytapcdhagkbfccaa

namespace Go.Proofs.Ytapcdhagkbfccaa
open Go.RowKit

set_option maxHeartbeats 400000 in
theorem shelf_any (As At : Option Addr) (ns cs n c : Nat) (ls : List Hd) (w : World) (B : Nat) (hl : HdsAt w B At n ls) :
    Calls Try.prog 42 #[.slice As ns cs, .slice At n c] w fun e w' => e = .returned (.bool (decide (n ≤ 80) && smallOk ns ls)) ∧ w = w' := by
  have HS := Lib.hid (small_any As At ns cs n c ls w B hl)
  by_cases h : n ≤ 80
  · rw [decide_eq_true h, Bool.true_and]
    have h' : (n : Int) ≤ 80 := by omega
    clear h hl
    go_enter Try.func42, Try.ntmps42
    go_wp2_with (go_at_call 16; ((with_reducible refine HS.out.mono ?_); rintro e w' ⟨rfl, rfl⟩))
    go_ret
    exact ⟨rfl, rfl⟩
  · rw [decide_eq_false h, Bool.false_and]
    have h' : (80 : Int) < (n : Int) := by omega
    clear h hl
    go_enter Try.func42, Try.ntmps42
    go_wp2
    go_ret
    exact ⟨rfl, rfl⟩

end Go.Proofs.Ytapcdhagkbfccaa
