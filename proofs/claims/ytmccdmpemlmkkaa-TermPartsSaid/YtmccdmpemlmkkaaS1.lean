/- Contracts of term's small functions on names: letter, validName. -/
import Derived.Test.YtmccdmpemlmkkaaM
namespace Go.Proofs.Ytmccdmpemlmkkaa
open Go.RowKit

def ltrI (n : Int) : Bool := (decide (97 ≤ n) && decide (n ≤ 122)) || (decide (65 ≤ n) && decide (n ≤ 90))
def ltrB (c : UInt8) : Bool := ltrI (c.toNat : Int)


set_option maxHeartbeats 400000 in
theorem letter_any (n : Int) (w : World) :
    Calls Try.prog 67 #[.int .u8 n] w fun e w' => e = .returned (.bool (ltrI n)) ∧ w = w' := by
  unfold ltrI
  by_cases h1 : 97 ≤ n <;> by_cases h2 : n ≤ 122 <;> by_cases h3 : 65 ≤ n <;> by_cases h4 : n ≤ 90
  all_goals first
    | (exfalso; omega)
    | (go_enter Try.func67, Try.ntmps67
       go_wp2
       go_ret
       simp [*])

end Go.Proofs.Ytmccdmpemlmkkaa
