/- Joins of valid terms: the plain mathematics. -/
import Derived.Test.YtapcdhagkbfccaaN24g
import Derived.Test.YtapcdhagkbfccaaY21g
/- Joins: the plain mathematics. -/
namespace Go.Proofs.Ytapcdhagkbfccaa
open Go.RowKit

/-- The variable that tells a pair. -/
def ixT (M : List Two) (x : Two) : Int := -((M.idxOf x : Nat) : Int) - 1
/-- The common form of two terms that stand side by side, the pairs being known. -/
def jn (ss : Sg) (M : List Two) : List Int → List Int → List Int
  | [], _ => []
  | x :: a, b => if 0 ≤ x ∧ b.head? = some x then x :: jn ss M a b.tail else ixT M (prt ss (x :: a) 0, prt ss b 0) :: jn ss M (a.drop ((prt ss (x :: a) 0).length - 1)) (b.drop (prt ss b 0).length)
termination_by a => a.length
decreasing_by all_goals (simp only [List.length_cons, List.length_drop]; omega)
/-- Two lists of as many terms, side by side. -/
inductive Jnt (ss : Sg) : List Int → List Int → Prop
  | nil : Jnt ss [] []
  | same (x : Int) (a b : List Int) (h : 0 ≤ x) : Jnt ss a b → Jnt ss (x :: a) (x :: b)
  | part (x : Int) (p q a b : List Int) (hp : scan ss 1 (x :: p) = some []) (hq : scan ss 1 q = some []) (hd : ¬ (0 ≤ x ∧ q.head? = some x)) : Jnt ss a b → Jnt ss (x :: (p ++ a)) (q ++ b)
section
variable {ss : Sg} {M : List Two}
end

end Go.Proofs.Ytapcdhagkbfccaa

namespace Go.Proofs.Ytapcdhagkbfccaa
open Go.RowKit

section
variable {ss : Sg} {za zb : List Int}
theorem scan_len {q : List Int} (h : scan ss 1 q = some []) : 1 ≤ q.length := by
  cases q with
  | nil => cases h
  | cons x q => simp
end

end Go.Proofs.Ytapcdhagkbfccaa
