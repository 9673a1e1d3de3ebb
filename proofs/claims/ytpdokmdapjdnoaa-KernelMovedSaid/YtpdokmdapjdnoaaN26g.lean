/- Joins of valid terms: the plain mathematics. -/
import Derived.Test.YtpdokmdapjdnoaaN24g
import Derived.Test.YtpdokmdapjdnoaaY21g
/- Joins: the plain mathematics. -/
namespace Go.Proofs.Ytpdokmdapjdnoaa
open Go.RowKit

/-- Two lists of as many terms, side by side. -/
inductive Jnt (ss : Sg) : List Int → List Int → Prop
  | nil : Jnt ss [] []
  | same (x : Int) (a b : List Int) (h : 0 ≤ x) : Jnt ss a b → Jnt ss (x :: a) (x :: b)
  | part (x : Int) (p q a b : List Int) (hp : scan ss 1 (x :: p) = some []) (hq : scan ss 1 q = some []) (hd : ¬ (0 ≤ x ∧ q.head? = some x)) : Jnt ss a b → Jnt ss (x :: (p ++ a)) (q ++ b)
section
variable {ss : Sg} {M : List Two}
end

end Go.Proofs.Ytpdokmdapjdnoaa

namespace Go.Proofs.Ytpdokmdapjdnoaa
open Go.RowKit

section
variable {ss : Sg} {za zb : List Int}
theorem scan_len {q : List Int} (h : scan ss 1 q = some []) : 1 ≤ q.length := by
  cases q with
  | nil => cases h
  | cons x q => simp
end

end Go.Proofs.Ytpdokmdapjdnoaa
