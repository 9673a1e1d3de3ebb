/- Contract: the reference's Args. -/
import Derived.Test.YtpdokmdapjdnoaaB0g
namespace Go.Proofs.Ytpdokmdapjdnoaa
open Go.RowKit

/-- The arguments of a term. -/
def argsTo (ss : Sg) (zs : List Int) (k : Nat) : List (List Int) := (List.range k).map (argL ss zs)
def argsL (ss : Sg) (zs : List Int) : List (List Int) := argsTo ss zs (arOf ss (zs.headD 0))
theorem TermsAt.nil (w : World) (B : Nat) : TermsAt w B none 0 [] [] := ⟨⟨rfl, by omega, fun h => absurd h (by omega)⟩, rfl, fun j hj => by simp at hj⟩

end Go.Proofs.Ytpdokmdapjdnoaa
