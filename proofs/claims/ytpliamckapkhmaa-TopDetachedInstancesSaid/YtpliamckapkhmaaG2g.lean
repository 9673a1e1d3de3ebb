/- Contract: the reference's End. -/
import Derived.Test.YtpliamckapkhmaaF3g
namespace Go.Proofs.Ytpliamckapkhmaa
open Go.RowKit

theorem scan_step {ss : Sg} {zs : List Int} {p N : Nat} {r : List Int} (h : scan ss (N + 1) (zs.drop p) = some r) : ∃ hp : p < zs.length, scan ss (N + arOf ss zs[p]) (zs.drop (p + 1)) = some r := by
  by_cases hp : p < zs.length
  · refine ⟨hp, ?_⟩
    rw [List.drop_eq_getElem_cons hp] at h
    exact h
  · rw [List.drop_of_length_le (by omega)] at h
    cases h
theorem scan_end {ss : Sg} {zs : List Int} {p : Nat} {r : List Int} (h : scan ss 0 (zs.drop p) = some r) (hp : p ≤ zs.length) : p = zs.length - r.length := by
  rw [scan_zero] at h
  have := congrArg List.length (Option.some.inj h)
  rw [List.length_drop] at this
  omega

end Go.Proofs.Ytpliamckapkhmaa
