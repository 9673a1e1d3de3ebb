/- Contract: form. -/
import Derived.Test.YtojofbmpknpggaaY12g
import Derived.Deep.RegionHeld3
import Derived.Deep.RegionHeldLaw
import Derived.Laws.ResultCell
import Derived.Test.YtojofbmpknpggaaL0g
/- Contract: written. -/
namespace Go.Proofs.Ytojofbmpknpggaa
open Go.RowKit

def loopW (g : Nat → List Int → Option (Bool × List Int)) : List Nat → List Int → Option (Bool × List Int)
  | [], t => some (true, t)
  | a :: us, t => match g a t with
    | .none => .none
    | some (false, t') => some (false, t')
    | some (true, t') => loopW g us t'
/-- What a node becomes, written behind t; whether it is not too long. -/
def writeF (F : Fd) : Nat → Nat → List Int → Option (Bool × List Int)
  | 0, _, _ => .none
  | m + 1, k, t => match rootS F.prox m k with
    | .none => .none
    | some r => if t.length = 60 then some (false, t)
      else match F.tops[r]?, F.args[r]? with
        | some x, some us => loopW (writeF F m) us (t ++ [x])
        | _, _ => .none
theorem loopW_len {g : Nat → List Int → Option (Bool × List Int)} (hg : ∀ a t b t', g a t = some (b, t') → t.length ≤ 60 → t'.length ≤ 60) : ∀ us t b t', loopW g us t = some (b, t') → t.length ≤ 60 → t'.length ≤ 60
  | [], t, b, t', h, hl => by cases h; exact hl
  | a :: us, t, b, t', h, hl => by
    unfold loopW at h
    cases e : g a t with
    | none => rw [e] at h; cases h
    | some x =>
      obtain ⟨c, t1⟩ := x
      rw [e] at h
      have h1 := hg _ _ _ _ e hl
      cases c
      · cases h; exact h1
      · exact loopW_len hg us t1 b t' h h1
theorem writeF_len {F : Fd} : ∀ m k t b t', writeF F m k t = some (b, t') → t.length ≤ 60 → t'.length ≤ 60
  | 0, k, t, b, t', h, _ => by cases h
  | m + 1, k, t, b, t', h, hl => by
    unfold writeF at h
    cases e : rootS F.prox m k with
    | none => rw [e] at h; cases h
    | some r =>
      rw [e] at h
      simp only at h
      by_cases h6 : t.length = 60
      · rw [if_pos h6] at h; cases h; exact hl
      · rw [if_neg h6] at h
        split at h
        · exact loopW_len (fun a t b t' => writeF_len m a t b t') _ _ _ _ h (by rw [List.length_append, List.length_singleton]; omega)
        · cases h
end Go.Proofs.Ytojofbmpknpggaa

/- Contract: written. -/
namespace Go.Proofs.Ytojofbmpknpggaa
open Go.RowKit

end Go.Proofs.Ytojofbmpknpggaa

namespace Go.Proofs.Ytojofbmpknpggaa
open Go.RowKit

/-- The form of what was written, and the error. -/
def formZ (ok : Bool) (t : List Int) : List Int × Int := if ok = true ∧ (seenTo t t.length).length ≤ 12 then (canon t, 0) else ([], 4)
/-- What a call returns that returns a list of ints and an error: the slice's capacity is told, too. -/
def RetK (w : World) (zs : List Int) (er : Int) (e : Ending) (w' : World) : Prop :=
  ∃ A n c, e = .returned (.tuple #[.slice A n c, .int .i64 er]) ∧ IntsAt w' w'.heap.size A n zs ∧ (n ≤ c ∧ c ≤ 9223372036854775807) ∧ Below w.heap.size w w'
theorem RetK.ret {w w' : World} {zs : List Int} {er : Int} {e : Ending} (h : RetK w zs er e w') : RetT w zs er e w' := by
  obtain ⟨A, n, c, h1, h2, _, h3⟩ := h
  exact ⟨A, n, c, h1, h2, h3⟩

end Go.Proofs.Ytojofbmpknpggaa
