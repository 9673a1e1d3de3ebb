/- Contract: Compose. -/
import Derived.Test.YtojofbmpknpggaaN13g
import Derived.Test.YtojofbmpknpggaaB4g
/- Words: rows of binds that grow; contracts: the reference's SameBinds, Compose. -/
namespace Go.Proofs.Ytojofbmpknpggaa
open Go.RowKit

theorem BindsAt.none (w : World) (B : Nat) : BindsAt w B none 0 [] [] := ⟨rfl, rfl, by omega, fun h => absurd h (by omega), fun j hj => by simp at hj⟩

end Go.Proofs.Ytojofbmpknpggaa

/- Contract: the reference's Compose. -/
namespace Go.Proofs.Ytojofbmpknpggaa
open Go.RowKit

theorem LongTo.more {bb mm : List Bd} {k : Nat} (h : 60 < (appl mm (ofB bb (k : Int))).length) (hk : k < 12) : LongTo bb mm 12 := ⟨k, hk, h⟩
end Go.Proofs.Ytojofbmpknpggaa

/- Contracts: bound, Compose. -/
namespace Go.Proofs.Ytojofbmpknpggaa
open Go.RowKit Go.Shelf
attribute [local go_sem] Oper.semAt_some

theorem row_cells2 {w : World} {base : Nat} {e : TypeId} {size : Nat} {v : Value} {n : Nat} {xs : List Value} (h : w.ownsRow base e size v n xs) {g : Nat} (hg : v.ownBlock = some g) : ∃ cs, w.heap[g]? = some (.cells cs e (0, 0)) := by
  obtain ⟨_, ⟨rfl, _⟩ | ⟨g', cap, cur, rfl, _, hcur, _⟩⟩ := h
  · cases hg
  · cases hg; exact ⟨cur, hcur⟩
theorem keeps_grown2 {W W' : World} {row : Option Nat} (hg : W.grownBy W' row) (hr : ∀ r, row = some r → ∃ cs t z, W.heap[r]? = some (.cells cs t z)) : KeepsOthers W W' :=
  ⟨hg.size, fun k o hk ho => by
    refine (hg.block k (Array.getElem?_eq_some_iff.1 hk).1 fun e => ?_).trans hk
    obtain ⟨cs, t, z, h1⟩ := hr k e.symm
    rw [h1] at hk
    cases hk
    cases ho⟩
theorem grown_row {A B : World} (row : Option Nat) (h : Below A.heap.size A B) : A.grownBy B row := ⟨h.os, h.tape, h.output, h.size, fun k hk _ => h.block k hk⟩

end Go.Proofs.Ytojofbmpknpggaa

namespace Go.Proofs.Ytojofbmpknpggaa
open Go.RowKit Go.Shelf
attribute [local go_sem] Oper.semAt_some

end Go.Proofs.Ytojofbmpknpggaa
