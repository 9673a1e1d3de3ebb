/- Contracts: Apply, Occurs. -/
import Derived.Test.YtojofbmpknpggaaN5g
import Derived.RangeFuncLeaves
import Derived.RangeFuncCalls
import Derived.RangeFuncBound
import Derived.Shelf.Abstract
import Derived.Shelf.RegionOpen
import Derived.OwnWalkIn
import Derived.TacticsInMore
import Derived.Test.YtojofbmpknpggaaG1g
import Derived.Deep.RegionHeld3
import Derived.Deep.RegionHeldLaw
import Derived.Deep.CutRange
import Derived.BigQuiet
/- Contracts: slices.Index, slices.Contains at Term; comes, Solved. -/
namespace Go.Proofs.Ytojofbmpknpggaa
open Go.RowKit

/-- No variable of the first k binds comes in what is put in; nor that of bind k in the first j. -/
def NoneTo (bb : List Bd) (k : Nat) : Prop := ∀ i (h : i < bb.length) j (h' : j < bb.length), i < k → bb[j].2.contains (-bb[i].1 - 1) = false
def NoneAt (bb : List Bd) (v : Int) (j : Nat) : Prop := ∀ i (h : i < bb.length), i < j → bb[i].2.contains (-v - 1) = false
section
variable {ss : Sg} {bb : List Bd} {k j : Nat} {v v' : Int} {t t' : List Int}
theorem NoneTo.zero (bb : List Bd) : NoneTo bb 0 := fun _ _ _ _ h => by omega
theorem NoneAt.zero (bb : List Bd) (v : Int) : NoneAt bb v 0 := fun _ _ h => by omega
theorem NoneAt.succ (h : NoneAt bb v j) (hj : bb[j]? = some (v', t)) (e : t.contains (-v - 1) = false) : NoneAt bb v (j + 1) := by
  obtain ⟨hj, e1⟩ := List.getElem?_eq_some_iff.1 hj
  intro i hi hij
  by_cases h1 : i < j
  · exact h i hi h1
  · obtain rfl : i = j := by omega
    rw [e1]; exact e
theorem NoneTo.succ (h : NoneTo bb k) (hk : bb[k]? = some (v, t)) (ha : NoneAt bb v j) (hj : bb.length ≤ j) : NoneTo bb (k + 1) := by
  obtain ⟨hk, e1⟩ := List.getElem?_eq_some_iff.1 hk
  intro i hi j' hj' hik
  by_cases h1 : i < k
  · exact h i hi j' hj' h1
  · obtain rfl : i = k := by omega
    rw [e1]; exact ha j' hj' (by omega)
end

end Go.Proofs.Ytojofbmpknpggaa

/- Contract: Renaming. -/
namespace Go.Proofs.Ytojofbmpknpggaa
open Go.RowKit Go.Shelf
attribute [local go_sem] Oper.semAt_some

theorem below_grown {w W W' : World} {row : Option Nat} {B : Nat} (h : Below w.heap.size w W) (hg : W.grownBy W' row) (hr : ∀ r, row = some r → B ≤ r ∧ ∃ o : Obj, W.heap[r]? = some o ∧ o.isCells = false) (hB : w.heap.size ≤ B) : Below w.heap.size w W' :=
  h.grown hg h.size (fun k e => by have := (hr k e).1; omega)
/-- What lies behind a round that leaves. -/
def XRen (w : World) (R : Bool) (W : World) : Prop := R = false ∧ Blk W w.heap.size 4 #[.bool false] ∧ Below w.heap.size w W
theorem XRen.own {w : World} {B : Nat} {R : Bool} (hB : w.heap.size ≤ B) : OwnFrom B (fun (_ : Unit) W => XRen w R W) := by
  rintro _ W W' row ⟨h0, h4, h7⟩ hg hr
  exact ⟨h0, (grownBy_keeps_cells hg (fun r e => (hr r e).2) h4 rfl).trans h4, below_grown h7 hg hr hB⟩

end Go.Proofs.Ytojofbmpknpggaa

/- Contracts: the reference's within, Variable, ValidBinds (layer 2). -/
namespace Go.Proofs.Ytojofbmpknpggaa
open Go.RowKit

end Go.Proofs.Ytojofbmpknpggaa

/- Contracts: the reference's Of, Solved, Renaming; few. -/
namespace Go.Proofs.Ytojofbmpknpggaa
open Go.RowKit

/-- A list of numbers handed back. -/
def RetL (w : World) (zs : List Int) : Ending → World → Prop := fun e w' => ∃ A n c, e = .returned (.slice A n c) ∧ IntsAt w' w'.heap.size A n zs ∧ Below w.heap.size w w'

end Go.Proofs.Ytojofbmpknpggaa

/- Contract: the reference's Renaming. -/
namespace Go.Proofs.Ytojofbmpknpggaa
open Go.RowKit

end Go.Proofs.Ytojofbmpknpggaa

/- Contracts: the reference's Applied, Apply, Occurs. -/
namespace Go.Proofs.Ytojofbmpknpggaa
open Go.RowKit

/-- A list of numbers handed back in memory of the call's own. -/
def RetOwn (w : World) (zs : List Int) : Ending → World → Prop := fun e w' => ∃ v base, e = .returned v ∧ w.heap.size ≤ base ∧ w'.ownsRow base 3 1 v zs.length (zs.map (Value.int .i64)) ∧ Below w.heap.size w w'
theorem RetOwn.list {w w' : World} {zs : List Int} {e : Ending} (hn : zs.length ≤ 1000000) (h : RetOwn w zs e w') : RetL w zs e w' := by
  obtain ⟨v, base, rfl, _, hrow, hB⟩ := h
  obtain ⟨A, c, rfl, hI⟩ := row_ints hrow hn
  exact ⟨A, _, c, rfl, hI, hB⟩

/-- What Apply hands back. -/
def applZ (ss : Sg) (bb : List Bd) (zs : List Int) : List Int × Int := if (bindsOk ss bb && valOk ss zs) = true then (if (appl bb zs).length ≤ 60 then (appl bb zs, 0) else ([], 4)) else ([], 1)
end Go.Proofs.Ytojofbmpknpggaa

/- Contract: applied. -/
namespace Go.Proofs.Ytojofbmpknpggaa
open Go.RowKit Go.Shelf
attribute [local go_sem] Oper.semAt_some

end Go.Proofs.Ytojofbmpknpggaa

namespace Go.Proofs.Ytojofbmpknpggaa
open Go.RowKit

end Go.Proofs.Ytojofbmpknpggaa
