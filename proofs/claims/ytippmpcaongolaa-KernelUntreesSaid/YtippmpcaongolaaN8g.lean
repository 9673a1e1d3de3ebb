/- Contracts: the reference's within, Variable, ValidBinds (layer 2). -/
import Derived.Test.YtippmpcaongolaaN5g
import Derived.RangeFuncLeaves
import Derived.RangeFuncCalls
import Derived.RangeFuncBound
import Derived.Shelf.Abstract
import Derived.Shelf.RegionOpen
import Derived.OwnWalkIn
import Derived.TacticsInMore
import Derived.Test.YtippmpcaongolaaG2g
import Derived.Deep.RegionHeld3
import Derived.Deep.RegionHeldLaw
import Derived.Deep.CutRange
import Derived.BigQuiet
/- Contracts: slices.Index, slices.Contains at Term; comes, Solved. -/
namespace Go.Proofs.Ytippmpcaongolaa
open Go.RowKit

/-- No variable of the first k binds comes in what is put in; nor that of bind k in the first j. -/
def NoneTo (bb : List Bd) (k : Nat) : Prop := ∀ i (h : i < bb.length) j (h' : j < bb.length), i < k → bb[j].2.contains (-bb[i].1 - 1) = false
def NoneAt (bb : List Bd) (v : Int) (j : Nat) : Prop := ∀ i (h : i < bb.length), i < j → bb[i].2.contains (-v - 1) = false
section
variable {ss : Sg} {bb : List Bd} {k j : Nat} {v v' : Int} {t t' : List Int}
theorem NoneTo.zero (bb : List Bd) : NoneTo bb 0 := fun _ _ _ _ h => by omega
theorem NoneAt.zero (bb : List Bd) (v : Int) : NoneAt bb v 0 := fun _ _ h => by omega
theorem NoneAt.succ (h : NoneAt bb v j) (hj : bb[j]? = some (v', t)) (e : t.contains (-v - 1) = false) : NoneAt bb v (j + 1) := by
  obtain ⟨hj, e1⟩ := List.getElem?_eq_some_iff.1 hj
  intro i hi hij
  by_cases h1 : i < j
  · exact h i hi h1
  · obtain rfl : i = j := by omega
    rw [e1]; exact e
theorem NoneTo.succ (h : NoneTo bb k) (hk : bb[k]? = some (v, t)) (ha : NoneAt bb v j) (hj : bb.length ≤ j) : NoneTo bb (k + 1) := by
  obtain ⟨hk, e1⟩ := List.getElem?_eq_some_iff.1 hk
  intro i hi j' hj' hik
  by_cases h1 : i < k
  · exact h i hi j' hj' h1
  · obtain rfl : i = k := by omega
    rw [e1]; exact ha j' hj' (by omega)
end

end Go.Proofs.Ytippmpcaongolaa

/- Contract: Renaming. -/
namespace Go.Proofs.Ytippmpcaongolaa
open Go.RowKit Go.Shelf
attribute [local go_sem] Oper.semAt_some

theorem below_grown {w W W' : World} {row : Option Nat} {B : Nat} (h : Below w.heap.size w W) (hg : W.grownBy W' row) (hr : ∀ r, row = some r → B ≤ r ∧ ∃ o : Obj, W.heap[r]? = some o ∧ o.isCells = false) (hB : w.heap.size ≤ B) : Below w.heap.size w W' :=
  h.grown hg h.size (fun k e => by have := (hr k e).1; omega)
/-- What lies behind a round that leaves. -/
def XRen (w : World) (R : Bool) (W : World) : Prop := R = false ∧ Blk W w.heap.size 4 #[.bool false] ∧ Below w.heap.size w W
theorem XRen.own {w : World} {B : Nat} {R : Bool} (hB : w.heap.size ≤ B) : OwnFrom B (fun (_ : Unit) W => XRen w R W) := by
  rintro _ W W' row ⟨h0, h4, h7⟩ hg hr
  exact ⟨h0, (grownBy_keeps_cells hg (fun r e => (hr r e).2) h4 rfl).trans h4, below_grown h7 hg hr hB⟩

end Go.Proofs.Ytippmpcaongolaa

namespace Go.Proofs.Ytippmpcaongolaa
open Go.RowKit

theorem quiet_draw2 {P : Program} {f : FuncId} {args : Array Value} {w : World} {n : Nat} {v : Value}
    (h : Calls P f args (w.drewN n) fun e w' => e = .returned v ∧ ∃ k, w' = (w.drewN n).drewN k) : Calls P f args (w.drewN n) fun e w' => e = .returned v ∧ ∃ m, w' = w.drewN m :=
  h.mono fun _ _ ⟨he, k, hm⟩ => ⟨he, n + k, by rw [hm, World.drewN_drewN]⟩
end Go.Proofs.Ytippmpcaongolaa
