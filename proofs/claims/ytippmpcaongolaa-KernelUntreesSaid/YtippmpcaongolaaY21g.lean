/- Contracts: Join; the statements' own 'awake' (layer 2). -/
import Derived.Test.YtippmpcaongolaaY19g
import Derived.Deep.RegionHeld3
import Derived.Deep.CutRange
import Derived.BigQuiet
import Derived.Test.YtippmpcaongolaaW0g
/- Contracts: logic.join. -/
namespace Go.Proofs.Ytippmpcaongolaa
open Go.RowKit Go.WideMaps

theorem below_al {w w' : World} (h : Below w.heap.size w w') (o : Obj) : Below w.heap.size w (w'.alloc o) := h.alloc h.size o
/-- What join has at the head of a round. -/
structure JIn (w wr : World) (S v : Value) (t : List Int) (met : List Two) : Prop where
  box : wr.cell? ⟨w.heap.size, 0, none⟩ = some S
  row : wr.ownsRow (w.heap.size + 2) 3 1 v t.length (t.map (Value.int .i64))
  map : PairMap wr (w.heap.size + 1) met
  bel : Below w.heap.size w wr
section
variable {w wr W : World} {S v : Value} {t : List Int} {met : List Two}
theorem JIn.size (h : JIn w wr S v t met) : w.heap.size + 2 ≤ wr.heap.size := h.map.lt
theorem JIn.below (h : JIn w wr S v t met) (hb : Below wr.heap.size wr W) : JIn w W S v t met :=
  ⟨(hb.cell (p := ⟨w.heap.size, 0, none⟩) (by have := h.size; show w.heap.size < _; omega)).trans h.box, row_below h.row hb, h.map.grown (grown_none hb) (by simp), below_then h.bel hb⟩
theorem JIn.form (h : JIn w wr S v t met) : ∃ A c, v = .slice A t.length c := by
  obtain ⟨_, ⟨rfl, h0⟩ | ⟨g, cap, cur, rfl, _⟩⟩ := h.row
  · exact ⟨_, _, by rw [h0]⟩
  · exact ⟨_, _, rfl⟩
theorem JIn.push (h : JIn w wr S v t met) {o : Obj} {x : Int} {v' : Value} (hrow : W.ownsRow (w.heap.size + 2) 3 1 v' (t.length + 1) (t.map (Value.int .i64) ++ [.int .i64 x])) (hg : (wr.alloc o).grownBy W v.ownBlock) : JIn w W S v' (t ++ [x]) met := by
  have h1 := h.below (below_al (Below.refl _ wr) o)
  have hlt := h1.row.lt
  have hsz := h1.size
  refine ⟨?_, by simpa using hrow, h1.map.grown hg (fun e => ?_), h1.bel.grown hg h1.bel.size (fun k e => by have := (hlt k e).1; omega)⟩
  · rw [World.cell?_of_block (hg.block w.heap.size (by omega) (fun e => by have := (hlt _ e.symm).1; omega))]
    exact h1.box
  · have := (hlt _ e.symm).1
    omega
theorem JIn.put (h : JIn w wr S v t met) {met' : List Two} (hm : PairMap W (w.heap.size + 1) met') (hg : wr.grownBy W (some (w.heap.size + 1))) : JIn w W S v t met' := by
  have hsz := h.size
  have hlt := h.row.lt
  refine ⟨?_, h.row.kept hg ?_, hm, h.bel.grown hg h.bel.size (fun k e => by cases e; omega)⟩
  · rw [World.cell?_of_block (hg.block w.heap.size (by omega) (fun e => by have := Option.some.inj e; omega))]
    exact h.box
  · cases e : v.ownBlock with
    | none => exact .inl rfl
    | some g => exact .inr (fun e2 => by have := (hlt g e).1; have := Option.some.inj e2; omega)
end

end Go.Proofs.Ytippmpcaongolaa

namespace Go.Proofs.Ytippmpcaongolaa
open Go.RowKit

end Go.Proofs.Ytippmpcaongolaa
