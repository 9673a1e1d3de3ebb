/- Arguments opened: places. -/
import Derived.Test.YtafpcpdafojgkaaK2
namespace Go.Proofs.Ytafpcpdafojgkaa
open Go.ChangeShapes Go.WideShapes Go.ChangeAt Go.RowKit Go.Deep

theorem agg_of_cells' {v : Value} (h : v.cells.size ≠ 1) : ∃ cs, v = .agg cs ∧ v.cells = cs := by
  cases v <;> first | exact ⟨_, rfl, rfl⟩ | exact absurd rfl h

theorem cells_place : Try.prog.cellsOf 45 = 3 := by kernel_rfl
theorem cells_ints : Try.prog.cellsOf 24 = 1 := by kernel_rfl

set_option maxRecDepth 100000 in
/-- What is read as a place is two terms and a path. -/
theorem read_place {H : Type} {enc : TypeId × Value → H} {w : World} {base : Nat} {spare : Nat → Bool} {held : Bool} {v : Value} {d : DataW H} {p : List MemPlace} (h : DataW.Trod enc Try.prog w base spare held 45 v d p) :
    ∃ A0 n0 c0 A1 n1 c1 A2 n2 c2 x y z, v = .agg #[.slice A0 n0 c0, .slice A1 n1 c1, .slice A2 n2 c2] ∧ IntsAt w w.heap.size A0 n0 x ∧ IntsAt w w.heap.size A1 n1 y ∧ IntsAt w w.heap.size A2 n2 z ∧ n0 ≤ c0 ∧ c0 ≤ 9223372036854775807 ∧ n2 ≤ c2 ∧ c2 ≤ 9223372036854775807 := by
  obtain ⟨fuel, hf⟩ := h
  obtain ⟨ys, m, _, _, hl, hyl, hi⟩ := DataW.trod_struct Try.underlying45 hf
  rw [cells_place] at hl
  obtain ⟨cs, rfl, hcs⟩ := agg_of_cells' (v := v) (by have : v.cells.size = 3 := by simpa using hl
                                                      omega)
  rw [hcs] at hl hi
  obtain ⟨l⟩ := cs
  match l, hl, ys, hyl with
  | [c0, c1, c2], _, [y0, y1, y2], _ =>
    have f0 : DataW.trod enc Try.prog w base spare held m 25 (([c0, c1, c2].drop 0).take (Try.prog.cellsOf 25)) = some y0 := hi 0 _ rfl
    have f1 : DataW.trod enc Try.prog w base spare held m 25 (([c0, c1, c2].drop 1).take (Try.prog.cellsOf 25)) = some y1 := hi 1 _ rfl
    have f2 : DataW.trod enc Try.prog w base spare held m 24 (([c0, c1, c2].drop 2).take (Try.prog.cellsOf 24)) = some y2 := hi 2 _ rfl
    rw [cells_term] at f0 f1
    rw [cells_ints] at f2
    obtain ⟨A0, n0, k0, x, e0, h0, q1, q2, _⟩ := read_ints Try.underlying25 (v := c0) f0
    obtain ⟨A1, n1, k1, y, e1, h1, _⟩ := read_ints Try.underlying25 (v := c1) f1
    obtain ⟨A2, n2, k2, z, e2, h2, q3, q4, _⟩ := read_ints Try.underlying24 (v := c2) f2
    subst e0 e1 e2
    exact ⟨A0, n0, k0, A1, n1, k1, A2, n2, k2, x, y, z, rfl, h0, h1, h2, q1, q2, q3, q4⟩

end Go.Proofs.Ytafpcpdafojgkaa
