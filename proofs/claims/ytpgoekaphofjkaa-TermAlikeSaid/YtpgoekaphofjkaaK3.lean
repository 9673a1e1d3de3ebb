/- Arguments opened: arrays of three terms. -/
import Derived.Test.YtpgoekaphofjkaaK1
namespace Go.Proofs.Ytpgoekaphofjkaa
open Go.ChangeShapes Go.WideShapes Go.ChangeAt Go.RowKit Go.Deep

theorem agg_of_cells {v : Value} (h : v.cells.size ≠ 1) : ∃ cs, v = .agg cs ∧ v.cells = cs := by
  cases v <;> first | exact ⟨_, rfl, rfl⟩ | exact absurd rfl h

theorem cells_arr : Try.prog.cellsOf 40 = 3 := by kernel_rfl

/-- What is read as an array of three terms is one. -/
theorem read_three {H : Type} {enc : TypeId × Value → H} {w : World} {base : Nat} {spare : Nat → Bool} {held : Bool} {v : Value} {d : DataW H} {p : List MemPlace} (h : DataW.Trod enc Try.prog w base spare held 40 v d p) :
    ∃ A0 n0 c0 A1 n1 c1 A2 n2 c2 x y z, v = .agg #[.slice A0 n0 c0, .slice A1 n1 c1, .slice A2 n2 c2] ∧ IntsAt w w.heap.size A0 n0 x ∧ IntsAt w w.heap.size A1 n1 y ∧ IntsAt w w.heap.size A2 n2 z := by
  obtain ⟨fuel, hf⟩ := h
  obtain ⟨xs, m, _, _, hl, hxl, hi⟩ := DataW.trod_array Try.underlying40 hf
  rw [cells_arr] at hl
  obtain ⟨cs, rfl, hcs⟩ := agg_of_cells (v := v) (by have : v.cells.size = 3 := by simpa using hl
                                                     omega)
  rw [hcs] at hl hi
  obtain ⟨l⟩ := cs
  simp only [cells_term, Nat.mul_one] at hi
  match l, hl, xs, hxl with
  | [c0, c1, c2], _, [y0, y1, y2], _ =>
    have e0 := hi 0 (by omega)
    have e1 := hi 1 (by omega)
    have e2 := hi 2 (by omega)
    simp at e0 e1 e2
    obtain ⟨A0, n0, k0, x, rfl, h0, _⟩ := read_ints Try.underlying25 e0
    obtain ⟨A1, n1, k1, y, rfl, h1, _⟩ := read_ints Try.underlying25 e1
    obtain ⟨A2, n2, k2, z, rfl, h2, _⟩ := read_ints Try.underlying25 e2
    exact ⟨A0, n0, k0, A1, n1, k1, A2, n2, k2, x, y, z, rfl, h0, h1, h2⟩

end Go.Proofs.Ytpgoekaphofjkaa
