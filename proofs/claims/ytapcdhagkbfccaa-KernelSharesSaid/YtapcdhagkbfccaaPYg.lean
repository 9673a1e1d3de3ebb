/- Contract: the reference's Moved at any arguments. -/
import Derived.Test.YtapcdhagkbfccaaPJg
import Derived.Test.YtapcdhagkbfccaaK8g
import Derived.Test.YtapcdhagkbfccaaPFg
import Derived.Laws.StructEq
/- Contracts: the reference's within, isCount, stepRight, ValidProof, SameSteps (layer 4). A proof read as an argument. -/
namespace Go.Proofs.Ytapcdhagkbfccaa
open Go.RowKit

end Go.Proofs.Ytapcdhagkbfccaa

/- Arguments opened: proofs; a proof with a list of numbers and a number. -/
namespace Go.Proofs.Ytapcdhagkbfccaa
open Go.ChangeShapes Go.WideShapes Go.ChangeAt Go.RowKit Go.Deep

theorem cells_step : Try.prog.cellsOf 123 = 3 := by kernel_rfl
section
variable {H : Type} {enc : TypeId × Value → H} {w : World} {base : Nat} {spare : Nat → Bool} {held : Bool}

set_option maxRecDepth 100000 in
theorem read_step {fuel : Nat} {cs : List Value} {x : DataW H × List MemPlace} (h : DataW.trod enc Try.prog w base spare held fuel 123 cs = some x) : ∃ a b c : Int, cs = [.int .i64 a, .int .i64 b, .int .i64 c] := by
  obtain ⟨ys, n, _, _, hl, hyl, hf⟩ := DataW.trod_struct Try.underlying123 h
  rw [cells_step] at hl
  match cs, hl, ys, hyl with
  | [c0, c1, c2], _, [y0, y1, y2], _ =>
    have f0 : DataW.trod enc Try.prog w base spare held n 3 (([c0, c1, c2].drop 0).take (Try.prog.cellsOf 3)) = some y0 := hf 0 _ rfl
    have f1 : DataW.trod enc Try.prog w base spare held n 3 (([c0, c1, c2].drop 1).take (Try.prog.cellsOf 3)) = some y1 := hf 1 _ rfl
    have f2 : DataW.trod enc Try.prog w base spare held n 3 (([c0, c1, c2].drop 2).take (Try.prog.cellsOf 3)) = some y2 := hf 2 _ rfl
    rw [cells_int] at f0 f1 f2
    obtain ⟨a, h0, _, _⟩ := DataW.trod_int Try.underlying3 f0
    obtain ⟨b, h1, _, _⟩ := DataW.trod_int Try.underlying3 f1
    obtain ⟨c, h2, _, _⟩ := DataW.trod_int Try.underlying3 f2
    have h0' : [c0] = [Value.int .i64 a] := h0
    have h1' : [c1] = [Value.int .i64 b] := h1
    have h2' : [c2] = [Value.int .i64 c] := h2
    simp only [List.cons.injEq, and_true] at h0' h1' h2'
    exact ⟨a, b, c, by rw [h0', h1', h2']⟩

/-- What is read as a slice of steps is one. -/
theorem read_steps {fuel : Nat} {v : Value} {x : DataW H × List MemPlace} (h : DataW.trod enc Try.prog w base spare held fuel 50 [v] = some x) :
    ∃ A n c pp, v = .slice A n c ∧ StepsAt w w.heap.size A n pp := by
  rcases open_slice Try.underlying50 h with ⟨hcs, _⟩ | ⟨a, len, cap, m, n, D, Pl, hcs, _, hl, hm, hmm, _, hi⟩
  · simp only [List.cons.injEq, and_true] at hcs
    exact ⟨none, 0, 0, [], hcs, StepsAt.nil _ _ _⟩
  · simp only [List.cons.injEq, and_true] at hcs
    unfold maxLen at hm
    have hlm : len ≤ m := by rw [hmm]; split <;> omega
    by_cases h0 : len = 0
    · subst h0
      exact ⟨some a, 0, cap, [], hcs, StepsAt.nil _ _ _⟩
    · have each : ∀ i, i < len → ∃ p : Stp, w.cell? ((a.add (i * 3)).add 0) = some (.int .i64 p.1) ∧ w.cell? ((a.add (i * 3)).add 1) = some (.int .i64 p.2.1) ∧ w.cell? ((a.add (i * 3)).add 2) = some (.int .i64 p.2.2) := by
        intro i hil
        obtain ⟨cs', hc, ht⟩ := hi i (by omega)
        rw [cells_step] at hc
        obtain ⟨_, hcl, hat⟩ := World.cells?_some hc
        obtain ⟨x, y, z, rfl⟩ := read_step ht
        exact ⟨(x, y, z), hat 0 (by omega), hat 1 (by omega), hat 2 (by omega)⟩
      obtain ⟨b, off, spot⟩ := a
      obtain ⟨p0, q0, _⟩ := each 0 (by omega)
      have hspot : spot = none := by simpa [Addr.add] using World.cell?_spot q0
      subst hspot
      have hblt : b < w.heap.size := by
        have := World.block_lt_of_cell? w _ q0
        simpa [Addr.add] using this
      obtain ⟨l, hll, hlp⟩ := list_of _ len each
      refine ⟨some ⟨b, off, none⟩, len, cap, l, hcs, ⟨hll.symm, by omega, fun _ => ⟨b, off, rfl, hblt, fun j hj => ?_⟩⟩⟩
      obtain ⟨x0, x1, x2⟩ := hlp j hj
      rw [addadd] at x0 x1 x2
      rw [Nat.add_zero] at x0
      exact ⟨x0, x1, x2⟩

end

end Go.Proofs.Ytapcdhagkbfccaa

/- Moved: what it hands back; slices.Clone at []api.Step. -/
namespace Go.Proofs.Ytapcdhagkbfccaa
open Go.RowKit

end Go.Proofs.Ytapcdhagkbfccaa

/- Contract: kernel.Moved at any arguments. -/
namespace Go.Proofs.Ytapcdhagkbfccaa
open Go.RowKit

end Go.Proofs.Ytapcdhagkbfccaa

/- Contracts: the reference's Moved; SameSteps at one list. -/
namespace Go.Proofs.Ytapcdhagkbfccaa
open Go.RowKit

end Go.Proofs.Ytapcdhagkbfccaa

namespace Go.Proofs.Ytapcdhagkbfccaa
open Go.RowKit

end Go.Proofs.Ytapcdhagkbfccaa
