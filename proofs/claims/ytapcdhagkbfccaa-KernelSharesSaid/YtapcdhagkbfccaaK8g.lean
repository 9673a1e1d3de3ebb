/- Arguments opened: a pair of binds and a term; three lists of binds. -/
import Derived.Test.YtapcdhagkbfccaaO3g
import Derived.Test.YtapcdhagkbfccaaC1g
import Derived.ProofKit
import Derived.OpenShut
import Derived.ChangeOld
import Derived.Deep.Slices
import Derived.Deep.Fields
import Derived.ChangeSame
import Derived.Test.YtapcdhagkbfccaaN2g
/- Arguments opened: slices of ints, signs. -/
namespace Go.Proofs.Ytapcdhagkbfccaa
open Go.ChangeShapes Go.WideShapes Go.ChangeAt Go.RowKit Go.Deep

theorem own : ownKnob Try.prog.godebug = none := by kernel_rfl
theorem laidOut : laidOutB Try.prog = true := by kernel_rfl

theorem cells_int : Try.prog.cellsOf 3 = 1 := by kernel_rfl
theorem cells_term : Try.prog.cellsOf 25 = 1 := by kernel_rfl

section
variable {H : Type} {enc : TypeId × Value → H} {w : World} {base : Nat} {spare : Nat → Bool} {held : Bool}

/-- What is read as a slice of ints is one. -/
theorem read_ints {T fuel : Nat} {v : Value} {x : DataW H × List MemPlace} (hT : Try.prog.underlying T = some (.slice 3)) (h : DataW.trod enc Try.prog w base spare held fuel T [v] = some x) :
    ∃ A n c zs, v = .slice A n c ∧ IntsAt w w.heap.size A n zs ∧ n ≤ c ∧ c ≤ 9223372036854775807 ∧ ∀ z ∈ zs, (Lit.int .i64 z).wf = true := by
  rcases open_ints hT Try.underlying3 cells_int h with ⟨hcs, _⟩ | ⟨a, len, cap, zs, hcs, _, hl, hm, hz, _, hcell, hwz⟩
  · simp only [List.cons.injEq, and_true] at hcs
    exact ⟨none, 0, 0, [], hcs, ⟨rfl, by omega, fun h => absurd h (by omega)⟩, Nat.le_refl _, by omega, by simp⟩
  · simp only [List.cons.injEq, and_true] at hcs
    unfold maxLen at hm
    have hlz : len ≤ zs.length := by rw [hz]; split <;> omega
    refine ⟨some a, len, cap, zs.take len, hcs, ⟨by rw [List.length_take]; omega, by omega, fun hn => ?_⟩, hl, by omega, fun z hz' => hwz z (List.mem_of_mem_take hz')⟩
    obtain ⟨b, off, spot⟩ := a
    have c0 := hcell 0 (by omega)
    have hspot : spot = none := by simpa [Addr.add] using World.cell?_spot c0
    subst hspot
    refine ⟨b, off, rfl, ?_, fun j hj => ?_⟩
    · have := World.block_lt_of_cell? w _ c0
      simpa [Addr.add] using this
    · have hj' : j < zs.length := by rw [List.length_take] at hj; omega
      have := hcell j hj'
      rw [add0] at this
      rw [this, List.getElem_take]
      simp [hj']
end
end Go.Proofs.Ytapcdhagkbfccaa

/- Arguments opened: signs. -/
namespace Go.Proofs.Ytapcdhagkbfccaa
open Go.ChangeShapes Go.WideShapes Go.ChangeAt Go.RowKit Go.Deep

theorem cells_sym : Try.prog.cellsOf 81 = 2 := by kernel_rfl
theorem cells_str : Try.prog.cellsOf 9 = 1 := by kernel_rfl

theorem list_of {α : Type} (P : Nat → α → Prop) : ∀ (n : Nat), (∀ i, i < n → ∃ x, P i x) → ∃ l : List α, l.length = n ∧ ∀ i (h : i < l.length), P i l[i]
  | 0, _ => ⟨[], rfl, fun i h => by simp at h⟩
  | n + 1, h => by
    obtain ⟨l, hl, hp⟩ := list_of P n (fun i hi => h i (by omega))
    obtain ⟨x, hx⟩ := h n (by omega)
    refine ⟨l ++ [x], by simp [hl], fun i hi => ?_⟩
    by_cases hlt : i < l.length
    · rw [List.getElem_append_left hlt]; exact hp i hlt
    · have : i = l.length := by simp at hi; omega
      subst this
      simp only [List.getElem_append_right (Nat.le_refl _), Nat.sub_self, List.getElem_cons_zero]
      rw [hl]; exact hx

section
variable {H : Type} {enc : TypeId × Value → H} {w : World} {base : Nat} {spare : Nat → Bool} {held : Bool}

set_option maxRecDepth 100000 in
theorem read_sym {fuel : Nat} {cs : List Value} {x : DataW H × List MemPlace} (h : DataW.trod enc Try.prog w base spare held fuel 81 cs = some x) : ∃ (s : ByteArray) (a : Int), cs = [.string s, .int .i64 a] ∧ s.size ≤ maxLen := by
  obtain ⟨ys, n, _, _, hl, hyl, hf⟩ := DataW.trod_struct Try.underlying81 h
  rw [cells_sym] at hl
  match cs, hl, ys, hyl with
  | [c0, c1], _, [y0, y1], _ =>
    have f0 : DataW.trod enc Try.prog w base spare held n 9 (([c0, c1].drop 0).take (Try.prog.cellsOf 9)) = some y0 := hf 0 _ rfl
    have f1 : DataW.trod enc Try.prog w base spare held n 3 (([c0, c1].drop 1).take (Try.prog.cellsOf 3)) = some y1 := hf 1 _ rfl
    rw [cells_str] at f0
    rw [cells_int] at f1
    obtain ⟨s, h0, _, hs⟩ := DataW.trod_string Try.underlying9 f0
    obtain ⟨a, h1, _, _⟩ := DataW.trod_int Try.underlying3 f1
    have h0' : [c0] = [Value.string s] := h0
    have h1' : [c1] = [Value.int .i64 a] := h1
    simp only [List.cons.injEq, and_true] at h0' h1'
    exact ⟨s, a, by rw [h0', h1'], hs⟩

theorem addadd (b off i j : Nat) : ((⟨b, off, none⟩ : Addr).add i).add j = ⟨b, off + i + j, none⟩ := by rw [add0, add0]

/-- What is read as a sign is one. -/
theorem read_sign {fuel : Nat} {v : Value} {x : DataW H × List MemPlace} (h : DataW.trod enc Try.prog w base spare held fuel 23 [v] = some x) :
    ∃ A n c ss, v = .slice A n c ∧ SigAt w w.heap.size A n ss := by
  rcases open_slice Try.underlying23 h with ⟨hcs, _⟩ | ⟨a, len, cap, m, n, D, Pl, hcs, _, hl, hm, hmm, _, hi⟩
  · simp only [List.cons.injEq, and_true] at hcs
    exact ⟨none, 0, 0, [], hcs, ⟨rfl, by simp, by omega, fun h => absurd h (by omega)⟩⟩
  · simp only [List.cons.injEq, and_true] at hcs
    unfold maxLen at hm
    have hlm : len ≤ m := by rw [hmm]; split <;> omega
    by_cases h0 : len = 0
    · subst h0
      exact ⟨some a, 0, cap, [], hcs, ⟨rfl, by simp, by omega, fun h => absurd h (by omega)⟩⟩
    · have each : ∀ i, i < len → ∃ p : ByteArray × Int, w.cell? ((a.add (i * 2)).add 0) = some (.string p.1) ∧ w.cell? ((a.add (i * 2)).add 1) = some (.int .i64 p.2) ∧ p.1.size ≤ maxLen := by
        intro i hil
        obtain ⟨cs', hc, ht⟩ := hi i (by omega)
        rw [cells_sym] at hc
        obtain ⟨_, hcl, hat⟩ := World.cells?_some hc
        obtain ⟨s, ar, rfl, hs⟩ := read_sym ht
        exact ⟨(s, ar), hat 0 (by omega), hat 1 (by omega), hs⟩
      obtain ⟨b, off, spot⟩ := a
      obtain ⟨p0, q0, _⟩ := each 0 (by omega)
      have hspot : spot = none := by simpa [Addr.add] using World.cell?_spot q0
      subst hspot
      have hblt : b < w.heap.size := by
        have := World.block_lt_of_cell? w _ q0
        simpa [Addr.add] using this
      obtain ⟨ss, hsl, hss⟩ := list_of _ len each
      refine ⟨some ⟨b, off, none⟩, len, cap, ss, hcs, ⟨hsl.symm, fun y hy => ?_, by omega, fun _ => ⟨b, off, rfl, hblt, ⟨fun j hj => ?_, fun j hj => ?_⟩⟩⟩⟩
      · obtain ⟨i, hi', rfl⟩ := List.mem_iff_getElem.1 hy
        exact (hss i hi').2.2
      · have := (hss j hj).1
        rw [addadd, Nat.add_zero] at this
        exact this
      · have := (hss j hj).2.1
        rw [addadd] at this
        exact this
end
end Go.Proofs.Ytapcdhagkbfccaa

/- Arguments opened: slices of binds. -/
namespace Go.Proofs.Ytapcdhagkbfccaa
open Go.ChangeShapes Go.WideShapes Go.ChangeAt Go.RowKit Go.Deep

section
variable {H : Type} {enc : TypeId × Value → H} {w : World} {base : Nat} {spare : Nat → Bool} {held : Bool}

end
end Go.Proofs.Ytapcdhagkbfccaa

namespace Go.Proofs.Ytapcdhagkbfccaa
open Go.ChangeShapes Go.WideShapes Go.ChangeAt Go.RowKit Go.Deep

section
variable {H : Type} {enc : TypeId × Value → H} {w : World} {base : Nat} {spare : Nat → Bool} {held : Bool} {v : Value} {d : DataW H} {p : List MemPlace}

end

end Go.Proofs.Ytapcdhagkbfccaa
