/- Arguments opened: slices of terms, with their capacities. -/
import Derived.Test.YtapcdhagkbfccaaK8g
import Derived.Test.YtapcdhagkbfccaaB4g
namespace Go.Proofs.Ytapcdhagkbfccaa
open Go.ChangeShapes Go.WideShapes Go.ChangeAt Go.RowKit Go.Deep

/-- What is read as a slice of terms is one; each term lies within its capacity. -/
theorem read_termsk {H : Type} {enc : TypeId × Value → H} {w : World} {base : Nat} {spare : Nat → Bool} {held : Bool} {fuel : Nat} {v : Value} {x : DataW H × List MemPlace} (h : DataW.trod enc Try.prog w base spare held fuel 46 [v] = some x) :
    ∃ A n c ls tt, v = .slice A n c ∧ TermsAt w w.heap.size A n ls tt ∧ (n ≤ c ∧ c ≤ 9223372036854775807) ∧ ∀ x ∈ ls, capOk x := by
  rcases open_slice1 Try.underlying46 cells_term h with ⟨hcs, _⟩ | ⟨a, len, cap, m, n, V, D, Pl, hcs, _, hl, hm, hmm, _, hi⟩
  · simp only [List.cons.injEq, and_true] at hcs
    exact ⟨none, 0, 0, [], [], hcs, ⟨⟨rfl, by omega, fun h => absurd h (by omega)⟩, rfl, fun j hj => by simp at hj⟩, by omega, fun x hx => by simp at hx⟩
  · simp only [List.cons.injEq, and_true] at hcs
    unfold maxLen at hm
    have hlm : len ≤ m := by rw [hmm]; split <;> omega
    by_cases h0 : len = 0
    · subst h0
      exact ⟨some a, 0, cap, [], [], hcs, ⟨⟨rfl, by omega, fun h => absurd h (by omega)⟩, rfl, fun j hj => by simp at hj⟩, by omega, fun x hx => by simp at hx⟩
    · have each : ∀ i, i < len → ∃ p : Hd × List Int, w.cell? (a.add i) = some (.slice p.1.1 p.1.2.1 p.1.2.2) ∧ IntsAt w w.heap.size p.1.1 p.1.2.1 p.2 ∧ capOk p.1 := by
        intro i hil
        obtain ⟨hc, ht⟩ := hi i (by omega)
        obtain ⟨A', n', c', zs, e, hI, hk1, hk2, _⟩ := read_ints Try.underlying25 ht
        exact ⟨((A', n', c'), zs), by rw [hc, e], hI, hk1, hk2⟩
      obtain ⟨b, off, spot⟩ := a
      obtain ⟨p0, q0, _⟩ := each 0 (by omega)
      have hspot : spot = none := by simpa [Addr.add] using World.cell?_spot q0
      subst hspot
      have hblt : b < w.heap.size := by
        have := World.block_lt_of_cell? w _ q0
        simpa [Addr.add] using this
      obtain ⟨l, hll, hlp⟩ := list_of _ len each
      refine ⟨some ⟨b, off, none⟩, len, cap, l.map (·.1), l.map (·.2), hcs, ⟨⟨by simp [hll], by omega, fun _ => ⟨b, off, rfl, hblt, fun j hj => ?_⟩⟩, by simp [hll], fun j hj hj' => ?_⟩, by omega, fun x hx => ?_⟩
      · have hj2 : j < l.length := by simpa using hj
        have := (hlp j hj2).1
        rw [add0] at this
        simpa using this
      · have hj2 : j < l.length := by simpa using hj
        have := (hlp j hj2).2.1
        simpa using this
      · obtain ⟨p, hp, rfl⟩ := List.mem_map.1 hx
        obtain ⟨j, hj, rfl⟩ := List.mem_iff_getElem.1 hp
        exact (hlp j hj).2.2

end Go.Proofs.Ytapcdhagkbfccaa
