/- Contracts: the reference's Match, Instance. -/
import Derived.Test.YtippmpcaongolaaN20g
import Derived.Test.YtippmpcaongolaaN24g
/- Contract: the reference's matched. -/
namespace Go.Proofs.Ytippmpcaongolaa
open Go.RowKit
attribute [local go_sem] eql_nil0 eql_nil1 neq_nil0 neq_nil1

theorem KeepE.old {w w' : World} {d : Nat} (h : Below w.heap.size w w') : KeepE (fun b => b < w.heap.size ∧ b ≠ d) w w' := KeepE.of_below h (fun _ h => h.1)
theorem KeepE.next {w w1 w2 : World} {d : Nat} (h : KeepE (fun b => b < w.heap.size ∧ b ≠ d) w w1) (k : KeepE (fun b => b < w1.heap.size ∧ b ≠ d) w1 w2) : KeepE (fun b => b < w.heap.size ∧ b ≠ d) w w2 := h.trans (k.mono fun _ hb => ⟨Nat.lt_of_lt_of_le hb.1 h.size, hb.2⟩)
theorem KeepE.put {w w' : World} {d j : Nat} {u : Value} (h : KeepE (fun b => b < w.heap.size ∧ b ≠ d) w w') : KeepE (fun b => b < w.heap.size ∧ b ≠ d) w (w'.setCell ⟨d, j, none⟩ u) := h.trans (KeepE.set (p := ⟨d, j, none⟩) (fun h => h.2 rfl) u)
theorem KeepE.low {w w' : World} {d : Nat} (h : KeepE (fun b => b < w.heap.size ∧ b ≠ d) w w') (hd : d ≤ w.heap.size) : Below d w w' := h.below (fun b hb => ⟨by omega, by omega⟩)
end Go.Proofs.Ytippmpcaongolaa

namespace Go.Proofs.Ytippmpcaongolaa
open Go.RowKit
attribute [local go_sem] eql_nil0 eql_nil1 neq_nil0 neq_nil1

end Go.Proofs.Ytippmpcaongolaa
