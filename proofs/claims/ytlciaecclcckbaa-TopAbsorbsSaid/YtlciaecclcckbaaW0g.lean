/- Words: the statements' own sign in memory. -/
import Derived.Test.YtlciaecclcckbaaQ1g
import Derived.Test.YtlciaecclcckbaaR3g
namespace Go.Proofs.Ytlciaecclcckbaa
open Go.RowKit

def sgCN : Sg := [(⟨#[67]⟩, 2), (⟨#[78]⟩, 1)]
def cellsCN : Array Value := #[.string ⟨#[67]⟩, .int .i64 2, .string ⟨#[78]⟩, .int .i64 1]
theorem sig_of_blk {W : World} {b : Nat} (h : Blk W b 64 cellsCN) : SigAt W W.heap.size (some ⟨b, 0, none⟩) 2 sgCN := by
  refine ⟨rfl, ?_, by omega, fun _ => ⟨b, 0, rfl, h.lt, ⟨?_, ?_⟩⟩⟩
  · intro x hx
    simp only [sgCN, List.mem_cons, List.not_mem_nil, or_false] at hx
    rcases hx with rfl | rfl <;> (show (1 : Nat) ≤ maxLen; unfold maxLen; omega)
  · intro j hj
    rw [h.cell]
    match j, hj with
    | 0, _ => rfl
    | 1, _ => rfl
  · intro j hj
    rw [h.cell]
    match j, hj with
    | 0, _ => rfl
    | 1, _ => rfl
theorem ints_of_blk {W : World} {b : Nat} (zs : List Int) (n : Nat) (cs : Array Value) (hcs : cs = (zs.map (Value.int .i64)).toArray) (h : Blk W b 3 cs) (hn : n = zs.length) (hm : zs.length ≤ 1000000) : IntsAt W W.heap.size (some ⟨b, 0, none⟩) n zs := by
  subst hcs
  exact IntsAt.of_blk h hn hm

end Go.Proofs.Ytlciaecclcckbaa
