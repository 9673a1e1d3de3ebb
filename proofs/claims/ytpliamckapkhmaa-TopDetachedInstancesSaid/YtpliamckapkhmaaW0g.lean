/- Words: the statements' own sign in memory. -/
import Derived.Test.YtpliamckapkhmaaR3g
import Derived.Deep.QuietTactic
import Derived.BigQuiet
/- Contract: the reference's Same. -/
namespace Go.Proofs.Ytpliamckapkhmaa
open Go.RowKit

/-- The two lists agree on their first k numbers. -/
def Agree (xs ys : List Int) (k : Nat) : Prop := xs.take k = ys.take k
theorem Agree.zero (xs ys : List Int) : Agree xs ys 0 := by simp [Agree]
theorem Agree.succ {xs ys : List Int} {k : Nat} (h : Agree xs ys k) (h1 : k < xs.length) (h2 : k < ys.length) (e : xs[k] = ys[k]) : Agree xs ys (k + 1) := by
  unfold Agree at h ⊢
  rw [List.take_succ_eq_append_getElem h1, List.take_succ_eq_append_getElem h2, h, e]
theorem Agree.bad {xs ys : List Int} {k : Nat} (h1 : k < xs.length) (h2 : k < ys.length) (e : xs[k] ≠ ys[k]) : decide (xs = ys) = false := by
  rw [decide_eq_false]
  rintro rfl
  exact e rfl
theorem Agree.good {xs ys : List Int} (h : Agree xs ys xs.length) (hl : xs.length = ys.length) : decide (xs = ys) = true := by
  unfold Agree at h
  rw [List.take_length, hl, List.take_length] at h
  simpa using h
theorem len_ne {xs ys : List Int} (h : xs.length ≠ ys.length) : decide (xs = ys) = false := by
  rw [decide_eq_false]
  rintro rfl
  exact h rfl

theorem IntsAt.cellAt {w : World} {B : Nat} {A : Option Addr} {n : Nat} {zs : List Int} (h : IntsAt w B A n zs) {k : Nat} (hk : k < n) : ∃ b off z, A = some ⟨b, off, none⟩ ∧ w.cell? ⟨b, off + k, none⟩ = some (.int .i64 z) ∧ ∃ hk' : k < zs.length, zs[k] = z := by
  obtain ⟨b, off, e, _, hc⟩ := h.mem (by omega)
  have hk' : k < zs.length := by rw [← h.len]; exact hk
  exact ⟨b, off, zs[k], e, hc k hk', hk', rfl⟩

end Go.Proofs.Ytpliamckapkhmaa

/- Words: what is read goes up with the worlds; Same of equal lists. -/
namespace Go.Proofs.Ytpliamckapkhmaa
open Go.RowKit

theorem SigAt.up {w w' : World} {n : Nat} {A : Option Addr} {ss : Sg} (h : SigAt w w.heap.size A n ss) (hb : Below w.heap.size w w') : SigAt w' w'.heap.size A n ss := (h.below hb).more hb.size
theorem IntsAt.up {w w' : World} {n : Nat} {A : Option Addr} {zs : List Int} (h : IntsAt w w.heap.size A n zs) (hb : Below w.heap.size w w') : IntsAt w' w'.heap.size A n zs := (h.below hb).more hb.size
theorem below_then {a b c : World} (h : Below a.heap.size a b) (k : Below b.heap.size b c) : Below a.heap.size a c := h.trans (k.mono h.size)

end Go.Proofs.Ytpliamckapkhmaa

namespace Go.Proofs.Ytpliamckapkhmaa
open Go.RowKit

def sgCN : Sg := [(⟨#[67]⟩, 2), (⟨#[78]⟩, 1)]
def cellsCN : Array Value := #[.string ⟨#[67]⟩, .int .i64 2, .string ⟨#[78]⟩, .int .i64 1]
theorem sig_of_blk {W : World} {b : Nat} (h : Blk W b 66 cellsCN) : SigAt W W.heap.size (some ⟨b, 0, none⟩) 2 sgCN := by
  refine ⟨rfl, ?_, by omega, fun _ => ⟨b, 0, rfl, h.lt, ⟨?_, ?_⟩⟩⟩
  · intro x hx
    simp only [sgCN, List.mem_cons, List.not_mem_nil, or_false] at hx
    rcases hx with rfl | rfl <;> (show (1 : Nat) ≤ maxLen; unfold maxLen; omega)
  · intro j hj
    rw [h.cell]
    match j, hj with
    | 0, _ => rfl
    | 1, _ => rfl
  · intro j hj
    rw [h.cell]
    match j, hj with
    | 0, _ => rfl
    | 1, _ => rfl
theorem ints_of_blk {W : World} {b : Nat} (zs : List Int) (n : Nat) (cs : Array Value) (hcs : cs = (zs.map (Value.int .i64)).toArray) (h : Blk W b 3 cs) (hn : n = zs.length) (hm : zs.length ≤ 1000000) : IntsAt W W.heap.size (some ⟨b, 0, none⟩) n zs := by
  subst hcs
  exact IntsAt.of_blk h hn hm

end Go.Proofs.Ytpliamckapkhmaa
