/- Contracts: places, Depth. -/
import Derived.Test.YtojofbmpknpggaaG3g
import Derived.RangeFuncNested
import Derived.RangeFuncBound
import Derived.RangeFuncCalls
import Derived.RangeFuncLeaves
import Derived.Shelf.Abstract
import Derived.Shelf.RegionOpen
import Derived.OwnWalkIn
import Derived.TacticsInMore
import Derived.LoopNIn
import Derived.LoopIn
import Derived.Deep.RegionHeld3
import Derived.Deep.AppendLies
import Derived.Laws.EntriesVeiled
/- The iterator over the parts of a term: words. -/
namespace Go.Proofs.Ytojofbmpknpggaa
open Go.RowKit

/-- What lay below n₀ lies as it lay, and so do all cells beyond, but those of X. -/
structure KP (n₀ : Nat) (X : Nat → Obj → Prop) (W W' : World) : Prop where
  below : Below n₀ W W'
  keep : ∀ b o, n₀ ≤ b → W.heap[b]? = some o → o.isCells = true → ¬ X b o → W'.heap[b]? = some o
variable {n₀ m₀ : Nat} {X : Nat → Obj → Prop}
theorem KP.refl (W : World) : KP n₀ X W W := ⟨Below.refl _ _, fun _ _ _ h _ _ => h⟩
theorem KP.trans {A B C : World} (h : KP n₀ X A B) (k : KP n₀ X B C) : KP n₀ X A C :=
  ⟨h.below.trans k.below, fun b o hb ho hc hx => k.keep b o hb (h.keep b o hb ho hc hx) hc hx⟩
theorem KP.of_below {W W' : World} (h : Below W.heap.size W W') (hn : n₀ ≤ W.heap.size) : KP n₀ X W W' :=
  ⟨h.mono hn, fun b _o _ ho _ _ => (h.block b (Array.getElem?_eq_some_iff.1 ho).1).trans ho⟩
theorem KP.putObj {w : World} (hn : n₀ ≤ w.heap.size) (W : World) (l : Nat) (o o' : Obj) (hl : w.heap.size ≤ l) (h : W.heap[l]? = some o) (hc : o.isCells = false) : KP n₀ X W (W.putObj l o') := by
  refine ⟨(Below.refl n₀ W).grown (grownBy_putObj' W l o') (by have := (Array.getElem?_eq_some_iff.1 h).1; omega) (fun k e => by cases e; omega), fun b o2 _ ho2 hc2 _ => ?_⟩
  refine (World.putObj_heap_other ?_).trans ho2
  rintro rfl
  rw [h] at ho2
  cases ho2
  rw [hc] at hc2
  cases hc2
theorem KP.blk {W W' : World} {b : Nat} {t : TypeId} {cs : Array Value} (h : KP n₀ X W W') (hb : Blk W b t cs) (hn : n₀ ≤ b) (hx : ¬ X b (.cells cs t (0, 0))) : Blk W' b t cs := h.keep b _ hn hb rfl hx

/-- A part: its path, where it begins in its block, and its numbers. -/
abbrev It := List Nat × Nat × List Int
/-- What is handed to the loop: the path's slice; the part's capacity; the part. -/
structure Pt where
  A : Option Addr
  c : Nat
  cp : Nat
  it : It
def Pt.encs (bt : Nat) (x : Pt) : Array Value := #[.slice x.A x.it.1.length x.c, .slice (some ⟨bt, x.it.2.1, none⟩) x.it.2.2.length x.cp]

/-- The slice '.slice A p.length c' holds the path p, in a block of ints of its own. -/
def PathIn (m₀ : Nat) (X : Nat → Obj → Prop) (W : World) (A : Option Addr) (c : Nat) (p : List Nat) : Prop :=
  (p = [] ∧ A = none ∧ c = 0) ∨ (p ≠ [] ∧ ∃ b cs, A = some ⟨b, 0, none⟩ ∧ m₀ ≤ b ∧ Blk W b 3 cs ∧ ¬ X b (.cells cs 3 (0, 0)) ∧ ∀ j (h : j < p.length), cs[j]? = some (.int .i64 (p[j] : Nat)))
theorem PathIn.keep {W W' : World} {A : Option Addr} {c : Nat} {p : List Nat} (h : PathIn m₀ X W A c p) (hn : n₀ ≤ m₀) (hk : KP n₀ X W W') : PathIn m₀ X W' A c p := by
  rcases h with h | ⟨h1, b, cs, h2, h3, h4, h5, h6⟩
  · exact .inl h
  · exact .inr ⟨h1, b, cs, h2, h3, hk.blk h4 (by omega) h5, h5, h6⟩

def PartIn (W : World) (bt o : Nat) (zs : List Int) : Prop := ∀ j (h : j < zs.length), W.cell? ⟨bt, o + j, none⟩ = some (.int .i64 zs[j])
theorem PartIn.keep {W W' : World} {bt o : Nat} {zs : List Int} (h : PartIn W bt o zs) (hb : bt < n₀) (hk : KP n₀ X W W') : PartIn W' bt o zs :=
  fun j hj => (hk.below.cell (p := ⟨bt, o + j, none⟩) hb).trans (h j hj)
theorem PartIn.ints {W : World} {bt o : Nat} {zs : List Int} (h : PartIn W bt o zs) (hb : bt < W.heap.size) (hm : zs.length ≤ 1000000) : IntsAt W W.heap.size (some ⟨bt, o, none⟩) zs.length zs :=
  ⟨rfl, by omega, fun _ => ⟨bt, o, rfl, hb, h⟩⟩
theorem PartIn.arg {W : World} {bt o : Nat} {ss : Sg} {zs : List Int} {k : Nat} (h : PartIn W bt o zs) : PartIn W bt (o + pos ss zs k) (argL ss zs k) := by
  intro j hj
  have hj2 : pos ss zs k + j < zs.length := by
    unfold argL at hj
    rw [List.length_take, List.length_drop] at hj
    omega
  have := h (pos ss zs k + j) hj2
  rw [Nat.add_assoc, this]
  congr 2
  simp [argL]

/-- What a round may know of what it is handed. -/
structure PtIn (m₀ : Nat) (X : Nat → Obj → Prop) (ss : Sg) (bt : Nat) (W : World) (x : Pt) : Prop where
  path : PathIn m₀ X W x.A x.c x.it.1
  plen : x.it.1.length ≤ 1000
  part : PartIn W bt x.it.2.1 x.it.2.2
  len : 1 ≤ x.it.2.2.length ∧ x.it.2.2.length ≤ 60 ∧ x.it.2.2.length ≤ x.cp ∧ x.cp ≤ 9223372036854775807
  heads : HeadsOk ss x.it.2.2
  scan : scan ss 1 x.it.2.2 = some []
theorem PtIn.keep {ss : Sg} {bt : Nat} {W W' : World} {x : Pt} (h : PtIn m₀ X ss bt W x) (hn : n₀ ≤ m₀) (hb : bt < n₀) (hk : KP n₀ X W W') : PtIn m₀ X ss bt W' x :=
  ⟨h.path.keep hn hk, h.plen, h.part.keep hb hk, h.len, h.heads, h.scan⟩

def pv (k : Nat) : Value := .int .i64 (k : Int)
theorem PathIn.lt {W : World} {A : Option Addr} {c : Nat} {p : List Nat} (h : PathIn m₀ X W A c p) (hp : p ≠ []) : ∃ b cs, A = some ⟨b, 0, none⟩ ∧ b < W.heap.size ∧ Blk W b 3 cs ∧ ∀ j (h : j < p.length), cs[j]? = some (.int .i64 (p[j] : Nat)) := by
  rcases h with ⟨h, _⟩ | ⟨h1, b, cs, h2, h3, h4, h5, h6⟩
  · exact absurd h hp
  · exact ⟨b, cs, h2, h4.lt, h4, h6⟩
end Go.Proofs.Ytojofbmpknpggaa

/- The iterator over the parts of a term: the recursive closure. -/
namespace Go.Proofs.Ytojofbmpknpggaa
open Go.RowKit Go.Shelf
attribute [local go_sem] Oper.semAt_some

theorem room_any {F : Fence} (hd : F.depth = none) (k : Nat) : F.room k := fun d h => by rw [hd] at h; cases h
theorem YieldAt.any {F : Fence} (hd : F.depth = none) {m : Nat} (m' : Nat) {P : Program} {l : Nat} {args : Array Value} {W : World} {R : Ending → World → Prop} (h : YieldAt F m P l args W R) : YieldAt F m' P l args W R := by
  obtain ⟨fn, tmps, assign, body, hy, hR⟩ := h
  exact ⟨fn, tmps, assign, body, hy, ⟨hR.1, fun c cs _ => hR.2 c cs (room_any hd _)⟩⟩

end Go.Proofs.Ytojofbmpknpggaa

/- The iterator over the parts of a term: the outer closure; places. -/
namespace Go.Proofs.Ytojofbmpknpggaa
open Go.RowKit Go.Shelf
attribute [local go_sem] Oper.semAt_some

end Go.Proofs.Ytojofbmpknpggaa

/- A range over the iterator whose body never leaves the loop and is told something of what it is handed, in the world at hand. -/
namespace Go.Proofs.Ytojofbmpknpggaa
open Go.RowKit Go.Shelf

theorem grown_of_below {A B : World} (h : Below A.heap.size A B) : A.grownBy B none := ⟨h.os, h.tape, h.output, h.size, fun k hk _ => h.block k hk⟩

end Go.Proofs.Ytojofbmpknpggaa

namespace Go.Proofs.Ytojofbmpknpggaa
open Go.RowKit Go.Shelf
attribute [local go_sem] Oper.semAt_some

end Go.Proofs.Ytojofbmpknpggaa
