/- Contract: the statements' own 'Small'. -/
import Derived.Test.YtippmpcaongolaaW0g
namespace Go.Proofs.Ytippmpcaongolaa
open Go.RowKit

/-- A slice's header. -/
abbrev Hd := Option Addr × Nat × Nat
def Hd.val (x : Hd) : Value := .slice x.1 x.2.1 x.2.2
/-- The slice value '.slice A n c' holds the slices ls. -/
structure HdsAt (w : World) (B : Nat) (A : Option Addr) (n : Nat) (ls : List Hd) : Prop where
  len : n = ls.length
  max : n ≤ 9223372036854775807
  mem : 0 < n → ∃ b off, A = some ⟨b, off, none⟩ ∧ b < B ∧ ∀ j (h : j < ls.length), w.cell? ⟨b, off + j, none⟩ = some (.slice ls[j].1 ls[j].2.1 ls[j].2.2)
theorem HdsAt.keep {w w' : World} {B : Nat} {A : Option Addr} {n : Nat} {ls : List Hd} (h : HdsAt w B A n ls) (hk : ∀ p : Addr, p.block < B → w'.cell? p = w.cell? p) : HdsAt w' B A n ls :=
  ⟨h.len, h.max, fun hn => by
    obtain ⟨b, off, e, hb, hs⟩ := h.mem hn
    exact ⟨b, off, e, hb, fun j hj => (hk _ hb).trans (hs j hj)⟩⟩
theorem HdsAt.more {w : World} {B B' : Nat} {A : Option Addr} {n : Nat} {ls : List Hd} (h : HdsAt w B A n ls) (hB : B ≤ B') : HdsAt w B' A n ls :=
  ⟨h.len, h.max, fun hn => by
    obtain ⟨b, off, e, hb, hs⟩ := h.mem hn
    exact ⟨b, off, e, by omega, hs⟩⟩
theorem HdsAt.below {w w' : World} {B : Nat} {A : Option Addr} {n : Nat} {ls : List Hd} (h : HdsAt w B A n ls) (hb : Below B w w') : HdsAt w' B A n ls := h.keep fun _ hp => hb.cell hp
theorem HdsAt.of_blk {w : World} {b : Nat} (ls : List Hd) {n : Nat} {cs : Array Value} (h : Blk w b 25 cs) (hcs : cs = (ls.map Hd.val).toArray) (hn : n = ls.length) (hm : ls.length ≤ 1000000) : HdsAt w w.heap.size (some ⟨b, 0, none⟩) n ls :=
  ⟨hn, by omega, fun _ => ⟨b, 0, rfl, h.lt, fun j hj => by
    rw [h.cell, hcs]
    simp [hj, Hd.val]⟩⟩

end Go.Proofs.Ytippmpcaongolaa
