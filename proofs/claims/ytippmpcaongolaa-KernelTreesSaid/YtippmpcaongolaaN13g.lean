/- Contracts: Apply, Occurs. -/
import Derived.Test.YtippmpcaongolaaN8g
/- Contracts: the reference's Of, Solved, Renaming; few. -/
namespace Go.Proofs.Ytippmpcaongolaa
open Go.RowKit

/-- A list of numbers handed back. -/
def RetL (w : World) (zs : List Int) : Ending → World → Prop := fun e w' => ∃ A n c, e = .returned (.slice A n c) ∧ IntsAt w' w'.heap.size A n zs ∧ Below w.heap.size w w'

end Go.Proofs.Ytippmpcaongolaa

/- Contract: the reference's Renaming. -/
namespace Go.Proofs.Ytippmpcaongolaa
open Go.RowKit

end Go.Proofs.Ytippmpcaongolaa

/- Contracts: the reference's Applied, Apply, Occurs. -/
namespace Go.Proofs.Ytippmpcaongolaa
open Go.RowKit

/-- A list of numbers handed back in memory of the call's own. -/
def RetOwn (w : World) (zs : List Int) : Ending → World → Prop := fun e w' => ∃ v base, e = .returned v ∧ w.heap.size ≤ base ∧ w'.ownsRow base 3 1 v zs.length (zs.map (Value.int .i64)) ∧ Below w.heap.size w w'
theorem RetOwn.list {w w' : World} {zs : List Int} {e : Ending} (hn : zs.length ≤ 1000000) (h : RetOwn w zs e w') : RetL w zs e w' := by
  obtain ⟨v, base, rfl, _, hrow, hB⟩ := h
  obtain ⟨A, c, rfl, hI⟩ := row_ints hrow hn
  exact ⟨A, _, c, rfl, hI, hB⟩

/-- What Apply hands back. -/
def applZ (ss : Sg) (bb : List Bd) (zs : List Int) : List Int × Int := if (bindsOk ss bb && valOk ss zs) = true then (if (appl bb zs).length ≤ 60 then (appl bb zs, 0) else ([], 4)) else ([], 1)
end Go.Proofs.Ytippmpcaongolaa

/- Contract: applied. -/
namespace Go.Proofs.Ytippmpcaongolaa
open Go.RowKit Go.Shelf
attribute [local go_sem] Oper.semAt_some

/-- What the first k variables become lies, by its headers, in the block. -/
def ImgAt (W : World) (d : Nat) (bb : List Bd) (k : Nat) : Prop :=
  ∃ hs : List Hd, Blk W d 87 (hs.map fun h => Value.slice h.1 h.2.1 h.2.2).toArray ∧ hs.length = 12 ∧ ∀ j (h : j < hs.length), j < k → IntsAt W W.heap.size hs[j].1 hs[j].2.1 (ofB bb (j : Int))
theorem ints_set_blk {W : World} {d j n B : Nat} {T : TypeId} {hs : List Hd} {A : Option Addr} {t : List Int} {v : Value} (hk : Blk W d T (hs.map fun h => Value.slice h.1 h.2.1 h.2.2).toArray) (h : IntsAt W B A n t) : IntsAt (W.setCell ⟨d, j, none⟩ v) B A n t := by
  refine ⟨h.len, h.max, fun hn => ?_⟩
  obtain ⟨b, off, e, hb, hc⟩ := h.mem hn
  refine ⟨b, off, e, hb, fun i hi => (World.cell?_setCell_other W ⟨d, j, none⟩ ⟨b, off + i, none⟩ v (fun e2 => ?_)).trans (hc i hi)⟩
  have e3 : b = d := by cases e2; rfl
  subst e3
  have h1 := hc i hi
  rw [hk.cell] at h1
  simp only [List.getElem?_toArray, List.getElem?_map] at h1
  cases h2 : hs[off + i]? with
  | none => rw [h2] at h1; cases h1
  | some x => rw [h2] at h1; cases h1
theorem ImgAt.below {W W' : World} {d k : Nat} {bb : List Bd} (h : ImgAt W d bb k) (hb : Below W.heap.size W W') : ImgAt W' d bb k := by
  obtain ⟨hs, h1, h2, h3⟩ := h
  exact ⟨hs, h1.below hb h1.lt, h2, fun j hj hjk => (h3 j hj hjk).up hb⟩
/-- What the rounds of applied keep. -/
def IImg (w : World) (d : Nat) (Ab : Option Addr) (n c : Nat) (bb : List Bd) (k : Nat) (W : World) : Prop :=
  ImgAt W d bb k ∧ Blk W (d + 1) 28 #[.slice Ab n c] ∧ Below w.heap.size w W
theorem IImg.own {w : World} {d B n c : Nat} {Ab : Option Addr} {bb : List Bd} (hB : w.heap.size ≤ B) : OwnFrom B (IImg w d Ab n c bb) := by
  rintro k W W' row ⟨⟨hs, h1, h2, h3⟩, h5, h7⟩ hg hr
  have hr' := fun r e => (hr r e).2
  refine ⟨⟨hs, (grownBy_keeps_cells hg hr' h1 rfl).trans h1, h2, fun j hj hjk => ?_⟩, (grownBy_keeps_cells hg hr' h5 rfl).trans h5, below_grown h7 hg hr hB⟩
  have hx := h3 j hj hjk
  refine ⟨hx.len, hx.max, fun hn => ?_⟩
  obtain ⟨b, off, e, hb, hc⟩ := hx.mem hn
  exact ⟨b, off, e, Nat.lt_of_lt_of_le hb hg.size, fun i hi => cell_kept (hc i hi) hg hr'⟩

end Go.Proofs.Ytippmpcaongolaa

namespace Go.Proofs.Ytippmpcaongolaa
open Go.RowKit

end Go.Proofs.Ytippmpcaongolaa
