/- The kernel's fit: what lies there while fitted goes over the numbers from the last one. -/
import Derived.Test.YtpliamckapkhmaaRRg
import Derived.Test.YtpliamckapkhmaaKFg
import Derived.Test.YtpliamckapkhmaaN13g
namespace Go.Proofs.Ytpliamckapkhmaa
open Go.RowKit

/-- What lies there: behind each part lb, for each part lp. -/
structure IFitB (w : World) (fb g gb gp dx : Nat) (As : Option Addr) (ns cs c N : Nat) (ss : Sg) (nums : List Int) (lb lp : List Nat) (W : World) : Prop where
  kF : Blk W fb 117 #[.slice As ns cs, .slice (some ⟨g, 0, none⟩) N c, .slice (some ⟨gb, 0, none⟩) N N, .slice (some ⟨gp, 0, none⟩) N N]
  kC : Blk W (fb + 1) 113 #[.pointer (some ⟨fb, 0, none⟩)]
  kN : ∀ (i : Nat) (x : Int), nums[i]? = some x → W.cell? ⟨g, i, none⟩ = some (.int .i64 x)
  kB : Blk W gb 3 (natV lb).toArray
  kP : Blk W gp 3 (natV lp).toArray
  kS : SigAt W w.heap.size As ns ss
  kX : Blk W dx 24 #[.slice (some ⟨g, 0, none⟩) N c]
  kW : Below w.heap.size w W
/-- Behind k rounds. -/
def IFit (w : World) (fb g gb gp dx : Nat) (As : Option Addr) (ns cs c N : Nat) (ss : Sg) (nums : List Int) (k : Nat) (W : World) : Prop := IFitB w fb g gb gp dx As ns cs c N ss nums (endL (kbF ss nums) k) (endL (kpF nums) k) W
theorem IFit.own {w : World} {fb g gb gp dx ns cs c N B : Nat} {As : Option Addr} {ss : Sg} {nums : List Int} (hB : w.heap.size ≤ B) : OwnFrom B (IFit w fb g gb gp dx As ns cs c N ss nums) := by
  rintro k W W' row ⟨h1, h2, h3, h4, h5, h6, h7, h8⟩ hg hr
  have hr' := fun r e => (hr r e).2
  refine ⟨(grownBy_keeps_cells hg hr' h1 rfl).trans h1, (grownBy_keeps_cells hg hr' h2 rfl).trans h2, fun i x hi => cell_kept (h3 i x hi) hg hr', (grownBy_keeps_cells hg hr' h4 rfl).trans h4, (grownBy_keeps_cells hg hr' h5 rfl).trans h5, ⟨h6.len, h6.fit, h6.max, fun hn => ?_⟩, (grownBy_keeps_cells hg hr' h7 rfl).trans h7, below_grown h8 hg hr hB⟩
  obtain ⟨b, off, e, hb, hs⟩ := h6.mem hn
  exact ⟨b, off, e, hb, ⟨fun j hj => cell_kept (hs.name j hj) hg hr', fun j hj => cell_kept (hs.ar j hj) hg hr'⟩⟩
theorem IFitB.up {w W W' : World} {fb g gb gp dx ns cs c N : Nat} {As : Option Addr} {ss : Sg} {nums : List Int} {lb lp : List Nat} (h : IFitB w fb g gb gp dx As ns cs c N ss nums lb lp W) (hb : Below W.heap.size W W') : IFitB w fb g gb gp dx As ns cs c N ss nums lb lp W' :=
  ⟨h.kF.below hb h.kF.lt, h.kC.below hb h.kC.lt, fun i x hi => (hb.cell (p := ⟨g, i, none⟩) (World.block_lt_of_cell? W _ (h.kN i x hi))).trans (h.kN i x hi), h.kB.below hb h.kB.lt, h.kP.below hb h.kP.lt, h.kS.below (hb.mono h.kW.size), h.kX.below hb h.kX.lt, below_then h.kW hb⟩
/-- A store behind a part. -/
theorem IFitB.setB {w W : World} {fb g gb gp dx ns cs c N : Nat} {As : Option Addr} {ss : Sg} {nums : List Int} {lb lp : List Nat} (h : IFitB w fb g gb gp dx As ns cs c N ss nums lb lp W) (hne : fb ≠ gb ∧ fb + 1 ≠ gb ∧ g ≠ gb ∧ gp ≠ gb ∧ dx ≠ gb) (hw : w.heap.size ≤ gb) (p q : Nat) : IFitB w fb g gb gp dx As ns cs c N ss nums (lb.set p q) lp (W.setCell ⟨gb, p, none⟩ (.int .i64 (q : Int))) := by
  refine ⟨h.kF.far hne.1 _, h.kC.far hne.2.1 _, fun i x hi => ?_, ?_, h.kP.far hne.2.2.2.1 _, h.kS.keep fun a ha => World.cell?_setCell_far W ⟨gb, p, none⟩ a _ (fun e => by have e2 : gb = a.block := e; omega), h.kX.far hne.2.2.2.2 _, h.kW.setCell (p := ⟨gb, p, none⟩) hw _⟩
  · exact (World.cell?_setCell_far W ⟨gb, p, none⟩ ⟨g, i, none⟩ _ (fun e => hne.2.2.1 e.symm)).trans (h.kN i x hi)
  · have := h.kB.set_ p (.int .i64 (q : Int))
    have e : (natV lb).toArray.setIfInBounds p (.int .i64 (q : Int)) = (natV (lb.set p q)).toArray := by
      unfold natV
      rw [List.setIfInBounds_toArray, List.map_set]
    rw [e] at this
    exact this
/-- A store of what a part becomes. -/
theorem IFitB.setP {w W : World} {fb g gb gp dx ns cs c N : Nat} {As : Option Addr} {ss : Sg} {nums : List Int} {lb lp : List Nat} (h : IFitB w fb g gb gp dx As ns cs c N ss nums lb lp W) (hne : fb ≠ gp ∧ fb + 1 ≠ gp ∧ g ≠ gp ∧ gb ≠ gp ∧ dx ≠ gp) (hw : w.heap.size ≤ gp) (p q : Nat) : IFitB w fb g gb gp dx As ns cs c N ss nums lb (lp.set p q) (W.setCell ⟨gp, p, none⟩ (.int .i64 (q : Int))) := by
  refine ⟨h.kF.far hne.1 _, h.kC.far hne.2.1 _, fun i x hi => ?_, h.kB.far hne.2.2.2.1 _, ?_, h.kS.keep fun a ha => World.cell?_setCell_far W ⟨gp, p, none⟩ a _ (fun e => by have e2 : gp = a.block := e; omega), h.kX.far hne.2.2.2.2 _, h.kW.setCell (p := ⟨gp, p, none⟩) hw _⟩
  · exact (World.cell?_setCell_far W ⟨gp, p, none⟩ ⟨g, i, none⟩ _ (fun e => hne.2.2.1 e.symm)).trans (h.kN i x hi)
  · have := h.kP.set_ p (.int .i64 (q : Int))
    have e : (natV lp).toArray.setIfInBounds p (.int .i64 (q : Int)) = (natV (lp.set p q)).toArray := by
      unfold natV
      rw [List.setIfInBounds_toArray, List.map_set]
    rw [e] at this
    exact this
/-- All rounds are over. -/
theorem IFit.fit {w W : World} {fb g gb gp dx ns cs c N : Nat} {As : Option Addr} {ss : Sg} {nums : List Int} (h : IFit w fb g gb gp dx As ns cs c N ss nums N W) (hN : nums.length = N) (h1 : fb < gp ∧ g < gp ∧ gb < gp) (hm : N ≤ 1000) (hw : w.heap.size ≤ gp) : FitAt W fb g gb gp As ns cs c N N ss nums (kbF ss nums) (kpF nums) := by
  have e1 : endL (kbF ss nums) N = kbF ss nums := by
    have := endL_all (kbF ss nums)
    rw [kbF_len, hN] at this
    exact this
  have e2 : endL (kpF nums) N = kpF nums := by
    have := endL_all (kpF nums)
    rw [kpF_len, hN] at this
    exact this
  have hB := h.kB
  have hP := h.kP
  rw [e1] at hB
  rw [e2] at hP
  refine ⟨by rw [hN]; exact h.kF, h.kS.more hw, h.kN, fun i x hi => ?_, hP, kbF_len, kpF_len, h1, by omega⟩
  rw [hB.cell, List.getElem?_toArray, natV_get hi]

end Go.Proofs.Ytpliamckapkhmaa
