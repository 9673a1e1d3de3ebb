/- What the steps of a proof say, one after another: the iterator's closure. -/
import Derived.Test.YtojofbmpknpggaaPJg
import Derived.Test.YtojofbmpknpggaaN17g
import Derived.Test.YtojofbmpknpggaaN5g
import Derived.Deep.RegionHeld3
/- What the steps of a proof say, one after another: words for the iterator. -/
namespace Go.Proofs.Ytojofbmpknpggaa
open Go.RowKit

/-- What a step says, with what those before it say; and the error. -/
noncomputable def saysZ (ss : Sg) (gg T : List (List Int)) (x : Stp) : List Int × Int :=
  if x.1 = 1 then (canon (gg.getD x.2.1.toNat []), 0) else detZ ss (T.getD x.2.1.toNat []) (T.getD x.2.2.toNat [])
/-- What the first k steps say. -/
noncomputable def sayL (ss : Sg) (gg : List (List Int)) (pp : List Stp) : Nat → List (List Int)
  | 0 => []
  | k + 1 => sayL ss gg pp k ++ [(saysZ ss gg (sayL ss gg pp k) (pp.getD k (0, 0, 0))).1]
noncomputable def sayE (ss : Sg) (gg : List (List Int)) (pp : List Stp) (k : Nat) : Int := (saysZ ss gg (sayL ss gg pp k) (pp.getD k (0, 0, 0))).2
theorem sayL_len (ss : Sg) (gg : List (List Int)) (pp : List Stp) : ∀ k, (sayL ss gg pp k).length = k
  | 0 => rfl
  | k + 1 => by rw [sayL, List.length_append, sayL_len ss gg pp k]; rfl
/-- The first k steps say something. -/
def sayTo (ss : Sg) (gg : List (List Int)) (pp : List Stp) (k : Nat) : Prop := ∀ j, j < k → sayE ss gg pp j = 0
theorem sayTo_succ {ss : Sg} {gg : List (List Int)} {pp : List Stp} {k : Nat} (h : sayTo ss gg pp k) (e : sayE ss gg pp k = 0) : sayTo ss gg pp (k + 1) := by
  intro j hj
  by_cases hjk : j < k
  · exact h j hjk
  · obtain rfl : j = k := by omega
    exact e

/-- The block of the row whose header lies in the box sd. -/
def rowOf (A : World) (sd : Nat) : Option Nat := (A.cell? ⟨sd, 0, none⟩).bind Value.ownBlock
theorem rowOf_below {A B : World} {sd : Nat} (h : Below A.heap.size A B) (hs : sd < A.heap.size) : rowOf B sd = rowOf A sd := by
  unfold rowOf
  rw [h.cell (p := ⟨sd, 0, none⟩) hs]
theorem rowOf_box {A : World} {sd : Nat} {v : Value} (h : A.cell? ⟨sd, 0, none⟩ = some v) : rowOf A sd = v.ownBlock := by
  unfold rowOf
  rw [h]
  rfl
/-- What a round of the caller keeps: all cells but those of its row. -/
structure KpS (sd B0 : Nat) (A B : World) : Prop where
  size : A.heap.size ≤ B.heap.size
  keep : ∀ b cs t f, B0 ≤ b → A.heap[b]? = some (.cells cs t f) → rowOf A sd ≠ some b → B.heap[b]? = A.heap[b]?
  own : ∀ g, rowOf B sd = some g → rowOf A sd = some g ∨ A.heap.size ≤ g
theorem KpS.trans {sd B0 : Nat} {A B C : World} (h : KpS sd B0 A B) (k : KpS sd B0 B C) : KpS sd B0 A C := by
  refine ⟨Nat.le_trans h.size k.size, fun b cs t f hb hA hr => ?_, fun g hg => ?_⟩
  · have h1 := h.keep b cs t f hb hA hr
    have hlt : b < A.heap.size := (Array.getElem?_eq_some_iff.1 hA).1
    refine (k.keep b cs t f hb (h1.trans hA) fun e => ?_).trans h1
    rcases h.own b e with h2 | h2
    · exact hr h2
    · omega
  · rcases k.own g hg with h1 | h1
    · exact h.own g h1
    · exact .inr (Nat.le_trans h.size h1)
theorem KpS.putObj {sd B0 : Nat} (W : World) (l : Nat) (o o' : Obj) (hs : sd ≠ l) (hl : W.heap[l]? = some o) (ho : o.isCells = false) : KpS sd B0 W (W.putObj l o') := by
  have hr : rowOf (W.putObj l o') sd = rowOf W sd := by
    unfold rowOf
    rw [World.cell?_of_block (World.putObj_heap_other hs)]
  refine ⟨by simp, fun b cs t f _ hb _ => World.putObj_heap_other fun e => ?_, fun g hg => .inl (by rw [← hr]; exact hg)⟩
  subst e
  rw [hb] at hl
  cases hl
  cases ho

/-- A slice of ints in a block from D on, that is neither of two. -/
structure ElAt (A : World) (D : Nat) (r1 r2 : Option Nat) (x : Hd) (z : List Int) : Prop where
  len : x.2.1 = z.length
  max : x.2.1 ≤ 9223372036854775807
  mem : 0 < x.2.1 → ∃ b off, x.1 = some ⟨b, off, none⟩ ∧ D ≤ b ∧ b < A.heap.size ∧ some b ≠ r1 ∧ some b ≠ r2 ∧ ∀ j (h : j < z.length), A.cell? ⟨b, off + j, none⟩ = some (.int .i64 z[j])
theorem ElAt.but {A : World} {D : Nat} {r1 r2 : Option Nat} {x : Hd} {z : List Int} (h : ElAt A D r1 r2 x z) : IntsBut A r1 x.1 x.2.1 z :=
  ⟨h.len, h.max, fun hn => by obtain ⟨b, off, e, _, h2, h3, _, h5⟩ := h.mem hn; exact ⟨b, off, e, h2, h3, h5⟩⟩
theorem ElAt.but2 {A : World} {D : Nat} {r1 r2 : Option Nat} {x : Hd} {z : List Int} (h : ElAt A D r1 r2 x z) : IntsBut A r2 x.1 x.2.1 z :=
  ⟨h.len, h.max, fun hn => by obtain ⟨b, off, e, _, h2, _, h4, h5⟩ := h.mem hn; exact ⟨b, off, e, h2, h4, h5⟩⟩
theorem ElAt.of_new {A1 A2 : World} {D : Nat} {r1 r2 : Option Nat} {A3 : Option Addr} {n3 c3 : Nat} {z : List Int} (hI : IntsAt A2 A2.heap.size A3 n3 z) (hf : ∀ g : Addr, A3 = some g → A1.heap.size ≤ g.block) (h1 : ∀ g, r1 = some g → g < A1.heap.size) (h2 : ∀ g, r2 = some g → g < A1.heap.size) (hD : D ≤ A1.heap.size) : ElAt A2 D r1 r2 (A3, n3, c3) z :=
  ⟨hI.len, hI.max, fun hn => by
    obtain ⟨b, off, e, hb, hc⟩ := hI.mem hn
    have h0 := hf _ e
    simp only at h0
    exact ⟨b, off, e, by omega, hb, fun e2 => by have := h1 b e2.symm; omega, fun e2 => by have := h2 b e2.symm; omega, hc⟩⟩
/-- Where its cells are kept. -/
theorem ElAt.move {A B : World} {D : Nat} {r1 r2 r1' r2' : Option Nat} {x : Hd} {z : List Int} (h : ElAt A D r1 r2 x z) (hs : A.heap.size ≤ B.heap.size)
    (hk : ∀ b, D ≤ b → b < A.heap.size → some b ≠ r1 → some b ≠ r2 → ∀ off : Nat, (∃ q, A.cell? ⟨b, off, none⟩ = some (.int .i64 q)) → B.cell? ⟨b, off, none⟩ = A.cell? ⟨b, off, none⟩)
    (h1 : ∀ b, b < A.heap.size → some b ≠ r1 → some b ≠ r1') (h2 : ∀ b, b < A.heap.size → some b ≠ r2 → some b ≠ r2') : ElAt B D r1' r2' x z :=
  ⟨h.len, h.max, fun hn => by
    obtain ⟨b, off, e, q1, q2, q3, q4, q5⟩ := h.mem hn
    exact ⟨b, off, e, q1, Nat.lt_of_lt_of_le q2 hs, h1 b q2 q3, h2 b q2 q4, fun j hj => (hk b q1 q2 q3 q4 _ ⟨_, q5 j hj⟩).trans (q5 j hj)⟩⟩

/-- The iterator's own memory: the box of its row, the array of functions, the row. -/
structure Mine (A : World) (e0 sd : Nat) (v : Value) (k : Nat) (ls : List Hd) (T : List (List Int)) (cl : Array Value) : Prop where
  box : Blk A (e0 + 1) 46 #[v]
  arr : Blk A (e0 + 2) 101 cl
  row : A.ownsRow e0 45 1 v k (ls.map Hd.val)
  ll : ls.length = k
  tl : T.length = k
  cap : ∀ x ∈ ls, capOk x
  each : ∀ j (h : j < ls.length) (h' : j < T.length), ElAt A (e0 + 3) v.ownBlock (rowOf A sd) ls[j] T[j]
  out : ∀ g, rowOf A sd = some g → g ≠ e0 + 1 ∧ g ≠ e0 + 2 ∧ v.ownBlock ≠ some g
  lt : ∀ g, rowOf A sd = some g → g < A.heap.size
  own : ∀ g, v.ownBlock = some g → g = e0 ∨ e0 + 3 ≤ g
section
variable {A B : World} {e0 sd B0 k : Nat} {v v' : Value} {ls : List Hd} {T : List (List Int)} {cl : Array Value}
theorem Mine.below (h : Mine A e0 sd v k ls T cl) (hb : Below A.heap.size A B) (hs : sd < A.heap.size) : Mine B e0 sd v k ls T cl := by
  have hr := rowOf_below hb hs
  refine ⟨h.box.below hb h.box.lt, h.arr.below hb h.arr.lt, row_below h.row hb, h.ll, h.tl, h.cap, fun j a b => ?_, fun g hg => h.out g (by rw [← hr]; exact hg), fun g hg => Nat.lt_of_lt_of_le (h.lt g (by rw [← hr]; exact hg)) hb.size, h.own⟩
  rw [hr]
  exact (h.each j a b).move hb.size (fun b _ hl _ _ off _ => hb.cell (p := ⟨b, off, none⟩) hl) (fun _ _ h => h) (fun _ _ h => h)
theorem cells_of_cell {A : World} {b off : Nat} {x : Value} (h : A.cell? ⟨b, off, none⟩ = some x) : ∃ cs t f, A.heap[b]? = some (.cells cs t f) := by
  unfold World.cell? at h
  cases e : A.heap[b]? with
  | none => simp [e] at h
  | some o =>
    cases o <;> simp [e] at h
    exact ⟨_, _, _, rfl⟩
theorem Mine.yield (h : Mine A e0 sd v k ls T cl) (hk : KpS sd B0 A B) (hB : B0 ≤ e0) (hlt : ∀ g, rowOf B sd = some g → g < B.heap.size) : Mine B e0 sd v k ls T cl := by
  have hne : ∀ b, b < A.heap.size → rowOf A sd ≠ some b → rowOf B sd ≠ some b := fun b hb hr e => by
    rcases hk.own b e with h1 | h1
    · exact hr h1
    · omega
  have hbk : Blk B (e0 + 1) 46 #[v] := (hk.keep (e0 + 1) _ _ _ (by omega) h.box fun e => (h.out _ e).1 rfl).trans h.box
  have hak : Blk B (e0 + 2) 101 cl := (hk.keep (e0 + 2) _ _ _ (by omega) h.arr fun e => (h.out _ e).2.1 rfl).trans h.arr
  have hrow := ownsRow_movedK (w' := B) h.row fun g e => by
    obtain ⟨cs', hc⟩ := row_cells2 h.row e
    exact hk.keep g _ _ _ (by have := (h.row.lt g e).1; omega) hc fun e2 => (h.out g e2).2.2 e
  refine ⟨hbk, hak, hrow, h.ll, h.tl, h.cap, fun j a b => ?_, fun g hg => ?_, hlt, h.own⟩
  · refine (h.each j a b).move hk.size (fun b hD hl _ h2 off ⟨q, hq⟩ => ?_) (fun _ _ h => h) (fun b hl h2 e => hne b hl (fun e2 => h2 e2.symm) e.symm)
    obtain ⟨cs, t, f, hc⟩ := cells_of_cell hq
    exact World.cell?_of_block (hk.keep b cs t f (by omega) hc fun e => h2 e.symm)
  · rcases hk.own g hg with h1 | h1
    · exact h.out g h1
    · have l1 := h.box.lt
      have l2 := h.arr.lt
      exact ⟨by omega, by omega, fun e => by have := (h.row.lt g e).2; omega⟩
theorem Mine.rows (h : Mine A e0 sd v k ls T cl) : RowsAt 45 A e0 v k ls T := ⟨h.row, h.tl.symm, fun j a b => (h.each j a b).but⟩
/-- A header is put behind the row, and the row is stored. -/
theorem Mine.push {A1 B : World} (h : Mine A1 e0 sd v k ls T cl) {x : Hd} {t : List Int} (hx : ElAt A1 (e0 + 3) v.ownBlock (rowOf A1 sd) x t) (hc : capOk x) (hs : sd < e0) (hrow : B.ownsRow e0 45 1 v' (k + 1) (ls.map Hd.val ++ [x.val])) (hg : A1.grownBy B v.ownBlock) (hv : v'.ownBlock = v.ownBlock ∨ v'.ownBlock = some A1.heap.size) :
    Mine (B.setCell ⟨e0 + 1, 0, none⟩ v') e0 sd v' (k + 1) (ls ++ [x]) (T ++ [t]) cl := by
  have hll := h.ll
  have htl := h.tl
  have l1 := h.box.lt
  have l2 := h.arr.lt
  have hown : ∀ g, v.ownBlock = some g → g ≠ e0 + 1 ∧ g ≠ e0 + 2 ∧ g ≠ sd := fun g e => by have h1 := h.own g e; have h2 := (h.row.lt g e).1; omega
  have hown' : ∀ g, v'.ownBlock = some g → g ≠ e0 + 1 := fun g e => by
    rcases hv with h1 | h1
    · exact (hown g (by rw [← h1]; exact e)).1
    · rw [h1] at e; cases e; omega
  have hk : ∀ b, b < A1.heap.size → v.ownBlock ≠ some b → b ≠ e0 + 1 → (B.setCell ⟨e0 + 1, 0, none⟩ v').heap[b]? = A1.heap[b]? := fun b hb hne hb1 => (heap_setCell_other B ⟨e0 + 1, 0, none⟩ b v' hb1).trans (hg.block b hb fun e => hne e.symm)
  have hr : rowOf (B.setCell ⟨e0 + 1, 0, none⟩ v') sd = rowOf A1 sd := by
    unfold rowOf
    rw [World.cell?_of_block (hk sd (by omega) (fun e => (hown sd e).2.2 rfl) (by omega))]
  have hbB : Blk B (e0 + 1) 46 #[v] := (hg.block _ l1 fun e => (hown _ e.symm).1 rfl).trans h.box
  have hsz : A1.heap.size ≤ (B.setCell ⟨e0 + 1, 0, none⟩ v').heap.size := by rw [World.size_setCell]; exact hg.size
  have hmv : ∀ {y : Hd} {z : List Int}, ElAt A1 (e0 + 3) v.ownBlock (rowOf A1 sd) y z → ElAt (B.setCell ⟨e0 + 1, 0, none⟩ v') (e0 + 3) v'.ownBlock (rowOf A1 sd) y z := fun hE =>
    hE.move hsz (fun b hD hl h1 _ off _ => World.cell?_of_block (hk b hl (fun e => h1 e.symm) (by omega))) (fun b hl h1 e => by
      rcases hv with h2 | h2
      · exact h1 (by rw [e, h2])
      · rw [h2] at e
        have := Option.some.inj e
        omega) (fun _ _ h => h)
  refine ⟨?_, (hk _ l2 (fun e => (hown _ e).2.1 rfl) (by omega)).trans h.arr, ?_, by simp [hll], by simp [htl], fun y hy => ?_, fun j a b => ?_, fun g e => ?_, fun g e => ?_, fun g e => ?_⟩
  · have := hbB.set_ 0 v'
    simpa using this
  · rw [List.map_append, List.map_singleton]
    exact ownsRow_movedK hrow fun g e => heap_setCell_other B ⟨e0 + 1, 0, none⟩ g v' (hown' g e)
  · rcases List.mem_append.1 hy with hy | hy
    · exact h.cap y hy
    · rw [List.mem_singleton.1 hy]; exact hc
  · rw [hr]
    by_cases hj : j < k
    · rw [List.getElem_append_left (by omega), List.getElem_append_left (by omega)]
      exact hmv (h.each j (by omega) (by omega))
    · have : j = k := by simp at a; omega
      subst this
      rw [List.getElem_append_right (by omega), List.getElem_append_right (by omega)]
      simp only [hll, htl, Nat.sub_self, List.getElem_cons_zero]
      exact hmv hx
  · rw [hr] at e
    obtain ⟨q1, q2, q3⟩ := h.out g e
    refine ⟨q1, q2, fun e2 => ?_⟩
    rcases hv with h2 | h2
    · exact q3 (by rw [← h2]; exact e2)
    · rw [h2] at e2
      have := Option.some.inj e2
      have := h.lt g e
      omega
  · rw [hr] at e
    exact Nat.lt_of_lt_of_le (h.lt g e) hsz
  · rcases hv with h2 | h2
    · exact h.own g (by rw [← h2]; exact e)
    · rw [h2] at e
      cases e
      right; omega
end
theorem ElAt.yield {A B : World} {D sd B0 : Nat} {r : Option Nat} {x : Hd} {z : List Int} (h : ElAt A D r (rowOf A sd) x z) (hk : KpS sd B0 A B) (hB : B0 ≤ D) : ElAt B D r (rowOf B sd) x z := by
  refine h.move hk.size (fun b hD hl _ h2 off ⟨q, hq⟩ => ?_) (fun _ _ h => h) (fun b hl h2 e => ?_)
  · obtain ⟨cs, t, f, hc⟩ := cells_of_cell hq
    exact World.cell?_of_block (hk.keep b cs t f (by omega) hc fun e => h2 e.symm)
  · rcases hk.own b e.symm with h3 | h3
    · exact h2 h3.symm
    · omega
theorem ElAt.below {A B : World} {D sd : Nat} {r : Option Nat} {x : Hd} {z : List Int} (h : ElAt A D r (rowOf A sd) x z) (hb : Below A.heap.size A B) (hs : sd < A.heap.size) : ElAt B D r (rowOf B sd) x z := by
  rw [rowOf_below hb hs]
  exact h.move hb.size (fun b _ hl _ _ off _ => hb.cell (p := ⟨b, off, none⟩) hl) (fun _ _ h => h) (fun _ _ h => h)
/-- What the iterator may change: cells from B0 on, that neither are the caller's row nor hold what was handed out. -/
structure SfS (sd B0 : Nat) (pre : List (Hd × Int)) (A B : World) : Prop where
  os : B.os = A.os
  tape : B.tape = A.tape
  output : B.output = A.output
  size : A.heap.size ≤ B.heap.size
  same : ∀ b, b < A.heap.size → B.heap[b]? = A.heap[b]? ∨ (B0 ≤ b ∧ rowOf A sd ≠ some b ∧ (∃ cs t f, A.heap[b]? = some (.cells cs t f)) ∧ ∀ x ∈ pre, 0 < x.1.2.1 → ∀ b' off, x.1.1 = some ⟨b', off, none⟩ → b' ≠ b)
theorem SfS.plain {sd B0 : Nat} {pre : List (Hd × Int)} {A B : World} (h : SfS sd B0 pre A B) (b : Nat) (o : Obj) (ho : A.heap[b]? = some o) (hc : o.isCells = false) : B.heap[b]? = A.heap[b]? := by
  rcases h.same b (Array.getElem?_eq_some_iff.1 ho).1 with h1 | ⟨_, _, ⟨cs, t, f, h2⟩, _⟩
  · exact h1
  · rw [ho] at h2
    cases h2
    cases hc
theorem Mine.soft {A1 B : World} {e0 sd B0 k : Nat} {v v' : Value} {ls : List Hd} {T : List (List Int)} {cl : Array Value} {pre : List (Hd × Int)} {x : Hd} {er : Int} {t : List Int} (h : Mine A1 e0 sd v k ls T cl) (hl : pre.map Prod.fst = ls) (hx : ElAt A1 (e0 + 3) v.ownBlock (rowOf A1 sd) x t) (hB : B0 ≤ e0) (hg : A1.grownBy B v.ownBlock) :
    SfS sd B0 (pre ++ [(x, er)]) A1 (B.setCell ⟨e0 + 1, 0, none⟩ v') := by
  have hel : ∀ y ∈ pre ++ [(x, er)], 0 < y.1.2.1 → ∀ b' off, y.1.1 = some ⟨b', off, none⟩ → e0 + 3 ≤ b' ∧ some b' ≠ v.ownBlock := by
    intro y hy hn b' off e
    rcases List.mem_append.1 hy with hy | hy
    · obtain ⟨j, hj, ej⟩ := List.mem_iff_getElem.1 hy
      have hj' : j < ls.length := by rw [← hl, List.length_map]; exact hj
      have e2 : ls[j] = y.1 := by simp only [← hl, List.getElem_map, ej]
      have := h.each j hj' (by rw [h.tl, ← h.ll]; exact hj')
      rw [e2] at this
      obtain ⟨b, o, e3, q1, _, q3, _⟩ := this.mem hn
      rw [e] at e3
      cases e3
      exact ⟨q1, q3⟩
    · rw [List.mem_singleton.1 hy] at e hn
      obtain ⟨b, o, e3, q1, _, q3, _⟩ := hx.mem hn
      simp only at e
      rw [e] at e3
      cases e3
      exact ⟨q1, q3⟩
  refine ⟨hg.os, hg.tape, hg.output, by rw [World.size_setCell]; exact hg.size, fun b hb => ?_⟩
  by_cases h1 : b = e0 + 1
  · subst h1
    exact .inr ⟨by omega, fun e => (h.out _ e).1 rfl, ⟨_, _, _, h.box⟩, fun y hy hn b' off e => by have := (hel y hy hn b' off e).1; omega⟩
  · by_cases h2 : v.ownBlock = some b
    · obtain ⟨cs', hc⟩ := row_cells2 h.row h2
      exact .inr ⟨by have := (h.row.lt b h2).1; omega, fun e => (h.out _ e).2.2 h2, ⟨_, _, _, hc⟩, fun y hy hn b' off e e3 => (hel y hy hn b' off e).2 (by rw [e3, h2])⟩
    · exact .inl ((heap_setCell_other B ⟨e0 + 1, 0, none⟩ b v' h1).trans (hg.block b hb fun e => h2 e.symm))
/-- What the iterator hands out. -/
def encS (x : Hd × Int) : Array Value := #[.slice x.1.1 x.1.2.1 x.1.2.2, .int .i64 x.2]
structure HxS (ss : Sg) (gg : List (List Int)) (pp : List Stp) (sd B0 k : Nat) (x : Hd × Int) (W : World) : Prop where
  er : x.2 = sayE ss gg pp k
  ints : IntsBut W (rowOf W sd) x.1.1 x.1.2.1 (saysZ ss gg (sayL ss gg pp k) (pp.getD k (0, 0, 0))).1
  cap : capOk x.1
  low : 0 < x.1.2.1 → ∀ b off, x.1.1 = some ⟨b, off, none⟩ → B0 ≤ b
theorem HxS.putObj {ss : Sg} {gg : List (List Int)} {pp : List Stp} {sd B0 k : Nat} {x : Hd × Int} {W : World} {l : Nat} {o o' : Obj} (h : HxS ss gg pp sd B0 k x W) (hs : sd ≠ l) (hl : W.heap[l]? = some o) (ho : o.isCells = false) : HxS ss gg pp sd B0 k x (W.putObj l o') := by
  have hr : rowOf (W.putObj l o') sd = rowOf W sd := by
    unfold rowOf
    rw [World.cell?_of_block (World.putObj_heap_other hs)]
  refine ⟨h.er, ⟨h.ints.len, h.ints.max, fun hn => ?_⟩, h.cap, h.low⟩
  obtain ⟨b, off, e, hb, hne, hc⟩ := h.ints.mem hn
  exact ⟨b, off, e, by simpa using hb, by rw [hr]; exact hne, fun j hj => cell_kept (hc j hj) (grownBy_putObj' W l o') (fun r e => by cases e; exact ⟨o, hl, ho⟩)⟩

end Go.Proofs.Ytojofbmpknpggaa

namespace Go.Proofs.Ytojofbmpknpggaa
open Go.RowKit
attribute [local go_sem] Oper.semAt_some

set_option maxRecDepth 100000 in
set_option maxHeartbeats 8000000 in
theorem sayC_in (l n Bs Bg Bp sd B0 : Nat) (As Ag Ap : Option Addr) (ns cs ng cg np cp : Nat) (ss : Sg) (lg : List Hd) (gg : List (List Int)) (pp : List Stp) (J : List (Hd × Int) → World → Prop) (JL : World → Prop) (hgiv : givOk ss gg = true) (hprf : proofOk ng pp = true)
    (hJ : ∀ k A B, J k A → Below A.heap.size A B → J k B) (hJS : ∀ k A B, J k A → SfS sd B0 k A B → J k B)
    (hJF : ∀ k A, J k A → Blk A Bs 44 #[.slice As ns cs] ∧ Blk A Bg 46 #[.slice Ag ng cg] ∧ Blk A Bp 22 #[.slice Ap np cp] ∧ SigAt A A.heap.size As ns ss ∧ TermsAt A A.heap.size Ag ng lg gg ∧ StepsAt A A.heap.size Ap np pp ∧ sayTo ss gg pp k.length ∧ (∀ g, rowOf A sd = some g → g < A.heap.size))
    (hY : ∀ m k x A, J k A → HxS ss gg pp sd B0 k.length x A → k.length < pp.length → YieldAt Fence.wide m Try.prog l (encS x) A fun e B => (e = .returned (.bool true) ∧ J (k ++ [x]) B ∧ KpS sd B0 A B) ∨ (e = .returned (.bool false) ∧ JL B))
    (V : World) (hV : B0 ≤ V.heap.size) (hsd : sd < V.heap.size) (hJ0 : J [] V) :
    CallsIn Fence.wide n Try.prog 71 #[.func (.yield l) #[] #[], .pointer (some ⟨Bs, 0, none⟩), .pointer (some ⟨Bg, 0, none⟩), .pointer (some ⟨Bp, 0, none⟩)] V fun e W' => (∃ v, e = .returned v) ∧ ((∃ xs, xs.length = pp.length ∧ J xs W') ∨ JL W') := by
  obtain ⟨i1, hi1, hy0, hy1, hy2⟩ := info_parts info_term
  obtain ⟨e0, he0⟩ : ∃ e0, V.heap.size = e0 := ⟨_, rfl⟩
  let cl : Array Value := #[.nilFunc, .func (.func 72) #[] #[.pointer (some ⟨Bs, 0, none⟩), .pointer (some ⟨Bg, 0, none⟩)], .func (.func 74) #[] #[.pointer (some ⟨Bs, 0, none⟩), .pointer (some ⟨e0 + 1, 0, none⟩)]]
  obtain ⟨cl', hcl⟩ : ∃ cl', cl = cl' := ⟨_, rfl⟩
  let W1 := V.alloc (.cells #[] 45)
  let W2 := W1.alloc (.cells #[.slice (some ⟨e0, 0, none⟩) 0 0] 46)
  let W3 := W2.alloc (.cells cl 101)
  have z1 : W1.heap.size = e0 + 1 := by simp [W1, he0]
  have z2 : W2.heap.size = e0 + 2 := by simp [W2, z1]
  have z3 : W3.heap.size = e0 + 3 := by simp [W3, z2]
  have b1 : Blk W1 e0 45 #[] := by have := Blk.new V 45 #[]; rw [he0] at this; exact this
  have b2 : Blk W2 (e0 + 1) 46 #[.slice (some ⟨e0, 0, none⟩) 0 0] := by have := Blk.new W1 46 #[.slice (some ⟨e0, 0, none⟩) 0 0]; rw [z1] at this; exact this
  have b3 : Blk W3 (e0 + 2) 101 cl := by have := Blk.new W2 101 cl; rw [z2] at this; exact this
  have u1 : Below V.heap.size V W1 := bel_al0 _ _
  have u2 : Below W1.heap.size W1 W2 := bel_al0 _ _
  have u3 : Below W2.heap.size W2 W3 := bel_al0 _ _
  have uV : Below V.heap.size V W3 := below_then (below_then u1 u2) u3
  have k1 : Blk W3 e0 45 #[] := (b1.below u2 (by omega)).below u3 (by omega)
  have k2 : Blk W3 (e0 + 1) 46 #[.slice (some ⟨e0, 0, none⟩) 0 0] := b2.below u3 (by omega)
  have hro : rowOf W3 sd = rowOf V sd := rowOf_below uV hsd
  have hF0 := hJF [] V hJ0
  have hM0 : Mine W3 e0 sd (.slice (some ⟨e0, 0, none⟩) 0 0) 0 [] (sayL ss gg pp 0) cl := by
    refine ⟨k2, b3, ⟨rfl, .inr ⟨e0, 0, #[], rfl, Nat.le_refl _, k1, Nat.le_refl _, by unfold maxLen; omega, rfl, rfl⟩⟩, rfl, rfl, by simp, fun j h => by simp at h, fun g e => ?_, fun g e => ?_, fun g e => ?_⟩
    · rw [hro] at e
      have := hF0.2.2.2.2.2.2.2 g e
      exact ⟨by omega, by omega, fun e2 => by have e3 : e0 = g := Option.some.inj e2; omega⟩
    · rw [hro] at e
      have := hF0.2.2.2.2.2.2.2 g e
      omega
    · have e3 : e0 = g := Option.some.inj e
      exact .inl e3.symm
  have hJ3 := hJ [] V W3 hJ0 uV
  have HM0 := Lib.hid hM0
  have HJ0 := Lib.hid hJ3
  have HJ := Lib.hid hJ
  have HJS := Lib.hid hJS
  have HJF := Lib.hid hJF
  have HY := Lib.hid hY
  have HG := Lib.hid (givOk_to hgiv)
  have HP := Lib.hid (proofOk_to hprf)
  have hcp : V.cell? ⟨Bp, 0, none⟩ = some (.slice Ap np cp) := hF0.2.2.1.cell 0
  have hcpl := hF0.2.2.1.lt
  have hnp : np = pp.length := hF0.2.2.2.2.2.1.len
  have hcpW : W3.cell? ⟨Bp, 0, none⟩ = some (.slice Ap np cp) := (uV.cell (p := ⟨Bp, 0, none⟩) hcpl).trans hcp
  have HB0 := Lib.hid hV
  have HSD0 := Lib.hid hsd
  have HBSD := Lib.hid (show sd < e0 by omega)
  have HBE := Lib.hid (show B0 ≤ e0 by omega)
  have HE := Lib.hid he0
  have HNP := Lib.hid hnp
  have hcpX : (((V.alloc (.cells #[] 45)).alloc (.cells #[.slice (some ⟨e0, 0, none⟩) 0 0] 46)).alloc (.cells #[.nilFunc, .func (.func 72) #[] #[.pointer (some ⟨Bs, 0, none⟩), .pointer (some ⟨Bg, 0, none⟩)], .func (.func 74) #[] #[.pointer (some ⟨Bs, 0, none⟩), .pointer (some ⟨e0 + 1, 0, none⟩)]] 101)).cell? ⟨Bp, 0, none⟩ = some (.slice Ap np cp) := hcpW
  rw [hcl] at HM0
  have HCL := Lib.hid hcl
  clear hJ hJS hJF hY hJ0 hgiv hprf hM0 hJ3 hF0 hro k1 k2 b1 b2 b3 u1 u2 u3 uV z1 z2 z3 hcp hcpl hV hcpW hcl hnp
  refine callsIn_of_wp Try.func71 rfl trivial ?_ rfl
  simp only [Try.ntmps71, List.size_toArray, List.length_cons, List.length_nil, Nat.reduceAdd, Nat.reduceSub, Array.replicate_succ, Array.replicate_zero, List.push_toArray, List.append_toArray, List.nil_append, List.cons_append]
  gi_wp2_with fail
  gi_loopw [17] (fun i wr => ∃ (k : Nat) (v : Value) (pre : List (Hd × Int)), k ≤ np ∧ i = .int .i64 k ∧ pre.length = k ∧ J pre wr ∧ Mine wr e0 sd v k (pre.map Prod.fst) (sayL ss gg pp k) cl') (fun i _ => np - (intOf i).toNat)
  case atStart => exact ⟨0, _, [], Nat.zero_le _, rfl, rfl, HJ0.out, HM0.out⟩
  case round =>
    obtain ⟨k, v, pre, hk, rfl, hpre, hJr, hMr⟩ := hrel
    have hF := HJF.out pre wr hJr
    rw [hpre] at hF
    have HPRE := Lib.hid hpre
    clear hpre
    obtain ⟨Av, cv, hAv⟩ := row_formK hMr.row
    subst hAv
    have hsdw : sd < wr.heap.size := by have := hMr.box.lt; omega
    have HSD := Lib.hid hsdw
    have HE0 := Lib.hid (show e0 + 3 ≤ wr.heap.size from hMr.arr.lt)
    have HM := Lib.hid hMr
    by_cases hlt : k < np
    · obtain ⟨b, off, x, y, z, rfl, hb, q1, q2, q3, q4⟩ := hF.2.2.2.2.2.1.cellAt hlt
      have hso := HP.out.2.2 k (by have := HNP.out; omega) _ q4
      have hk60 : k < 60 := by have := HP.out.2.1; have := HNP.out; omega
      have hk0 : (0 : Int) ≤ (k : Int) := by omega
      have hk1 : (k : Int) < (np : Int) := by omega
      obtain ⟨sb, hsb⟩ : ∃ sb, wr.heap.size = sb := ⟨_, rfl⟩
      have HLT := Lib.hid (show k < pp.length by have := HNP.out; omega)
      have hpk : pp.getD k (0, 0, 0) = (x, y, z) := by rw [List.getD_eq_getElem?_getD, q4]; rfl
      have HB1 := Lib.hid (show Below wr.heap.size wr (wr.alloc (.cells #[.int .i64 x, .int .i64 y, .int .i64 z] 33)) from bel_al0 wr _)
      have hS1 : Blk (wr.alloc (.cells #[.int .i64 x, .int .i64 y, .int .i64 z] 33)) sb 33 #[.int .i64 x, .int .i64 y, .int .i64 z] := by have := Blk.new wr 33 #[.int .i64 x, .int .i64 y, .int .i64 z]; rw [hsb] at this; exact this
      have l1 := hS1.lt
      have l2 : e0 + 2 < (wr.alloc (.cells #[.int .i64 x, .int .i64 y, .int .i64 z] 33)).heap.size := Nat.lt_of_lt_of_le hMr.arr.lt HB1.out.size
      have k0 := hS1.cell 0
      have k1 := hS1.cell 1
      have k2 := hS1.cell 2
      simp only [List.getElem?_toArray, List.getElem?_cons_zero, List.getElem?_cons_succ] at k0 k1 k2
      have harr := (hMr.arr.below HB1.out hMr.arr.lt)
      rw [← HCL.out] at harr
      have kB := hF.1
      have kG := hF.2.1
      have hsg := hF.2.2.2.1
      have htg := hF.2.2.2.2.1
      have hsu := hF.2.2.2.2.2.2.1
      rcases stepOk_num hso with ⟨rfl, hy0', hy1', rfl⟩ | ⟨rfl, hy0', hy1', hz0', hz1'⟩
      · simp only at hy0' hy1'
        obtain ⟨a, ha⟩ : ∃ a : Nat, y = (a : Int) := ⟨y.toNat, by omega⟩
        subst ha
        have hag : a < gg.length := by have := htg.len; omega
        have hga : gg[a]? = some gg[a] := List.getElem?_eq_getElem hag
        have hz : saysZ ss gg (sayL ss gg pp k) (pp.getD k (0, 0, 0)) = (canon gg[a], 0) := by
          rw [hpk]
          unfold saysZ
          rw [if_pos rfl]
          simp [List.getD_eq_getElem?_getD, hga]
        have HT := Lib.hid (congrArg Prod.fst hz)
        have HER : Hid (sayE ss gg pp k = 0) := Lib.hid (congrArg Prod.snd hz)
        have a1 : (wr.alloc (.cells #[.int .i64 1, .int .i64 (a : Int), .int .i64 0] 33)).cell? ⟨e0 + 2, 1, none⟩ = some (.func (.func 72) #[] #[.pointer (some ⟨Bs, 0, none⟩), .pointer (some ⟨Bg, 0, none⟩)]) := harr.cell 1
        have C : Hid (∀ W, Below wr.heap.size wr W → Calls Try.prog 72 #[.agg #[.int .i64 1, .int .i64 (a : Int), .int .i64 0], .pointer (some ⟨Bs, 0, none⟩), .pointer (some ⟨Bg, 0, none⟩)] W (RetF W (canon gg[a]) 0)) := Lib.hid (fun W hW => cites_any Bs Bg As Ag ns cs ng cg ss lg gg a 0 gg[a] W (kB.below hW kB.lt) (kG.below hW kG.lt) (hsg.up hW) (htg.up hW) hga (HG.out.2.2 _ (List.getElem_mem hag)))
        obtain ⟨T, hT⟩ : ∃ T, canon gg[a] = T := ⟨_, rfl⟩
        rw [hT] at C HT
        clear hF hso q4 hpk hS1 harr kB kG hsg htg hsu hag hga hz hT hMr hsdw
        gi_wp2_with fail
        refine wpIn_wide.2 ?_
        go_region_held3 (fun w' => w'.cell? ⟨sb, 0, none⟩ = some (.int .i64 1) ∧ w'.cell? ⟨sb, 1, none⟩ = some (.int .i64 (a : Int)) ∧ w'.cell? ⟨sb, 2, none⟩ = some (.int .i64 0) ∧ w'.cell? ⟨e0 + 2, 1, none⟩ = some (.func (.func 72) #[] #[.pointer (some ⟨Bs, 0, none⟩), .pointer (some ⟨Bg, 0, none⟩)]))
          (first | exact ⟨k0, k1, k2, a1⟩ | exact ⟨z1, z2, z3, z4⟩)
          ((go_at_call 72; ((with_reducible refine (C.out _ HB1.out.drew).mono ?_); rintro e w3 ⟨A3, n3, c3, rfl, hI3, hc3, hf3, hB3⟩); have z1 := (hB3.cell (p := ⟨sb, 0, none⟩) l1).trans k0; have z2 := (hB3.cell (p := ⟨sb, 1, none⟩) l1).trans k1; have z3 := (hB3.cell (p := ⟨sb, 2, none⟩) l1).trans k2; have z4 := (hB3.cell (p := ⟨e0 + 2, 1, none⟩) l2).trans a1; have HI3 := Lib.hid hI3; have HC3 := Lib.hid hc3; have HF3 := Lib.hid (fun g hg => Nat.le_trans HB1.out.size (hf3 g hg)); have HB3 := Lib.hid (below_then HB1.out.drew hB3); clear hI3 hc3 hf3 hB3))
        have hJ3 := HJ.out pre wr w3 hJr HB3.out
        have hM3 := HM.out.below HB3.out HSD.out
        have hE3 : ElAt w3 (e0 + 3) (Value.slice Av k cv).ownBlock (rowOf w3 sd) (A3, n3, c3) T := ElAt.of_new HI3.out HF3.out (fun g e => (HM.out.row.lt g e).2) (fun g e => HM.out.lt g (by rw [← rowOf_below HB3.out HSD.out]; exact e)) HE0.out
        have hx : HxS ss gg pp sd B0 k ((A3, n3, c3), 0) w3 := ⟨HER.out.symm, by rw [HT.out]; exact hE3.but2, HC3.out, fun hn b off e => by obtain ⟨b', off', e', q1, _⟩ := hE3.mem hn; have e2 := e.symm.trans e'; have := HBE.out; cases e2; omega⟩
        obtain ⟨fn, tmps, assign, body, hy, hR⟩ := HY.out (n - 1) pre ((A3, n3, c3), 0) w3 hJ3 (by rw [HPRE.out]; exact hx) (by rw [HPRE.out]; exact HLT.out)
        have hy' : (Instr.yield l #[.slice A3 n3 c3, .int .i64 0]).run Try.prog w3 = .ok (.round l fn tmps assign body) w3 := hy
        have HRR := Lib.hid (hR.mono (R' := fun e B => ∃ q : Bool, e = .returned (.bool q) ∧ (q = true → J (pre ++ [((A3, n3, c3), 0)]) B ∧ KpS sd B0 w3 B) ∧ (q = false → JL B)) (fun e B h => h.elim (fun h => ⟨true, h.1, fun _ => h.2, fun e => by cases e⟩) (fun h => ⟨false, h.1, fun e => (by cases e), fun _ => h.2⟩)))
        have HM3 := Lib.hid hM3
        have HE3 := Lib.hid hE3
        clear hy hR hJ3 hM3 hE3 hx hJr z1 z2 z3 z4 k0 k1 k2 a1 l1 l2 C
        go_wp2_with fail
        gi_wp2_with (first
          | ((try refine ⟨fun h => (by cases h), ?_⟩); refine HRR.out.mono ?_; rintro e W2 ⟨q, rfl, hq1, hq2⟩; have hmy := fun h : q = true => HM3.out.yield (hq1 h).2 HBE.out (HJF.out _ _ (hq1 h).1).2.2.2.2.2.2.2; have cw : q = true → W2.cell? ⟨e0 + 1, 0, none⟩ = some (.slice Av k cv) := fun h => (hmy h).box.cell 0; have HMY := Lib.hid hmy; have HEY := Lib.hid (fun h : q = true => HE3.out.yield (hq1 h).2 (Nat.le_trans HBE.out (Nat.le_add_right _ _))); have HQ1 := Lib.hid hq1; clear hmy hq1)
          | (gi_at_builtin
             have hqt : q = true := by assumption
             have hm2 := HMY.out hqt
             have hb2 : Below W2.heap.size W2 (W2.alloc (.cells #[.slice A3 n3 c3] 45)) := bel_al0 W2 _
             have hsd2 : sd < W2.heap.size := by have := hm2.box.lt; have := HBSD.out; omega
             refine wpListIn_append_own_at _ rfl _ _ 46 rfl e0 45 i1 _ 1 24 Try.underlying46 hi1 hy0 hy1 hy2 rfl (by omega) (.slice Av k cv) k ((pre.map Prod.fst).map Hd.val) rfl (hm2.row.alloc _) ⟨W2.heap.size, 0, none⟩ 1 1 [Hd.val (A3, n3, c3)] rfl rfl
               (World.news_of_block (cs := #[Hd.val (A3, n3, c3)]) (t := 45) (fr := (0, 0)) (heap_alloc_new W2 _)) (by simp [Value.oneCell', Hd.val]) (by unfold maxLen; omega) (by omega) (by rw [World.size_alloc]; have := hm2.box.lt; omega) ?_
             intro v4 W4 hown4 hg4 _ hv4
             have hm3 := hm2.below hb2 hsd2
             have he3 := (HEY.out hqt).below hb2 hsd2
             have HM4 := Lib.hid (hm3.push he3 HC3.out HBSD.out hown4 hg4 hv4)
             have HJ4 := Lib.hid (HJS.out _ _ _ (HJ.out _ _ _ (HQ1.out hqt).1 hb2) (hm3.soft (er := 0) (v' := v4) rfl he3 HBE.out hg4))
             have cb4 : W4.cell? ⟨e0 + 1, 0, none⟩ = some (.slice Av k cv) := (cell_grown hg4 hm3.box.lt (fun e => by have h1 := hm3.own _ e; omega)).trans (hm3.box.cell 0)
             have fb4 : W4.frozen? ⟨e0 + 1, 0, none⟩ = false := (frozen_grown hg4 hm3.box.lt (fun e => by have h1 := hm3.own _ e; omega)).trans (hm3.box.frozen 0)
             obtain ⟨g4, cap4, e4, _⟩ := hown4.form (by omega)
             subst e4
             clear hown4 hg4 hv4 hm3 he3 hm2 hb2 hsd2))
        · have e1 : sayL ss gg pp (k + 1) = sayL ss gg pp k ++ [T] := by rw [sayL, HT.out]
          refine ⟨⟨k + 1, .slice (some ⟨g4, 0, none⟩) (k + 1) cap4, pre ++ [((A3, n3, c3), 0)], by omega, by go_num, by rw [List.length_append, HPRE.out]; rfl, HJ4.out, ?_⟩, by simp [intOf]; omega⟩
          rw [e1, List.map_append, List.map_singleton]
          exact HM4.out
        · refine bodyPost_ret (results_none rfl _ _ _) rfl ?_
          exact ⟨⟨_, rfl⟩, .inr (hq2 (Bool.eq_false_iff.2 (by assumption)))⟩
      · simp only at hy0' hy1' hz0' hz1'
        obtain ⟨a, ha⟩ : ∃ a : Nat, y = (a : Int) := ⟨y.toNat, by omega⟩
        subst ha
        obtain ⟨c, hc⟩ : ∃ c : Nat, z = (c : Int) := ⟨z.toNat, by omega⟩
        subst hc
        have hak : a < (sayL ss gg pp k).length := by rw [sayL_len]; omega
        have hck : c < (sayL ss gg pp k).length := by rw [sayL_len]; omega
        have hga : (sayL ss gg pp k)[a]? = some (sayL ss gg pp k)[a] := List.getElem?_eq_getElem hak
        have hgc : (sayL ss gg pp k)[c]? = some (sayL ss gg pp k)[c] := List.getElem?_eq_getElem hck
        have hz : saysZ ss gg (sayL ss gg pp k) (pp.getD k (0, 0, 0)) = detZ ss (sayL ss gg pp k)[a] (sayL ss gg pp k)[c] := by
          rw [hpk]
          unfold saysZ
          rw [if_neg (by simp)]
          simp [List.getD_eq_getElem?_getD, hga, hgc]
        have HT := Lib.hid (congrArg Prod.fst hz)
        have HER : Hid (sayE ss gg pp k = (detZ ss (sayL ss gg pp k)[a] (sayL ss gg pp k)[c]).2) := Lib.hid (congrArg Prod.snd hz)
        have a1 : (wr.alloc (.cells #[.int .i64 2, .int .i64 (a : Int), .int .i64 (c : Int)] 33)).cell? ⟨e0 + 2, 2, none⟩ = some (.func (.func 74) #[] #[.pointer (some ⟨Bs, 0, none⟩), .pointer (some ⟨e0 + 1, 0, none⟩)]) := harr.cell 2
        obtain ⟨Au, cu, eu, hTT⟩ := hMr.rows.terms (by omega)
        cases eu
        have C : Hid (∀ W, Below wr.heap.size wr W → Calls Try.prog 74 #[.agg #[.int .i64 2, .int .i64 (a : Int), .int .i64 (c : Int)], .pointer (some ⟨Bs, 0, none⟩), .pointer (some ⟨e0 + 1, 0, none⟩)] W (RetF W (detZ ss (sayL ss gg pp k)[a] (sayL ss gg pp k)[c]).1 (detZ ss (sayL ss gg pp k)[a] (sayL ss gg pp k)[c]).2)) := Lib.hid (fun W hW => detaches_step Bs (e0 + 1) As Av ns cs k cv ss _ (sayL ss gg pp k) a c _ _ W (kB.below hW kB.lt) (hMr.box.below hW hMr.box.lt) (hsg.up hW) (hTT.up hW) hMr.cap hga hgc)
        obtain ⟨T, hT⟩ : ∃ T, (detZ ss (sayL ss gg pp k)[a] (sayL ss gg pp k)[c]).1 = T := ⟨_, rfl⟩
        obtain ⟨E, hE⟩ : ∃ E, (detZ ss (sayL ss gg pp k)[a] (sayL ss gg pp k)[c]).2 = E := ⟨_, rfl⟩
        rw [hT] at C HT
        rw [hE] at C HER
        clear hF hso q4 hpk hS1 harr kB kG hsg htg hsu hak hck hga hgc hz hT hE hMr hsdw hTT
        by_cases hE0 : E = 0
        · subst hE0
          gi_wp2_with fail
          refine wpIn_wide.2 ?_
          go_region_held3 (fun w' => w'.cell? ⟨sb, 0, none⟩ = some (.int .i64 2) ∧ w'.cell? ⟨sb, 1, none⟩ = some (.int .i64 (a : Int)) ∧ w'.cell? ⟨sb, 2, none⟩ = some (.int .i64 (c : Int)) ∧ w'.cell? ⟨e0 + 2, 2, none⟩ = some (.func (.func 74) #[] #[.pointer (some ⟨Bs, 0, none⟩), .pointer (some ⟨e0 + 1, 0, none⟩)]))
            (first | exact ⟨k0, k1, k2, a1⟩ | exact ⟨z1, z2, z3, z4⟩)
            ((go_at_call 74; ((with_reducible refine (C.out _ HB1.out.drew).mono ?_); rintro e w3 ⟨A3, n3, c3, rfl, hI3, hc3, hf3, hB3⟩); have z1 := (hB3.cell (p := ⟨sb, 0, none⟩) l1).trans k0; have z2 := (hB3.cell (p := ⟨sb, 1, none⟩) l1).trans k1; have z3 := (hB3.cell (p := ⟨sb, 2, none⟩) l1).trans k2; have z4 := (hB3.cell (p := ⟨e0 + 2, 2, none⟩) l2).trans a1; have HI3 := Lib.hid hI3; have HC3 := Lib.hid hc3; have HF3 := Lib.hid (fun g hg => Nat.le_trans HB1.out.size (hf3 g hg)); have HB3 := Lib.hid (below_then HB1.out.drew hB3); clear hI3 hc3 hf3 hB3))
          have hJ3 := HJ.out pre wr w3 hJr HB3.out
          have hM3 := HM.out.below HB3.out HSD.out
          have hE3 : ElAt w3 (e0 + 3) (Value.slice Av k cv).ownBlock (rowOf w3 sd) (A3, n3, c3) T := ElAt.of_new HI3.out HF3.out (fun g e => (HM.out.row.lt g e).2) (fun g e => HM.out.lt g (by rw [← rowOf_below HB3.out HSD.out]; exact e)) HE0.out
          have hx : HxS ss gg pp sd B0 k ((A3, n3, c3), 0) w3 := ⟨HER.out.symm, by rw [HT.out]; exact hE3.but2, HC3.out, fun hn b off e => by obtain ⟨b', off', e', q1, _⟩ := hE3.mem hn; have e2 := e.symm.trans e'; have := HBE.out; cases e2; omega⟩
          obtain ⟨fn, tmps, assign, body, hy, hR⟩ := HY.out (n - 1) pre ((A3, n3, c3), 0) w3 hJ3 (by rw [HPRE.out]; exact hx) (by rw [HPRE.out]; exact HLT.out)
          have hy' : (Instr.yield l #[.slice A3 n3 c3, .int .i64 0]).run Try.prog w3 = .ok (.round l fn tmps assign body) w3 := hy
          have HRR := Lib.hid (hR.mono (R' := fun e B => ∃ q : Bool, e = .returned (.bool q) ∧ (q = true → J (pre ++ [((A3, n3, c3), 0)]) B ∧ KpS sd B0 w3 B) ∧ (q = false → JL B)) (fun e B h => h.elim (fun h => ⟨true, h.1, fun _ => h.2, fun e => by cases e⟩) (fun h => ⟨false, h.1, fun e => (by cases e), fun _ => h.2⟩)))
          have HM3 := Lib.hid hM3
          have HE3 := Lib.hid hE3
          clear hy hR hJ3 hM3 hE3 hx hJr z1 z2 z3 z4 k0 k1 k2 a1 l1 l2 C
          go_wp2_with fail
          gi_wp2_with (first
            | ((try refine ⟨fun h => (by cases h), ?_⟩); refine HRR.out.mono ?_; rintro e W2 ⟨q, rfl, hq1, hq2⟩; have hmy := fun h : q = true => HM3.out.yield (hq1 h).2 HBE.out (HJF.out _ _ (hq1 h).1).2.2.2.2.2.2.2; have cw : q = true → W2.cell? ⟨e0 + 1, 0, none⟩ = some (.slice Av k cv) := fun h => (hmy h).box.cell 0; have HMY := Lib.hid hmy; have HEY := Lib.hid (fun h : q = true => HE3.out.yield (hq1 h).2 (Nat.le_trans HBE.out (Nat.le_add_right _ _))); have HQ1 := Lib.hid hq1; clear hmy hq1)
            | (gi_at_builtin
               have hqt : q = true := by assumption
               have hm2 := HMY.out hqt
               have hb2 : Below W2.heap.size W2 (W2.alloc (.cells #[.slice A3 n3 c3] 45)) := bel_al0 W2 _
               have hsd2 : sd < W2.heap.size := by have := hm2.box.lt; have := HBSD.out; omega
               refine wpListIn_append_own_at _ rfl _ _ 46 rfl e0 45 i1 _ 1 24 Try.underlying46 hi1 hy0 hy1 hy2 rfl (by omega) (.slice Av k cv) k ((pre.map Prod.fst).map Hd.val) rfl (hm2.row.alloc _) ⟨W2.heap.size, 0, none⟩ 1 1 [Hd.val (A3, n3, c3)] rfl rfl
                 (World.news_of_block (cs := #[Hd.val (A3, n3, c3)]) (t := 45) (fr := (0, 0)) (heap_alloc_new W2 _)) (by simp [Value.oneCell', Hd.val]) (by unfold maxLen; omega) (by omega) (by rw [World.size_alloc]; have := hm2.box.lt; omega) ?_
               intro v4 W4 hown4 hg4 _ hv4
               have hm3 := hm2.below hb2 hsd2
               have he3 := (HEY.out hqt).below hb2 hsd2
               have HM4 := Lib.hid (hm3.push he3 HC3.out HBSD.out hown4 hg4 hv4)
               have HJ4 := Lib.hid (HJS.out _ _ _ (HJ.out _ _ _ (HQ1.out hqt).1 hb2) (hm3.soft (er := 0) (v' := v4) rfl he3 HBE.out hg4))
               have cb4 : W4.cell? ⟨e0 + 1, 0, none⟩ = some (.slice Av k cv) := (cell_grown hg4 hm3.box.lt (fun e => by have h1 := hm3.own _ e; omega)).trans (hm3.box.cell 0)
               have fb4 : W4.frozen? ⟨e0 + 1, 0, none⟩ = false := (frozen_grown hg4 hm3.box.lt (fun e => by have h1 := hm3.own _ e; omega)).trans (hm3.box.frozen 0)
               obtain ⟨g4, cap4, e4, _⟩ := hown4.form (by omega)
               subst e4
               clear hown4 hg4 hv4 hm3 he3 hm2 hb2 hsd2))
          · have e1 : sayL ss gg pp (k + 1) = sayL ss gg pp k ++ [T] := by rw [sayL, HT.out]
            refine ⟨⟨k + 1, .slice (some ⟨g4, 0, none⟩) (k + 1) cap4, pre ++ [((A3, n3, c3), 0)], by omega, by go_num, by rw [List.length_append, HPRE.out]; rfl, HJ4.out, ?_⟩, by simp [intOf]; omega⟩
            rw [e1, List.map_append, List.map_singleton]
            exact HM4.out
          · refine bodyPost_ret (results_none rfl _ _ _) rfl ?_
            exact ⟨⟨_, rfl⟩, .inr (hq2 (Bool.eq_false_iff.2 (by assumption)))⟩
        · have HNE := Lib.hid hE0
          clear hE0
          gi_wp2_with fail
          refine wpIn_wide.2 ?_
          go_region_held3 (fun w' => w'.cell? ⟨sb, 0, none⟩ = some (.int .i64 2) ∧ w'.cell? ⟨sb, 1, none⟩ = some (.int .i64 (a : Int)) ∧ w'.cell? ⟨sb, 2, none⟩ = some (.int .i64 (c : Int)) ∧ w'.cell? ⟨e0 + 2, 2, none⟩ = some (.func (.func 74) #[] #[.pointer (some ⟨Bs, 0, none⟩), .pointer (some ⟨e0 + 1, 0, none⟩)]))
            (first | exact ⟨k0, k1, k2, a1⟩ | exact ⟨z1, z2, z3, z4⟩)
            ((go_at_call 74; ((with_reducible refine (C.out _ HB1.out.drew).mono ?_); rintro e w3 ⟨A3, n3, c3, rfl, hI3, hc3, hf3, hB3⟩); have z1 := (hB3.cell (p := ⟨sb, 0, none⟩) l1).trans k0; have z2 := (hB3.cell (p := ⟨sb, 1, none⟩) l1).trans k1; have z3 := (hB3.cell (p := ⟨sb, 2, none⟩) l1).trans k2; have z4 := (hB3.cell (p := ⟨e0 + 2, 2, none⟩) l2).trans a1; have HI3 := Lib.hid hI3; have HC3 := Lib.hid hc3; have HF3 := Lib.hid (fun g hg => Nat.le_trans HB1.out.size (hf3 g hg)); have HB3 := Lib.hid (below_then HB1.out.drew hB3); clear hI3 hc3 hf3 hB3))
          have hJ3 := HJ.out pre wr w3 hJr HB3.out
          have hM3 := HM.out.below HB3.out HSD.out
          have hE3 : ElAt w3 (e0 + 3) (Value.slice Av k cv).ownBlock (rowOf w3 sd) (A3, n3, c3) T := ElAt.of_new HI3.out HF3.out (fun g e => (HM.out.row.lt g e).2) (fun g e => HM.out.lt g (by rw [← rowOf_below HB3.out HSD.out]; exact e)) HE0.out
          have hx : HxS ss gg pp sd B0 k ((A3, n3, c3), E) w3 := ⟨HER.out.symm, by rw [HT.out]; exact hE3.but2, HC3.out, fun hn b off e => by obtain ⟨b', off', e', q1, _⟩ := hE3.mem hn; have e2 := e.symm.trans e'; have := HBE.out; cases e2; omega⟩
          obtain ⟨fn, tmps, assign, body, hy, hR⟩ := HY.out (n - 1) pre ((A3, n3, c3), E) w3 hJ3 (by rw [HPRE.out]; exact hx) (by rw [HPRE.out]; exact HLT.out)
          have hy' : (Instr.yield l #[.slice A3 n3 c3, .int .i64 E]).run Try.prog w3 = .ok (.round l fn tmps assign body) w3 := hy
          have HRR := Lib.hid (hR.mono (R' := fun e B => e = .returned (.bool false) ∧ JL B) (fun e B h => h.elim (fun h => absurd ((HJF.out _ B h.2.1).2.2.2.2.2.2.1 k (by rw [List.length_append, HPRE.out]; simp)) (by rw [HER.out]; exact HNE.out)) (fun h => h)))
          clear hy hR hJ3 hM3 hE3 hx hJr z1 z2 z3 z4 k0 k1 k2 a1 l1 l2 C
          go_wp2_with fail
          gi_wp2_with ((try refine ⟨fun h => (by cases h), ?_⟩); refine HRR.out.mono ?_; rintro e W2 ⟨rfl, hq2⟩)
          refine bodyPost_ret (results_none rfl _ _ _) rfl ?_
          exact ⟨⟨_, rfl⟩, .inr hq2⟩
    · obtain rfl : k = np := by omega
      clear hF
      gi_wp2
      go_end0
      exact ⟨⟨_, rfl⟩, .inl ⟨pre, (HPRE.out.trans HNP.out : pre.length = pp.length), hJr⟩⟩

end Go.Proofs.Ytojofbmpknpggaa
