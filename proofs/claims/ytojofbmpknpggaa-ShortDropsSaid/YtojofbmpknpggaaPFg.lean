/- The reader of trees: its closure. -/
import Derived.Test.YtojofbmpknpggaaY21g
import Derived.WalkSpells
import Derived.BigQuiet
import Derived.Deep.QuietTactic
import Derived.Test.YtojofbmpknpggaaKFg
import Derived.Test.YtojofbmpknpggaaN2g
/- Words for steps in memory: a list of steps; a map from steps to where they stand; when a proof is valid. -/
namespace Go.Proofs.Ytojofbmpknpggaa
open Go.RowKit Go.WideMaps

/-- A step: its kind, A and B. -/
abbrev Stp := Int × Int × Int
/-- The slice value '.slice A n c' reads as the steps pp. -/
structure StepsAt (w : World) (B : Nat) (A : Option Addr) (n : Nat) (pp : List Stp) : Prop where
  len : n = pp.length
  max : n ≤ 9223372036854775807
  mem : 0 < n → ∃ b off, A = some ⟨b, off, none⟩ ∧ b < B ∧ ∀ j (h : j < pp.length), w.cell? ⟨b, off + j * 3, none⟩ = some (.int .i64 pp[j].1) ∧ w.cell? ⟨b, off + j * 3 + 1, none⟩ = some (.int .i64 pp[j].2.1) ∧ w.cell? ⟨b, off + j * 3 + 2, none⟩ = some (.int .i64 pp[j].2.2)
section
variable {w w' : World} {B B' n : Nat} {A : Option Addr} {pp : List Stp}
theorem StepsAt.keep (h : StepsAt w B A n pp) (hk : ∀ p : Addr, p.block < B → w'.cell? p = w.cell? p) : StepsAt w' B A n pp :=
  ⟨h.len, h.max, fun hn => by
    obtain ⟨b, off, e, hb, hc⟩ := h.mem hn
    exact ⟨b, off, e, hb, fun j x => ⟨(hk _ hb).trans (hc j x).1, (hk _ hb).trans (hc j x).2.1, (hk _ hb).trans (hc j x).2.2⟩⟩⟩
theorem StepsAt.more (h : StepsAt w B A n pp) (hB : B ≤ B') : StepsAt w B' A n pp :=
  ⟨h.len, h.max, fun hn => by
    obtain ⟨b, off, e, hb, hc⟩ := h.mem hn
    exact ⟨b, off, e, by omega, hc⟩⟩
theorem StepsAt.below (h : StepsAt w B A n pp) (hb : Below B w w') : StepsAt w' B A n pp := h.keep fun _ hp => hb.cell hp
theorem StepsAt.up (h : StepsAt w w.heap.size A n pp) (hb : Below w.heap.size w w') : StepsAt w' w'.heap.size A n pp := (h.below hb).more hb.size
theorem StepsAt.cellAt (h : StepsAt w B A n pp) {k : Nat} (hk : k < n) :
    ∃ b off x y z, A = some ⟨b, off, none⟩ ∧ b < B ∧ w.cell? ⟨b, off + k * 3, none⟩ = some (.int .i64 x) ∧ w.cell? ⟨b, off + k * 3 + 1, none⟩ = some (.int .i64 y) ∧ w.cell? ⟨b, off + k * 3 + 2, none⟩ = some (.int .i64 z) ∧ pp[k]? = some (x, y, z) := by
  obtain ⟨b, off, e, hb, hc⟩ := h.mem (by omega)
  have h1 : k < pp.length := by rw [← h.len]; exact hk
  obtain ⟨c1, c2, c3⟩ := hc k h1
  exact ⟨b, off, _, _, _, e, hb, c1, c2, c3, List.getElem?_eq_getElem h1⟩
theorem StepsAt.nil (w : World) (B : Nat) (A : Option Addr) : StepsAt w B A 0 [] := ⟨rfl, by omega, fun h => absurd h (by omega)⟩
end

/-- Whether a step may have the index i in a proof for g givens. -/
def stepOk (g i : Int) (x : Stp) : Bool :=
  if x.1 = 1 then (decide (0 ≤ x.2.1 ∧ x.2.1 < g) && decide (x.2.2 = 0))
  else if x.1 = 2 then (decide (0 ≤ x.2.1 ∧ x.2.1 < i) && decide (0 ≤ x.2.2 ∧ x.2.2 < i)) else false
/-- Whether the first k steps may be so. -/
def stepsTo (g : Int) (pp : List Stp) (k : Nat) : Prop := ∀ j (_h : j < k) (x : Stp), pp[j]? = some x → stepOk g j x = true
def proofOk (g : Int) (pp : List Stp) : Bool :=
  decide (0 ≤ g ∧ g ≤ 60) && decide (1 ≤ pp.length ∧ pp.length ≤ 60) && (List.range pp.length).all fun j => stepOk g j (pp.getD j (0, 0, 0))
theorem stepsTo_zero (g : Int) (pp : List Stp) : stepsTo g pp 0 := fun j h => by omega
theorem stepsTo_succ {g : Int} {pp : List Stp} {k : Nat} {x : Stp} (h : stepsTo g pp k) (hx : pp[k]? = some x) (e : stepOk g k x = true) : stepsTo g pp (k + 1) := by
  intro j hj y hy
  by_cases hjk : j < k
  · exact h j hjk y hy
  · obtain rfl : j = k := by omega
    rw [hx] at hy
    cases hy
    exact e
theorem proofOk_bad {g : Int} {pp : List Stp} {k : Nat} {x : Stp} (hx : pp[k]? = some x) (e : stepOk g k x = false) : proofOk g pp = false := by
  obtain ⟨hk, rfl⟩ := List.getElem?_eq_some_iff.1 hx
  unfold proofOk
  have : ((List.range pp.length).all fun j => stepOk g j (pp.getD j (0, 0, 0))) = false := by
    rw [List.all_eq_false]
    refine ⟨k, List.mem_range.2 hk, ?_⟩
    rw [List.getD_eq_getElem?_getD, List.getElem?_eq_getElem hk]
    simp [e]
  rw [this, Bool.and_false]
theorem proofOk_all {g : Int} {pp : List Stp} (h1 : 0 ≤ g ∧ g ≤ 60) (h2 : 1 ≤ pp.length ∧ pp.length ≤ 60) (h : stepsTo g pp pp.length) : proofOk g pp = true := by
  unfold proofOk
  rw [decide_eq_true h1, decide_eq_true h2]
  simp only [Bool.true_and, List.all_eq_true, List.mem_range]
  intro j hj
  rw [List.getD_eq_getElem?_getD, List.getElem?_eq_getElem hj]
  exact h j hj _ (List.getElem?_eq_getElem hj)
theorem proofOk_num {g : Int} {pp : List Stp} (h : ¬ (0 ≤ g ∧ g ≤ 60)) : proofOk g pp = false := by
  unfold proofOk
  rw [decide_eq_false h]
  simp
theorem proofOk_len {g : Int} {pp : List Stp} (h : ¬ (1 ≤ pp.length ∧ pp.length ≤ 60)) : proofOk g pp = false := by
  unfold proofOk
  rw [decide_eq_false h]
  simp
theorem proofOk_to {g : Int} {pp : List Stp} (h : proofOk g pp = true) : (0 ≤ g ∧ g ≤ 60) ∧ (1 ≤ pp.length ∧ pp.length ≤ 60) ∧ stepsTo g pp pp.length := by
  unfold proofOk at h
  rw [Bool.and_eq_true, Bool.and_eq_true, decide_eq_true_iff, decide_eq_true_iff, List.all_eq_true] at h
  refine ⟨h.1.1, h.1.2, fun j hj x hx => ?_⟩
  have := h.2 j (List.mem_range.2 hj)
  rw [List.getD_eq_getElem?_getD, hx] at this
  exact this
theorem stepOk_num {g i : Int} {x : Stp} (h : stepOk g i x = true) : (x.1 = 1 ∧ 0 ≤ x.2.1 ∧ x.2.1 < g ∧ x.2.2 = 0) ∨ (x.1 = 2 ∧ 0 ≤ x.2.1 ∧ x.2.1 < i ∧ 0 ≤ x.2.2 ∧ x.2.2 < i) := by
  unfold stepOk at h
  split at h
  · rename_i h1
    simp at h
    exact .inl ⟨h1, h.1.1, h.1.2, h.2⟩
  · split at h
    · rename_i h2
      simp at h
      exact .inr ⟨h2, h.1.1, h.1.2, h.2.1, h.2.2⟩
    · cases h

/-- What is handed back: steps in memory, and an error. -/
def RetS (w : World) (pp : List Stp) (er : Int) (e : Ending) (w' : World) : Prop :=
  ∃ A n c, e = .returned (.tuple #[.slice A n c, .int .i64 er]) ∧ StepsAt w' w'.heap.size A n pp ∧ Below w.heap.size w w'

/-- A step that is a key: its numbers are small. -/
def GoodStp (x : Stp) : Prop := (-1000000 ≤ x.1 ∧ x.1 ≤ 1000000) ∧ (-1000000 ≤ x.2.1 ∧ x.2.1 ≤ 1000000) ∧ -1000000 ≤ x.2.2 ∧ x.2.2 ≤ 1000000
def skey (x : Stp) : Lit := .string (keyBytes [.int .i64 x.1, .int .i64 x.2.1, .int .i64 x.2.2])
/-- Block bm is the map of the steps met, each with where it stands. -/
def StepMap (w : World) (bm : Nat) (met : List Stp) : Prop :=
  (∀ x ∈ met, GoodStp x) ∧ ∃ D : DataW Unit, w.ownsMap Try.prog 33 (plainElem Try.prog 3) bm met.length D ∧ (Maps.Tidy D ∧ Maps.size D = met.length) ∧ (∀ x, GoodStp x → Maps.has D (skey x) = met.contains x) ∧ ∀ x, GoodStp x → met.contains x = true → D.atKey (skey x) (.lit (.int .i64 0)) = .lit (.int .i64 (met.idxOf x : Int))
section
variable {w w' : World} {bm : Nat} {met : List Stp} {row : Option Nat} {x : Stp}
theorem StepMap.made (w : World) : StepMap (w.alloc (.map #[] 0)) w.heap.size [] := ⟨by simp, .map [], World.ownsMap_made _ _ _ _, ⟨Maps.tidy_empty, rfl⟩, fun _ _ => rfl, fun x _ h => by simp at h⟩
theorem StepMap.lt (h : StepMap w bm met) : bm < w.heap.size := by obtain ⟨_, D, h1, _⟩ := h; exact h1.lt
theorem StepMap.isMap (h : StepMap w bm met) : ∃ es c, w.heap[bm]? = some (.map es c) := by obtain ⟨_, D, ⟨es, c, h1, _⟩, _⟩ := h; exact ⟨es, c, h1⟩
theorem StepMap.grown (h : StepMap w bm met) (hg : w.grownBy w' row) (hr : some bm ≠ row) : StepMap w' bm met := by
  obtain ⟨hg0, D, h1, h2⟩ := h
  exact ⟨hg0, D, h1.kept hg hr, h2⟩
end

end Go.Proofs.Ytojofbmpknpggaa

/- What the reader of trees makes of a text: mathematics. -/
namespace Go.Proofs.Ytojofbmpknpggaa
open Go.RowKit

/-- What a reader hands back: where the part stands, the steps, what is left. -/
abbrev Rd := Option Nat × List Stp × List UInt8
/-- What is bounded: steps and letters together do not become more; a part stands among the steps. -/
structure RdLe (P : List Stp) (l : List UInt8) (r : Rd) : Prop where
  sum : r.2.1.length + r.2.2.length ≤ P.length + l.length
  more : P.length ≤ r.2.1.length
  less : r.2.2.length ≤ l.length
  at_ : ∀ i, r.1 = some i → i < r.2.1.length ∧ r.2.2.length < l.length
  good : P.length + l.length ≤ 1000000 → (∀ x ∈ P, GoodStp x) → ∀ x ∈ r.2.1, GoodStp x
theorem RdLe.trans {P : List Stp} {l : List UInt8} {q r : Rd} (h : RdLe P l q) (h' : RdLe q.2.1 q.2.2 r) : RdLe P l r where
  sum := Nat.le_trans h'.sum h.sum
  more := Nat.le_trans h.more h'.more
  less := Nat.le_trans h'.less h.less
  at_ := fun i hi => ⟨(h'.at_ i hi).1, Nat.lt_of_lt_of_le (h'.at_ i hi).2 h.less⟩
  good := fun hn hg => h'.good (Nat.le_trans h.sum hn) (h.good hn hg)
theorem RdLe.cons {P : List Stp} {l : List UInt8} {c : UInt8} {r : Rd} (h : RdLe P l r) : RdLe P (c :: l) r where
  sum := by have := h.sum; simp; omega
  more := h.more
  less := by have := h.less; simp; omega
  at_ := fun i hi => by have := h.at_ i hi; simp; omega
  good := fun hn hg => h.good (by simp at hn; omega) hg
end Go.Proofs.Ytojofbmpknpggaa

/- Contracts: isDigit, citation. -/
namespace Go.Proofs.Ytojofbmpknpggaa
open Go.RowKit

end Go.Proofs.Ytojofbmpknpggaa

/- The reader of trees in memory: its boxes. -/
namespace Go.Proofs.Ytojofbmpknpggaa
open Go.RowKit

theorem info_step : (Try.prog.info? 33).map (fun i => (i.zero, i.size, i.bytes)) = some (some (.agg #[.int .i64 0, .int .i64 0, .int .i64 0]), 3, 24) := by kernel_rfl
/-- The cells of steps. -/
def flatS : List Stp → List Value
  | [] => []
  | x :: pp => .int .i64 x.1 :: .int .i64 x.2.1 :: .int .i64 x.2.2 :: flatS pp
theorem flatS_len : ∀ pp : List Stp, (flatS pp).length = pp.length * 3
  | [] => rfl
  | x :: pp => by simp only [flatS, List.length_cons]; rw [flatS_len pp]; omega
theorem flatS_snoc : ∀ (pp : List Stp) (x : Stp), flatS (pp ++ [x]) = flatS pp ++ [.int .i64 x.1, .int .i64 x.2.1, .int .i64 x.2.2]
  | [], x => rfl
  | y :: pp, x => by simp only [List.cons_append, flatS]; rw [flatS_snoc pp x]
theorem flatS_get : ∀ (pp : List Stp) (j : Nat) (h : j < pp.length), (flatS pp)[j * 3]? = some (.int .i64 pp[j].1) ∧ (flatS pp)[j * 3 + 1]? = some (.int .i64 pp[j].2.1) ∧ (flatS pp)[j * 3 + 2]? = some (.int .i64 pp[j].2.2)
  | [], _, h => by simp at h
  | x :: pp, 0, _ => ⟨rfl, rfl, rfl⟩
  | x :: pp, j + 1, h => by
    have := flatS_get pp j (by simpa using h)
    simp only [flatS, List.getElem_cons_succ]
    rw [show (j + 1) * 3 = j * 3 + 1 + 1 + 1 from by omega]
    simpa using this
theorem row_steps {w : World} {base k : Nat} {v : Value} {pp : List Stp} (h : w.ownsRow base 33 3 v k (flatS pp)) (hk : k ≤ 1000000) : ∃ A c, v = .slice A k c ∧ StepsAt w w.heap.size A k pp ∧ k ≤ c ∧ c ≤ 9223372036854775807 := by
  obtain ⟨hl, ⟨rfl, rfl⟩ | ⟨g, cap, cur, rfl, hbg, hcur, hn1, hn2, hsz, htk⟩⟩ := h
  · rw [flatS_len] at hl
    have : pp.length = 0 := by omega
    obtain rfl := List.eq_nil_of_length_eq_zero this
    exact ⟨none, 0, rfl, StepsAt.nil _ _ _, by omega, by omega⟩
  · rw [flatS_len] at hl
    refine ⟨some ⟨g, 0, none⟩, cap, rfl, ⟨by omega, by omega, fun _ => ⟨g, 0, rfl, Blk.lt (t := 33) hcur, fun j hj => ?_⟩⟩, by omega, by unfold maxLen at hn2; omega⟩
    have hf := flatS_get pp j hj
    have key : ∀ i, i < k * 3 → cur[i]? = (flatS pp)[i]? := by
      intro i hi
      rw [← htk, List.getElem?_take, if_pos hi, Array.getElem?_toList]
    refine ⟨?_, ?_, ?_⟩
    · rw [Blk.cell (t := 33) hcur, Nat.zero_add, key _ (by omega)]
      exact hf.1
    · rw [Blk.cell (t := 33) hcur, Nat.zero_add, key _ (by omega)]
      exact hf.2.1
    · rw [Blk.cell (t := 33) hcur, Nat.zero_add, key _ (by omega)]
      exact hf.2.2

theorem StepMap.same {w w' : World} {bm : Nat} {met : List Stp} (h : StepMap w bm met) (hk : w'.heap[bm]? = w.heap[bm]?) : StepMap w' bm met := by
  obtain ⟨hg, D, ⟨es, c, h1, h2⟩, h3⟩ := h
  exact ⟨hg, D, ⟨es, c, hk.trans h1, h2⟩, h3⟩

/-- The boxes of the reader: the rest's, the function's, the givens', the map's, the steps'; the map. -/
structure PBox (Br Bn Bg Bk Bp bm N0 : Nat) : Prop where
  lt : Br < N0 ∧ Bn < N0 ∧ Bg < N0 ∧ Bk < N0 ∧ Bp < N0 ∧ bm < N0
  nr : Bn ≠ Br ∧ Bg ≠ Br ∧ Bk ≠ Br ∧ Bp ≠ Br ∧ bm ≠ Br
  np : Br ≠ Bp ∧ Bn ≠ Bp ∧ Bg ≠ Bp ∧ Bk ≠ Bp ∧ bm ≠ Bp
  nm : Br ≠ bm ∧ Bn ≠ bm ∧ Bg ≠ bm ∧ Bk ≠ bm ∧ Bp ≠ bm
/-- What reading keeps. -/
structure PlantK (Br Bp bm : Nat) (v v' : Value) (w w' : World) : Prop where
  keep : KeepE (fun b => b < w.heap.size ∧ b ≠ Br ∧ b ≠ Bp ∧ b ≠ bm ∧ v.ownBlock ≠ some b) w w'
  own : ∀ g, v'.ownBlock = some g → v.ownBlock = some g ∨ w.heap.size ≤ g
section
variable {Br Bn Bg Bk Bp bm N0 : Nat} {g : Int} {v v' v'' : Value} {M M' P P' : List Stp} {r r' : ByteArray} {w w' w'' : World}
theorem PlantK.refl (Br Bp bm : Nat) (v : Value) (w : World) : PlantK Br Bp bm v v w w := ⟨KeepE.refl _ _, fun _ h => .inl h⟩
theorem PlantK.next (h : PlantK Br Bp bm v v' w w') (h2 : PlantK Br Bp bm v' v'' w' w'') : PlantK Br Bp bm v v'' w w'' := by
  refine ⟨h.keep.trans (h2.keep.mono fun b hb => ⟨Nat.lt_of_lt_of_le hb.1 h.keep.size, hb.2.1, hb.2.2.1, hb.2.2.2.1, fun e => ?_⟩), fun g hg => ?_⟩
  · rcases h.own b e with h3 | h3
    · exact hb.2.2.2.2 h3
    · have := hb.1; omega
  · rcases h2.own g hg with h3 | h3
    · exact h.own g h3
    · exact .inr (Nat.le_trans h.keep.size h3)
theorem PlantK.of_below (h : Below w.heap.size w w') : PlantK Br Bp bm v v w w' := ⟨KeepE.of_below h fun _ hb => hb.1, fun _ h => .inl h⟩
theorem PlantK.below (h : PlantK Br Bp bm v v' w w') {B : Nat} (h1 : B ≤ Br ∧ B ≤ Bp ∧ B ≤ bm) (hn : B ≤ w.heap.size) (hr : ∀ g, v.ownBlock = some g → B ≤ g) : Below B w w' :=
  h.keep.below fun b hb' => ⟨by omega, by omega, by omega, by omega, fun e => by have := hr b e; omega⟩
theorem PlantK.set (h : PlantK Br Bp bm v v' w w') {sb i : Nat} (hs : w.heap.size ≤ sb ∨ sb = Br ∨ sb = Bp) (u : Value) : PlantK Br Bp bm v v' w (w'.setCell ⟨sb, i, none⟩ u) :=
  ⟨h.keep.trans (KeepE.set (p := ⟨sb, i, none⟩) (fun hb => by
    have h1 : sb < w.heap.size := hb.1
    have h2 : sb ≠ Br := hb.2.1
    have h3 : sb ≠ Bp := hb.2.2.1
    rcases hs with h | h | h
    · omega
    · exact h2 h
    · exact h3 h) u), h.own⟩
end

end Go.Proofs.Ytojofbmpknpggaa

namespace Go.Proofs.Ytojofbmpknpggaa
open Go.RowKit

end Go.Proofs.Ytojofbmpknpggaa
