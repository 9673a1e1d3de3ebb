/- The reader of trees: its closure. -/
import Derived.Test.YtippmpcaongolaaY19g
import Derived.WalkSpells
import Derived.BigQuiet
import Derived.Deep.QuietTactic
import Derived.Test.YtippmpcaongolaaKFg
import Derived.Test.YtippmpcaongolaaN2g
/- Words for steps in memory: a list of steps; a map from steps to where they stand; when a proof is valid. -/
namespace Go.Proofs.Ytippmpcaongolaa
open Go.RowKit Go.WideMaps

/-- A step: its kind, A and B. -/
abbrev Stp := Int × Int × Int
/-- The slice value '.slice A n c' reads as the steps pp. -/
structure StepsAt (w : World) (B : Nat) (A : Option Addr) (n : Nat) (pp : List Stp) : Prop where
  len : n = pp.length
  max : n ≤ 9223372036854775807
  mem : 0 < n → ∃ b off, A = some ⟨b, off, none⟩ ∧ b < B ∧ ∀ j (h : j < pp.length), w.cell? ⟨b, off + j * 3, none⟩ = some (.int .i64 pp[j].1) ∧ w.cell? ⟨b, off + j * 3 + 1, none⟩ = some (.int .i64 pp[j].2.1) ∧ w.cell? ⟨b, off + j * 3 + 2, none⟩ = some (.int .i64 pp[j].2.2)
section
variable {w w' : World} {B B' n : Nat} {A : Option Addr} {pp : List Stp}
theorem StepsAt.keep (h : StepsAt w B A n pp) (hk : ∀ p : Addr, p.block < B → w'.cell? p = w.cell? p) : StepsAt w' B A n pp :=
  ⟨h.len, h.max, fun hn => by
    obtain ⟨b, off, e, hb, hc⟩ := h.mem hn
    exact ⟨b, off, e, hb, fun j x => ⟨(hk _ hb).trans (hc j x).1, (hk _ hb).trans (hc j x).2.1, (hk _ hb).trans (hc j x).2.2⟩⟩⟩
theorem StepsAt.more (h : StepsAt w B A n pp) (hB : B ≤ B') : StepsAt w B' A n pp :=
  ⟨h.len, h.max, fun hn => by
    obtain ⟨b, off, e, hb, hc⟩ := h.mem hn
    exact ⟨b, off, e, by omega, hc⟩⟩
theorem StepsAt.below (h : StepsAt w B A n pp) (hb : Below B w w') : StepsAt w' B A n pp := h.keep fun _ hp => hb.cell hp
theorem StepsAt.up (h : StepsAt w w.heap.size A n pp) (hb : Below w.heap.size w w') : StepsAt w' w'.heap.size A n pp := (h.below hb).more hb.size
theorem StepsAt.cellAt (h : StepsAt w B A n pp) {k : Nat} (hk : k < n) :
    ∃ b off x y z, A = some ⟨b, off, none⟩ ∧ b < B ∧ w.cell? ⟨b, off + k * 3, none⟩ = some (.int .i64 x) ∧ w.cell? ⟨b, off + k * 3 + 1, none⟩ = some (.int .i64 y) ∧ w.cell? ⟨b, off + k * 3 + 2, none⟩ = some (.int .i64 z) ∧ pp[k]? = some (x, y, z) := by
  obtain ⟨b, off, e, hb, hc⟩ := h.mem (by omega)
  have h1 : k < pp.length := by rw [← h.len]; exact hk
  obtain ⟨c1, c2, c3⟩ := hc k h1
  exact ⟨b, off, _, _, _, e, hb, c1, c2, c3, List.getElem?_eq_getElem h1⟩
theorem StepsAt.nil (w : World) (B : Nat) (A : Option Addr) : StepsAt w B A 0 [] := ⟨rfl, by omega, fun h => absurd h (by omega)⟩
end

/-- Whether a step may have the index i in a proof for g givens. -/
def stepOk (g i : Int) (x : Stp) : Bool :=
  if x.1 = 1 then (decide (0 ≤ x.2.1 ∧ x.2.1 < g) && decide (x.2.2 = 0))
  else if x.1 = 2 then (decide (0 ≤ x.2.1 ∧ x.2.1 < i) && decide (0 ≤ x.2.2 ∧ x.2.2 < i)) else false
/-- Whether the first k steps may be so. -/
def stepsTo (g : Int) (pp : List Stp) (k : Nat) : Prop := ∀ j (_h : j < k) (x : Stp), pp[j]? = some x → stepOk g j x = true
def proofOk (g : Int) (pp : List Stp) : Bool :=
  decide (0 ≤ g ∧ g ≤ 60) && decide (1 ≤ pp.length ∧ pp.length ≤ 60) && (List.range pp.length).all fun j => stepOk g j (pp.getD j (0, 0, 0))
theorem stepsTo_zero (g : Int) (pp : List Stp) : stepsTo g pp 0 := fun j h => by omega
theorem stepsTo_succ {g : Int} {pp : List Stp} {k : Nat} {x : Stp} (h : stepsTo g pp k) (hx : pp[k]? = some x) (e : stepOk g k x = true) : stepsTo g pp (k + 1) := by
  intro j hj y hy
  by_cases hjk : j < k
  · exact h j hjk y hy
  · obtain rfl : j = k := by omega
    rw [hx] at hy
    cases hy
    exact e
theorem proofOk_bad {g : Int} {pp : List Stp} {k : Nat} {x : Stp} (hx : pp[k]? = some x) (e : stepOk g k x = false) : proofOk g pp = false := by
  obtain ⟨hk, rfl⟩ := List.getElem?_eq_some_iff.1 hx
  unfold proofOk
  have : ((List.range pp.length).all fun j => stepOk g j (pp.getD j (0, 0, 0))) = false := by
    rw [List.all_eq_false]
    refine ⟨k, List.mem_range.2 hk, ?_⟩
    rw [List.getD_eq_getElem?_getD, List.getElem?_eq_getElem hk]
    simp [e]
  rw [this, Bool.and_false]
theorem proofOk_all {g : Int} {pp : List Stp} (h1 : 0 ≤ g ∧ g ≤ 60) (h2 : 1 ≤ pp.length ∧ pp.length ≤ 60) (h : stepsTo g pp pp.length) : proofOk g pp = true := by
  unfold proofOk
  rw [decide_eq_true h1, decide_eq_true h2]
  simp only [Bool.true_and, List.all_eq_true, List.mem_range]
  intro j hj
  rw [List.getD_eq_getElem?_getD, List.getElem?_eq_getElem hj]
  exact h j hj _ (List.getElem?_eq_getElem hj)
theorem proofOk_num {g : Int} {pp : List Stp} (h : ¬ (0 ≤ g ∧ g ≤ 60)) : proofOk g pp = false := by
  unfold proofOk
  rw [decide_eq_false h]
  simp
theorem proofOk_len {g : Int} {pp : List Stp} (h : ¬ (1 ≤ pp.length ∧ pp.length ≤ 60)) : proofOk g pp = false := by
  unfold proofOk
  rw [decide_eq_false h]
  simp
theorem proofOk_to {g : Int} {pp : List Stp} (h : proofOk g pp = true) : (0 ≤ g ∧ g ≤ 60) ∧ (1 ≤ pp.length ∧ pp.length ≤ 60) ∧ stepsTo g pp pp.length := by
  unfold proofOk at h
  rw [Bool.and_eq_true, Bool.and_eq_true, decide_eq_true_iff, decide_eq_true_iff, List.all_eq_true] at h
  refine ⟨h.1.1, h.1.2, fun j hj x hx => ?_⟩
  have := h.2 j (List.mem_range.2 hj)
  rw [List.getD_eq_getElem?_getD, hx] at this
  exact this
theorem stepOk_num {g i : Int} {x : Stp} (h : stepOk g i x = true) : (x.1 = 1 ∧ 0 ≤ x.2.1 ∧ x.2.1 < g ∧ x.2.2 = 0) ∨ (x.1 = 2 ∧ 0 ≤ x.2.1 ∧ x.2.1 < i ∧ 0 ≤ x.2.2 ∧ x.2.2 < i) := by
  unfold stepOk at h
  split at h
  · rename_i h1
    simp at h
    exact .inl ⟨h1, h.1.1, h.1.2, h.2⟩
  · split at h
    · rename_i h2
      simp at h
      exact .inr ⟨h2, h.1.1, h.1.2, h.2.1, h.2.2⟩
    · cases h

/-- What is handed back: steps in memory, and an error. -/
def RetS (w : World) (pp : List Stp) (er : Int) (e : Ending) (w' : World) : Prop :=
  ∃ A n c, e = .returned (.tuple #[.slice A n c, .int .i64 er]) ∧ StepsAt w' w'.heap.size A n pp ∧ Below w.heap.size w w'

/-- A step that is a key: its numbers are small. -/
def GoodStp (x : Stp) : Prop := (-1000000 ≤ x.1 ∧ x.1 ≤ 1000000) ∧ (-1000000 ≤ x.2.1 ∧ x.2.1 ≤ 1000000) ∧ -1000000 ≤ x.2.2 ∧ x.2.2 ≤ 1000000
def sval (x : Stp) : Value := .agg #[.int .i64 x.1, .int .i64 x.2.1, .int .i64 x.2.2]
def skey (x : Stp) : Lit := .string (keyBytes [.int .i64 x.1, .int .i64 x.2.1, .int .i64 x.2.2])
theorem step_law : KeyLaw Try.prog 123 := by
  refine deep_law_laid (by kernel_rfl) (m := 3) (by omega) ?_ ?_ ?_
  · exact of_decide_eq_true (by kernel_rfl)
  · kernel_rfl
  · rw [Try.underlying123]
theorem step_keyed : Maps.Keyed Try.prog 123 := Maps.Keyed.of_law step_law
theorem keyOf_step {x : Stp} (h : GoodStp x) : keyOf Try.prog 123 (sval x) = some (skey x) := by
  have hkt : Try.prog.keyType 123 = true := by kernel_rfl
  have hc : Try.prog.cellsOf 123 = 3 := by kernel_rfl
  have hc1 : Try.prog.cellsOf 3 = 1 := by kernel_rfl
  obtain ⟨m, hm⟩ : ∃ m, Try.prog.types.size = m + 1 := by
    have : decide (0 < Try.prog.types.size) = true := by kernel_rfl
    exact ⟨Try.prog.types.size - 1, by have := of_decide_eq_true this; omega⟩
  have hu := Try.underlying123
  have hs := Try.underlying3
  obtain ⟨h1, h2, h3⟩ := h
  have f1 : (Lit.int .i64 x.1).wf = true := WalkArith.wf_i64 (by omega)
  have f2 : (Lit.int .i64 x.2.1).wf = true := WalkArith.wf_i64 (by omega)
  have f3 : (Lit.int .i64 x.2.2).wf = true := WalkArith.wf_i64 (by omega)
  unfold keyOf sval skey
  rw [hu]
  simp only
  rw [if_pos (by rw [hkt]; simp [Value.formed, hu, hc]), hm]
  unfold Program.keyLits
  rw [hu]
  simp only [Value.cells]
  simp [hc, hc1, Program.keyLits, hs, f1, f2, f3]
theorem skey_inj {x y : Stp} (hx : GoodStp x) (hy : GoodStp y) (h : skey x = skey y) : x = y := by
  have h1 := keyOf_step hx
  have h2 := keyOf_step hy
  rw [← h] at h2
  have e := step_law.inj h1 h2
  unfold sval at e
  have e' := Array.toList_inj.2 (Value.agg.inj e)
  simp only [List.cons.injEq, Value.int.injEq, and_true, true_and] at e'
  exact Prod.ext e'.1 (Prod.ext e'.2.1 e'.2.2)

/-- Block bm is the map of the steps met, each with where it stands. -/
def StepMap (w : World) (bm : Nat) (met : List Stp) : Prop :=
  (∀ x ∈ met, GoodStp x) ∧ ∃ D : DataW Unit, w.ownsMap Try.prog 123 (plainElem Try.prog 3) bm met.length D ∧ (Maps.Tidy D ∧ Maps.size D = met.length) ∧ (∀ x, GoodStp x → Maps.has D (skey x) = met.contains x) ∧ ∀ x, GoodStp x → met.contains x = true → D.atKey (skey x) (.lit (.int .i64 0)) = .lit (.int .i64 (met.idxOf x : Int))
section
variable {w w' : World} {bm : Nat} {met : List Stp} {row : Option Nat} {x : Stp}
theorem StepMap.made (w : World) : StepMap (w.alloc (.map #[] 0)) w.heap.size [] := ⟨by simp, .map [], World.ownsMap_made _ _ _ _, ⟨Maps.tidy_empty, rfl⟩, fun _ _ => rfl, fun x _ h => by simp at h⟩
theorem StepMap.lt (h : StepMap w bm met) : bm < w.heap.size := by obtain ⟨_, D, h1, _⟩ := h; exact h1.lt
theorem StepMap.isMap (h : StepMap w bm met) : ∃ es c, w.heap[bm]? = some (.map es c) := by obtain ⟨_, D, ⟨es, c, h1, _⟩, _⟩ := h; exact ⟨es, c, h1⟩
theorem StepMap.grown (h : StepMap w bm met) (hg : w.grownBy w' row) (hr : some bm ≠ row) : StepMap w' bm met := by
  obtain ⟨hg0, D, h1, h2⟩ := h
  exact ⟨hg0, D, h1.kept hg hr, h2⟩
theorem StepMap.look (h : StepMap w bm met) (hx : GoodStp x) :
    ∃ c : Int, (Instr.lookup 138 (.map (some bm)) (sval x) true).run Try.prog w = .ok (.tuple #[.int .i64 c, .bool (met.contains x)]) w ∧ (met.contains x = true → c = (met.idxOf x : Int)) := by
  obtain ⟨_, D, h1, h2, h3, h4⟩ := h
  obtain ⟨v, ps, hrun, hv⟩ := h1.look_ok step_keyed Try.underlying138 (zeroInt w) (plainElem_int Try.underlying3 (by decide)) (key := sval x) (keyOf_step hx)
  obtain ⟨c, rfl, hc, _⟩ := plainElem_int_inv Try.underlying3 hv
  refine ⟨c, by rw [hrun, h3 x hx], fun hk => ?_⟩
  rw [h4 x hx hk] at hc
  have hc' := hc.symm
  simp at hc'
  exact hc'.1
theorem StepMap.put (h : StepMap w bm met) (hx : GoodStp x) (hc : met.contains x = false) (hn : met.length ≤ 1000000) :
    ∃ w', (Instr.mapUpdate 138 (.map (some bm)) (sval x) (.int .i64 (met.length : Int))).run Try.prog w = .ok () w' ∧ StepMap w' bm (met ++ [x]) ∧ w.grownBy w' (some bm) := by
  obtain ⟨hg0, D, h1, ⟨h2, h2s⟩, h3, h4⟩ := h
  obtain ⟨w', hrun, hown, hg⟩ := h1.update step_keyed Try.underlying138 (by unfold maxLen; omega) (key := sval x) (val := .int .i64 (met.length : Int)) (keyOf_step hx) (plainElem_int Try.underlying3 (WalkArith.wf_i64 (by omega)))
  have hkl : WideAt.IsKeyLit (skey x) := by trivial
  have hmem : x ∉ met := by
    intro hm
    have := List.contains_iff_mem.2 hm
    rw [hc] at this
    cases this
  refine ⟨w', hrun, ⟨fun y hy => ?_, _, by simpa using hown, ⟨h2.put hkl _, by rw [Maps.size_put h2, h3 x hx, hc]; simp [h2s]⟩, fun y hy => ?_, fun y hy hyc => ?_⟩, hg⟩
  · rcases List.mem_append.1 hy with hy | hy
    · exact hg0 y hy
    · obtain rfl := List.mem_singleton.1 hy
      exact hx
  · by_cases e : y = x
    · subst e
      rw [Maps.has_put_same h2.isMap hkl]
      simp
    · rw [Maps.has_put_other (fun e2 => e (skey_inj hy hx e2)), h3 y hy]
      simp [e]
  · by_cases e : y = x
    · subst e
      rw [Maps.atKey_put_same h2.isMap hkl, List.idxOf_append, if_neg hmem]
      simp
    · have hy1 : met.contains y = true := by
        have := List.contains_iff_mem.1 hyc
        rcases List.mem_append.1 this with hm | hm
        · exact List.contains_iff_mem.2 hm
        · exact absurd (List.mem_singleton.1 hm) e
      rw [Maps.atKey_put_other (fun e2 => e (skey_inj hy hx e2)), h4 y hy hy1, List.idxOf_append, if_pos (List.contains_iff_mem.1 hy1)]
end

end Go.Proofs.Ytippmpcaongolaa

/- What the reader of trees makes of a text: mathematics. -/
namespace Go.Proofs.Ytippmpcaongolaa
open Go.RowKit

def digB (c : UInt8) : Bool := decide (48 ≤ (c.toNat : Int)) && decide ((c.toNat : Int) ≤ 57)
/-- What a text cites with its first letters. -/
def citF (g : Int) (l : List UInt8) : Int × Bool :=
  match l with
  | a :: b :: c :: _ => if (decide ((a.toNat : Int) = 103) && digB b && digB c) = true then (10 * ((b.toNat : Int) - 48) + ((c.toNat : Int) - 48), decide (10 * ((b.toNat : Int) - 48) + ((c.toNat : Int) - 48) < g)) else (0, false)
  | _ => (0, false)
/-- A step in its place. -/
def placeS (P : List Stp) (x : Stp) : Nat × List Stp := if P.contains x then (P.idxOf x, P) else (P.length, P ++ [x])
/-- What a reader hands back: where the part stands, the steps, what is left. -/
abbrev Rd := Option Nat × List Stp × List UInt8
def plantB (a : Nat) (r : Rd) : Rd := match r.1 with
  | none => r
  | some b => (some (placeS r.2.1 (2, (a : Int), (b : Int))).1, (placeS r.2.1 (2, (a : Int), (b : Int))).2, r.2.2)
def plantA (k : List Stp → List UInt8 → Rd) (r : Rd) : Rd := match r.1 with
  | none => r
  | some a => plantB a (k r.2.1 r.2.2)
def plantC (g : Int) (P : List Stp) (l : List UInt8) : Rd :=
  if (citF g l).2 = true then (some (placeS P (1, (citF g l).1, 0)).1, (placeS P (1, (citF g l).1, 0)).2, l.drop 3) else (none, P, l.drop 3)
/-- What the reader makes of a text, with the steps that it knows. -/
def plant (g : Int) : Nat → List Stp → List UInt8 → Rd
  | 0, P, l => (none, P, l)
  | f + 1, P, l => if l.head? = some 68 then plantA (plant g f) (plant g f P l.tail) else plantC g P l
theorem plant_succ (g : Int) (f : Nat) (P : List Stp) (l : List UInt8) : plant g (f + 1) P l = if l.head? = some 68 then plantA (plant g f) (plant g f P l.tail) else plantC g P l := rfl

theorem citF_ok {g : Int} {l : List UInt8} (h : (citF g l).2 = true) : 3 ≤ l.length ∧ 0 ≤ (citF g l).1 ∧ (citF g l).1 < g ∧ (citF g l).1 < 100 := by
  unfold citF at h ⊢
  split at h
  · rename_i a b c r
    split at h
    · rename_i hc
      simp only [if_pos hc]
      simp [digB] at hc h
      refine ⟨by simp, by omega, h, by omega⟩
    · cases h
  · cases h
theorem placeS_le (P : List Stp) (x : Stp) : (placeS P x).1 < (placeS P x).2.length ∧ P.length ≤ (placeS P x).2.length ∧ (placeS P x).2.length ≤ P.length + 1 := by
  unfold placeS
  split
  · rename_i h
    exact ⟨List.idxOf_lt_length_iff.2 (List.contains_iff_mem.1 h), Nat.le_refl _, by simp⟩
  · simp
/-- What is bounded: steps and letters together do not become more; a part stands among the steps. -/
structure RdLe (P : List Stp) (l : List UInt8) (r : Rd) : Prop where
  sum : r.2.1.length + r.2.2.length ≤ P.length + l.length
  more : P.length ≤ r.2.1.length
  less : r.2.2.length ≤ l.length
  at_ : ∀ i, r.1 = some i → i < r.2.1.length ∧ r.2.2.length < l.length
  good : P.length + l.length ≤ 1000000 → (∀ x ∈ P, GoodStp x) → ∀ x ∈ r.2.1, GoodStp x
theorem placeS_good {P : List Stp} {x : Stp} (h : ∀ y ∈ P, GoodStp y) (hx : GoodStp x) : ∀ y ∈ (placeS P x).2, GoodStp y := by
  unfold placeS
  split
  · exact h
  · intro y hy
    rcases List.mem_append.1 hy with hy | hy
    · exact h y hy
    · rw [List.mem_singleton.1 hy]; exact hx
theorem plantC_le (g : Int) (P : List Stp) (l : List UInt8) : RdLe P l (plantC g P l) := by
  unfold plantC
  by_cases hc : (citF g l).2 = true
  · rw [if_pos hc]
    obtain ⟨c1, c2, c3, c4⟩ := citF_ok hc
    have h3 := placeS_le P (1, (citF g l).1, 0)
    refine ⟨?_, ?_, ?_, fun i h => ?_, fun hn h => placeS_good h ⟨?_, ?_, ?_⟩⟩
    · simp only [List.length_drop]; omega
    · exact h3.2.1
    · simp only [List.length_drop]; omega
    · cases h
      simp only [List.length_drop]
      exact ⟨h3.1, by omega⟩
    · simp
    · simp only; omega
    · simp
  · rw [if_neg hc]
    exact ⟨by simp only [List.length_drop]; omega, Nat.le_refl _, by simp only [List.length_drop]; omega, fun i h => (by cases h), fun _ h => h⟩
theorem plantB_le {P : List Stp} {l : List UInt8} {a : Nat} {r : Rd} (h : RdLe P l r) (ha : a ≤ r.2.1.length) : r.2.1.length + r.2.2.length + 1 ≤ P.length + l.length + 1 → RdLe P (68 :: l) (plantB a r) := by
  intro _
  obtain ⟨o, P2, l2⟩ := r
  have h1 := h.sum
  have h2 := h.more
  have h3 := h.less
  simp only at h1 h2 h3 ha
  cases o with
  | none => exact ⟨by show P2.length + l2.length ≤ _; simp; omega, h2, by show l2.length ≤ _; simp; omega, fun i h => (by cases h), fun hn hg => h.good (by simp at hn; omega) hg⟩
  | some b =>
    have h4 := placeS_le P2 (2, (a : Int), (b : Int))
    have hb := (h.at_ b rfl).1
    simp only at hb
    refine ⟨?_, Nat.le_trans h2 h4.2.1, by show l2.length ≤ _; simp; omega, fun i hi => ?_, fun hn hg => placeS_good (h.good (by simp at hn; omega) hg) ⟨?_, ?_, ?_⟩⟩
    · show (placeS P2 (2, (a : Int), (b : Int))).2.length + l2.length ≤ P.length + (68 :: l).length
      simp only [List.length_cons]; omega
    · cases hi
      exact ⟨h4.1, by show l2.length < _; simp; omega⟩
    · simp
    · simp at hn; simp only; omega
    · simp at hn; simp only; omega
theorem RdLe.trans {P : List Stp} {l : List UInt8} {q r : Rd} (h : RdLe P l q) (h' : RdLe q.2.1 q.2.2 r) : RdLe P l r where
  sum := Nat.le_trans h'.sum h.sum
  more := Nat.le_trans h.more h'.more
  less := Nat.le_trans h'.less h.less
  at_ := fun i hi => ⟨(h'.at_ i hi).1, Nat.lt_of_lt_of_le (h'.at_ i hi).2 h.less⟩
  good := fun hn hg => h'.good (Nat.le_trans h.sum hn) (h.good hn hg)
theorem head_68 {l : List UInt8} (h : l.head? = some 68) : l = 68 :: l.tail := by
  cases l with
  | nil => cases h
  | cons c r => cases h; rfl
theorem RdLe.cons {P : List Stp} {l : List UInt8} {c : UInt8} {r : Rd} (h : RdLe P l r) : RdLe P (c :: l) r where
  sum := by have := h.sum; simp; omega
  more := h.more
  less := by have := h.less; simp; omega
  at_ := fun i hi => by have := h.at_ i hi; simp; omega
  good := fun hn hg => h.good (by simp at hn; omega) hg
theorem plant_le (g : Int) : ∀ (f : Nat) (P : List Stp) (l : List UInt8), RdLe P l (plant g f P l)
  | 0, P, l => ⟨Nat.le_refl _, Nat.le_refl _, Nat.le_refl _, fun i h => (by cases h), fun _ h => h⟩
  | f + 1, P, l => by
    rw [plant_succ]
    by_cases hd : l.head? = some 68
    · rw [if_pos hd, head_68 hd, List.tail_cons]
      have h1 := plant_le g f P l.tail
      obtain ⟨q, hq⟩ : ∃ q, plant g f P l.tail = q := ⟨_, rfl⟩
      rw [hq] at h1 ⊢
      obtain ⟨o, P1, l1⟩ := q
      cases o with
      | none => exact h1.cons
      | some a =>
        have h2 := plant_le g f P1 l1
        have ha := (h1.at_ a rfl).1
        have h3 := h1.trans h2
        have hm : P1.length ≤ (plant g f P1 l1).2.1.length := h2.more
        have hs : (plant g f P1 l1).2.1.length + (plant g f P1 l1).2.2.length ≤ P.length + l.tail.length := h3.sum
        simp only at ha
        exact plantB_le h3 (show a ≤ (plant g f P1 l1).2.1.length by omega) (show (plant g f P1 l1).2.1.length + (plant g f P1 l1).2.2.length + 1 ≤ _ by omega)
    · rw [if_neg hd]
      exact plantC_le g P l
/-- What Untree hands back. -/
def untreeZ (g : Int) (l : List UInt8) : List Stp × Int :=
  if ¬ (0 ≤ g ∧ g ≤ 60) then ([], 1)
  else if 65536 < l.length then ([], 3)
  else if ((plant g (l.length + 1) [] l).1.isSome && (plant g (l.length + 1) [] l).2.2.isEmpty) = false then ([], 2)
  else if 60 < (plant g (l.length + 1) [] l).2.1.length then ([], 4)
  else ((plant g (l.length + 1) [] l).2.1, 0)

end Go.Proofs.Ytippmpcaongolaa

/- Contracts: isDigit, citation. -/
namespace Go.Proofs.Ytippmpcaongolaa
open Go.RowKit

def digI (n : Int) : Bool := decide (48 ≤ n) && decide (n ≤ 57)
set_option maxHeartbeats 400000 in
theorem isDigit_any (n : Int) (w : World) :
    Calls Try.prog 168 #[.int .u8 n] w fun e w' => e = .returned (.bool (digI n)) ∧ w = w' := by
  unfold digI
  by_cases h1 : 48 ≤ n <;> by_cases h2 : n ≤ 57
  all_goals
    go_enter Try.func168, Try.ntmps168
    go_wp2
    go_ret
    simp [*]

theorem bytes_three {r : ByteArray} (h : 3 ≤ r.size) : r.data.toList = r[0] :: r[1] :: r[2] :: r.data.toList.drop 3 := by
  have hl : r.data.toList.length = r.size := by simp
  have g (i : Nat) (hi : i < r.size) : r.data.toList[i]'(by omega) = r[i] := by simp [ByteArray.getElem_eq_getElem_data]
  have e : r.data.toList = r.data.toList.drop 0 := rfl
  rw [e, List.drop_eq_getElem_cons (by omega), List.drop_eq_getElem_cons (by omega), List.drop_eq_getElem_cons (by omega), g 0 (by omega), g 1 (by omega), g 2 (by omega)]
  rfl

set_option maxRecDepth 100000 in
set_option maxHeartbeats 2000000 in
theorem citation_any (g : Int) (r : ByteArray) (w : World) (hs : r.size ≤ maxLen) :
    Calls Try.prog 151 #[.int .i64 g, .string r] w fun e w' => e = .returned (.tuple #[.int .i64 (citF g r.data.toList).1, .bool (citF g r.data.toList).2]) ∧ ∃ k, w' = w.drewN k := by
  have hl : r.data.toList.length = r.size := by simp
  unfold maxLen at hs
  by_cases h3 : r.size < 3
  · have hc : citF g r.data.toList = (0, false) := by
      rcases e : r.data.toList with _ | ⟨a, _ | ⟨b, _ | ⟨c, l⟩⟩⟩
      · rfl
      · rfl
      · rfl
      · rw [e] at hl; simp at hl; omega
    rw [hc]
    clear hc hl
    go_enter Try.func151, Try.ntmps151
    go_wp2
    go_ret2
    exact ⟨rfl, 0, rfl⟩
  · have h0 : 3 ≤ r.size := by omega
    have e3 := bytes_three h0
    have p0 : 0 < r.size := by omega
    have p1 : 1 < r.size := by omega
    have p2 : 2 < r.size := by omega
    obtain ⟨u0, hu0⟩ : ∃ u0 : UInt8, r[0]'p0 = u0 := ⟨_, rfl⟩
    obtain ⟨u1, hu1⟩ : ∃ u1 : UInt8, r[1]'p1 = u1 := ⟨_, rfl⟩
    obtain ⟨u2, hu2⟩ : ∃ u2 : UInt8, r[2]'p2 = u2 := ⟨_, rfl⟩
    rw [hu0, hu1, hu2] at e3
    obtain ⟨c0, hc0⟩ : ∃ c0 : Int, ((u0.toNat : Nat) : Int) = c0 := ⟨_, rfl⟩
    obtain ⟨c1, hc1⟩ : ∃ c1 : Int, ((u1.toNat : Nat) : Int) = c1 := ⟨_, rfl⟩
    obtain ⟨c2, hc2⟩ : ∃ c2 : Int, ((u2.toNat : Nat) : Int) = c2 := ⟨_, rfl⟩
    have hc : citF g r.data.toList = if (decide (c0 = 103) && digI c1 && digI c2) = true then (10 * (c1 - 48) + (c2 - 48), decide (10 * (c1 - 48) + (c2 - 48) < g)) else (0, false) := by
      rw [e3, ← hc0, ← hc1, ← hc2]
      rfl
    rw [hc]
    clear hc e3 hl
    have CD := Lib.hid isDigit_any
    by_cases hg : c0 = 103
    · subst hg
      cases d1 : digI c1
      · have CD1 := Lib.hid (fun V => CD.out c1 V)
        rw [d1] at CD1
        simp only [decide_true, Bool.true_and, Bool.false_and, Bool.false_eq_true, if_false]
        clear d1 CD
        go_enter Try.func151, Try.ntmps151
        go_wp2_with (go_at_call 168; refine (CD1.out _).mono ?_; rintro e w1 ⟨rfl, rfl⟩)
        go_ret2
        exact ⟨rfl, 0, rfl⟩
      · cases d2 : digI c2
        · have CD1 := Lib.hid (fun V => CD.out c1 V)
          have CD2 := Lib.hid (fun V => CD.out c2 V)
          rw [d1] at CD1
          rw [d2] at CD2
          simp only [decide_true, Bool.true_and, Bool.and_false, Bool.false_eq_true, if_false]
          clear d1 d2 CD
          go_enter Try.func151, Try.ntmps151
          go_wp2_with (first
            | (go_at_call 168; ((with_reducible refine (CD1.out _).mono ?_); rintro e w1 ⟨rfl, rfl⟩))
            | (go_at_call 168; ((with_reducible refine (CD2.out _).mono ?_); rintro e w1 ⟨rfl, rfl⟩)))
          go_ret2
          exact ⟨rfl, 0, rfl⟩
        · have CD1 := Lib.hid (fun V => CD.out c1 V)
          have CD2 := Lib.hid (fun V => CD.out c2 V)
          have b1 : 48 ≤ c1 ∧ c1 ≤ 57 := by simpa [digI] using d1
          have b2 : 48 ≤ c2 ∧ c2 ≤ 57 := by simpa [digI] using d2
          rw [d1] at CD1
          rw [d2] at CD2
          simp only [decide_true, Bool.and_true, if_true]
          clear d1 d2 CD
          go_enter Try.func151, Try.ntmps151
          go_wp2_with (first
            | (go_at_call 168; ((with_reducible refine (CD1.out _).mono ?_); rintro e w1 ⟨rfl, rfl⟩))
            | (go_at_call 168; ((with_reducible refine (CD2.out _).mono ?_); rintro e w1 ⟨rfl, rfl⟩)))
          go_quiet (fail)
          go_wp2
          go_ret2
          refine ⟨?_, _, rfl⟩
          rfl
    · have hg' : (c0 != 103) = true := by simpa using hg
      have hd : decide (c0 = 103) = false := decide_eq_false hg
      simp only [hd, Bool.false_and, Bool.false_eq_true, if_false]
      clear hd CD
      go_enter Try.func151, Try.ntmps151
      go_wp2
      go_ret2
      exact ⟨rfl, 0, rfl⟩

end Go.Proofs.Ytippmpcaongolaa

/- The reader of trees in memory: its boxes. -/
namespace Go.Proofs.Ytippmpcaongolaa
open Go.RowKit

theorem info_step : (Try.prog.info? 123).map (fun i => (i.zero, i.size, i.bytes)) = some (some (.agg #[.int .i64 0, .int .i64 0, .int .i64 0]), 3, 24) := by kernel_rfl
/-- The cells of steps. -/
def flatS : List Stp → List Value
  | [] => []
  | x :: pp => .int .i64 x.1 :: .int .i64 x.2.1 :: .int .i64 x.2.2 :: flatS pp
theorem flatS_len : ∀ pp : List Stp, (flatS pp).length = pp.length * 3
  | [] => rfl
  | x :: pp => by simp only [flatS, List.length_cons]; rw [flatS_len pp]; omega
theorem flatS_snoc : ∀ (pp : List Stp) (x : Stp), flatS (pp ++ [x]) = flatS pp ++ [.int .i64 x.1, .int .i64 x.2.1, .int .i64 x.2.2]
  | [], x => rfl
  | y :: pp, x => by simp only [List.cons_append, flatS]; rw [flatS_snoc pp x]
theorem flatS_get : ∀ (pp : List Stp) (j : Nat) (h : j < pp.length), (flatS pp)[j * 3]? = some (.int .i64 pp[j].1) ∧ (flatS pp)[j * 3 + 1]? = some (.int .i64 pp[j].2.1) ∧ (flatS pp)[j * 3 + 2]? = some (.int .i64 pp[j].2.2)
  | [], _, h => by simp at h
  | x :: pp, 0, _ => ⟨rfl, rfl, rfl⟩
  | x :: pp, j + 1, h => by
    have := flatS_get pp j (by simpa using h)
    simp only [flatS, List.getElem_cons_succ]
    rw [show (j + 1) * 3 = j * 3 + 1 + 1 + 1 from by omega]
    simpa using this
theorem row_steps {w : World} {base k : Nat} {v : Value} {pp : List Stp} (h : w.ownsRow base 123 3 v k (flatS pp)) (hk : k ≤ 1000000) : ∃ A c, v = .slice A k c ∧ StepsAt w w.heap.size A k pp ∧ k ≤ c ∧ c ≤ 9223372036854775807 := by
  obtain ⟨hl, ⟨rfl, rfl⟩ | ⟨g, cap, cur, rfl, hbg, hcur, hn1, hn2, hsz, htk⟩⟩ := h
  · rw [flatS_len] at hl
    have : pp.length = 0 := by omega
    obtain rfl := List.eq_nil_of_length_eq_zero this
    exact ⟨none, 0, rfl, StepsAt.nil _ _ _, by omega, by omega⟩
  · rw [flatS_len] at hl
    refine ⟨some ⟨g, 0, none⟩, cap, rfl, ⟨by omega, by omega, fun _ => ⟨g, 0, rfl, Blk.lt (t := 123) hcur, fun j hj => ?_⟩⟩, by omega, by unfold maxLen at hn2; omega⟩
    have hf := flatS_get pp j hj
    have key : ∀ i, i < k * 3 → cur[i]? = (flatS pp)[i]? := by
      intro i hi
      rw [← htk, List.getElem?_take, if_pos hi, Array.getElem?_toList]
    refine ⟨?_, ?_, ?_⟩
    · rw [Blk.cell (t := 123) hcur, Nat.zero_add, key _ (by omega)]
      exact hf.1
    · rw [Blk.cell (t := 123) hcur, Nat.zero_add, key _ (by omega)]
      exact hf.2.1
    · rw [Blk.cell (t := 123) hcur, Nat.zero_add, key _ (by omega)]
      exact hf.2.2

theorem StepMap.same {w w' : World} {bm : Nat} {met : List Stp} (h : StepMap w bm met) (hk : w'.heap[bm]? = w.heap[bm]?) : StepMap w' bm met := by
  obtain ⟨hg, D, ⟨es, c, h1, h2⟩, h3⟩ := h
  exact ⟨hg, D, ⟨es, c, hk.trans h1, h2⟩, h3⟩

/-- The boxes of the reader: the rest's, the function's, the givens', the map's, the steps'; the map. -/
structure PBox (Br Bn Bg Bk Bp bm N0 : Nat) : Prop where
  lt : Br < N0 ∧ Bn < N0 ∧ Bg < N0 ∧ Bk < N0 ∧ Bp < N0 ∧ bm < N0
  nr : Bn ≠ Br ∧ Bg ≠ Br ∧ Bk ≠ Br ∧ Bp ≠ Br ∧ bm ≠ Br
  np : Br ≠ Bp ∧ Bn ≠ Bp ∧ Bg ≠ Bp ∧ Bk ≠ Bp ∧ bm ≠ Bp
  nm : Br ≠ bm ∧ Bn ≠ bm ∧ Bg ≠ bm ∧ Bk ≠ bm ∧ Bp ≠ bm
/-- What lies in them: M is what the map knows, P the steps so far, r the rest. -/
structure PlantAt (w : World) (Br Bn Bg Bk Bp bm N0 : Nat) (g : Int) (v : Value) (M P : List Stp) (r : ByteArray) : Prop where
  cr : w.cell? ⟨Br, 0, none⟩ = some (.string r)
  cn : w.cell? ⟨Bn, 0, none⟩ = some (.func (.func 150) #[] #[.pointer (some ⟨Br, 0, none⟩), .pointer (some ⟨Bn, 0, none⟩), .pointer (some ⟨Bg, 0, none⟩), .pointer (some ⟨Bk, 0, none⟩), .pointer (some ⟨Bp, 0, none⟩)])
  cg : w.cell? ⟨Bg, 0, none⟩ = some (.int .i64 g)
  ck : w.cell? ⟨Bk, 0, none⟩ = some (.map (some bm))
  cp : w.cell? ⟨Bp, 0, none⟩ = some v
  fr : w.frozen? ⟨Br, 0, none⟩ = false
  fp : w.frozen? ⟨Bp, 0, none⟩ = false
  mm : StepMap w bm M
  row : w.ownsRow N0 123 3 v P.length (flatS P)
/-- What reading keeps. -/
structure PlantK (Br Bp bm : Nat) (v v' : Value) (w w' : World) : Prop where
  keep : KeepE (fun b => b < w.heap.size ∧ b ≠ Br ∧ b ≠ Bp ∧ b ≠ bm ∧ v.ownBlock ≠ some b) w w'
  own : ∀ g, v'.ownBlock = some g → v.ownBlock = some g ∨ w.heap.size ≤ g
section
variable {Br Bn Bg Bk Bp bm N0 : Nat} {g : Int} {v v' v'' : Value} {M M' P P' : List Stp} {r r' : ByteArray} {w w' w'' : World}
theorem PlantK.refl (Br Bp bm : Nat) (v : Value) (w : World) : PlantK Br Bp bm v v w w := ⟨KeepE.refl _ _, fun _ h => .inl h⟩
theorem PlantK.next (h : PlantK Br Bp bm v v' w w') (h2 : PlantK Br Bp bm v' v'' w' w'') : PlantK Br Bp bm v v'' w w'' := by
  refine ⟨h.keep.trans (h2.keep.mono fun b hb => ⟨Nat.lt_of_lt_of_le hb.1 h.keep.size, hb.2.1, hb.2.2.1, hb.2.2.2.1, fun e => ?_⟩), fun g hg => ?_⟩
  · rcases h.own b e with h3 | h3
    · exact hb.2.2.2.2 h3
    · have := hb.1; omega
  · rcases h2.own g hg with h3 | h3
    · exact h.own g h3
    · exact .inr (Nat.le_trans h.keep.size h3)
theorem PlantK.of_below (h : Below w.heap.size w w') : PlantK Br Bp bm v v w w' := ⟨KeepE.of_below h fun _ hb => hb.1, fun _ h => .inl h⟩
theorem PlantK.below (h : PlantK Br Bp bm v v' w w') {B : Nat} (h1 : B ≤ Br ∧ B ≤ Bp ∧ B ≤ bm) (hn : B ≤ w.heap.size) (hr : ∀ g, v.ownBlock = some g → B ≤ g) : Below B w w' :=
  h.keep.below fun b hb' => ⟨by omega, by omega, by omega, by omega, fun e => by have := hr b e; omega⟩
theorem PlantK.set (h : PlantK Br Bp bm v v' w w') {sb i : Nat} (hs : w.heap.size ≤ sb ∨ sb = Br ∨ sb = Bp) (u : Value) : PlantK Br Bp bm v v' w (w'.setCell ⟨sb, i, none⟩ u) :=
  ⟨h.keep.trans (KeepE.set (p := ⟨sb, i, none⟩) (fun hb => by
    have h1 : sb < w.heap.size := hb.1
    have h2 : sb ≠ Br := hb.2.1
    have h3 : sb ≠ Bp := hb.2.2.1
    rcases hs with h | h | h
    · omega
    · exact h2 h
    · exact h3 h) u), h.own⟩
theorem PlantAt.frame (h : PlantAt w Br Bn Bg Bk Bp bm N0 g v M P r) (hk : ∀ b, (b = Br ∨ b = Bn ∨ b = Bg ∨ b = Bk ∨ b = Bp ∨ b = bm ∨ v.ownBlock = some b) → w'.heap[b]? = w.heap[b]?) : PlantAt w' Br Bn Bg Bk Bp bm N0 g v M P r :=
  ⟨(World.cell?_of_block (hk _ (.inl rfl))).trans h.cr, (World.cell?_of_block (hk _ (.inr (.inl rfl)))).trans h.cn, (World.cell?_of_block (hk _ (.inr (.inr (.inl rfl))))).trans h.cg, (World.cell?_of_block (hk _ (.inr (.inr (.inr (.inl rfl)))))).trans h.ck, (World.cell?_of_block (hk _ (.inr (.inr (.inr (.inr (.inl rfl))))))).trans h.cp,
    (World.frozen?_of_block (hk _ (.inl rfl))).trans h.fr, (World.frozen?_of_block (hk _ (.inr (.inr (.inr (.inr (.inl rfl))))))).trans h.fp, h.mm.same (hk _ (.inr (.inr (.inr (.inr (.inr (.inl rfl))))))), ownsRow_movedK h.row fun _ hg => hk _ (.inr (.inr (.inr (.inr (.inr (.inr hg))))))⟩
theorem PlantAt.lts (h : PlantAt w Br Bn Bg Bk Bp bm N0 g v M P r) : Br < w.heap.size ∧ Bn < w.heap.size ∧ Bg < w.heap.size ∧ Bk < w.heap.size ∧ Bp < w.heap.size ∧ bm < w.heap.size ∧ ∀ k, v.ownBlock = some k → N0 ≤ k ∧ k < w.heap.size :=
  ⟨World.block_lt_of_cell? w _ h.cr, World.block_lt_of_cell? w _ h.cn, World.block_lt_of_cell? w _ h.cg, World.block_lt_of_cell? w _ h.ck, World.block_lt_of_cell? w _ h.cp, h.mm.lt, fun k hk => h.row.lt k hk⟩
theorem PlantAt.up (h : PlantAt w Br Bn Bg Bk Bp bm N0 g v M P r) (hb : Below w.heap.size w w') : PlantAt w' Br Bn Bg Bk Bp bm N0 g v M P r :=
  h.frame fun b hb' => hb.block b (by
    obtain ⟨l1, l2, l3, l4, l5, l6, l7⟩ := h.lts
    rcases hb' with rfl | rfl | rfl | rfl | rfl | rfl | e
    all_goals first | assumption | exact (l7 _ e).2)
theorem PlantAt.far (h : PlantAt w Br Bn Bg Bk Bp bm N0 g v M P r) (hx : PBox Br Bn Bg Bk Bp bm N0) {sb i : Nat} (hs : N0 ≤ sb) (hv : v.ownBlock ≠ some sb) (u : Value) : PlantAt (w.setCell ⟨sb, i, none⟩ u) Br Bn Bg Bk Bp bm N0 g v M P r :=
  h.frame fun b hb => heap_setCell_other w ⟨sb, i, none⟩ b u (by
    obtain ⟨l1, l2, l3, l4, l5, l6⟩ := hx.lt
    show b ≠ sb
    rcases hb with rfl | rfl | rfl | rfl | rfl | rfl | e
    all_goals first | omega | exact fun e2 => hv (by rw [← e2]; exact e))
/-- The rest is stored. -/
theorem PlantAt.rest (h : PlantAt w Br Bn Bg Bk Bp bm N0 g v M P r) (hx : PBox Br Bn Bg Bk Bp bm N0) (r' : ByteArray) : PlantAt (w.setCell ⟨Br, 0, none⟩ (.string r')) Br Bn Bg Bk Bp bm N0 g v M P r' := by
  have hl := h.lts
  have hk : ∀ b, b ≠ Br → (w.setCell ⟨Br, 0, none⟩ (.string r')).heap[b]? = w.heap[b]? := fun b hb => heap_setCell_other w ⟨Br, 0, none⟩ b _ hb
  have c (b : Nat) (hb : b ≠ Br) : (w.setCell ⟨Br, 0, none⟩ (.string r')).cell? ⟨b, 0, none⟩ = w.cell? ⟨b, 0, none⟩ := World.cell?_of_block (hk b hb)
  refine ⟨World.cell?_setCell_same' _ _ _ (by rw [h.cr]; rfl), (c _ hx.nr.1).trans h.cn, (c _ hx.nr.2.1).trans h.cg, (c _ hx.nr.2.2.1).trans h.ck, (c _ hx.nr.2.2.2.1).trans h.cp, ?_, (World.frozen?_of_block (hk _ hx.nr.2.2.2.1)).trans h.fp, h.mm.same (hk _ hx.nr.2.2.2.2), ownsRow_movedK h.row fun k e => hk _ ?_⟩
  · rw [World.frozen?_setCell]
    exact h.fr
  · have := (hl.2.2.2.2.2.2 k e).1
    have := hx.lt
    omega
/-- A step is entered into the map. -/
theorem PlantAt.met (h : PlantAt w Br Bn Bg Bk Bp bm N0 g v M P r) (hx : PBox Br Bn Bg Bk Bp bm N0) (hm : StepMap w' bm M') (hg : w.grownBy w' (some bm)) : PlantAt w' Br Bn Bg Bk Bp bm N0 g v M' P r ∧ PlantK Br Bp bm v v w w' := by
  obtain ⟨l1, l2, l3, l4, l5, l6, l7⟩ := h.lts
  have hk : ∀ b, b < w.heap.size → b ≠ bm → w'.heap[b]? = w.heap[b]? := fun b hb hne => hg.block b hb (fun e => hne (Option.some.inj e))
  have c (b : Nat) (hb : b < w.heap.size) (hne : b ≠ bm) : w'.cell? ⟨b, 0, none⟩ = w.cell? ⟨b, 0, none⟩ := World.cell?_of_block (hk b hb hne)
  refine ⟨⟨(c _ l1 hx.nm.1).trans h.cr, (c _ l2 hx.nm.2.1).trans h.cn, (c _ l3 hx.nm.2.2.1).trans h.cg, (c _ l4 hx.nm.2.2.2.1).trans h.ck, (c _ l5 hx.nm.2.2.2.2).trans h.cp, (World.frozen?_of_block (hk _ l1 hx.nm.1)).trans h.fr, (World.frozen?_of_block (hk _ l5 hx.nm.2.2.2.2)).trans h.fp, hm, ownsRow_movedK h.row fun k e => hk _ (l7 k e).2 ?_⟩, KeepE.of_grown hg (fun b h => h.1) fun k e hE => hE.2.2.2.1 (Option.some.inj e).symm, fun k e => .inl e⟩
  have := (l7 k e).1
  have := hx.lt
  omega
/-- A step is put behind the steps, and they are stored. -/
theorem PlantAt.store {w1 : World} (h : PlantAt w Br Bn Bg Bk Bp bm N0 g v M P r) (hx : PBox Br Bn Bg Bk Bp bm N0) (hN : N0 ≤ w.heap.size) (ha : Below w.heap.size w w1) {x : Stp} (hown : w'.ownsRow N0 123 3 v' (P.length + 1) (flatS P ++ [.int .i64 x.1, .int .i64 x.2.1, .int .i64 x.2.2])) (hg : w1.grownBy w' v.ownBlock) (ho : v'.ownBlock = v.ownBlock ∨ v'.ownBlock = some w1.heap.size) :
    PlantAt (w'.setCell ⟨Bp, 0, none⟩ v') Br Bn Bg Bk Bp bm N0 g v' M (P ++ [x]) r ∧ PlantK Br Bp bm v v' w (w'.setCell ⟨Bp, 0, none⟩ v') := by
  obtain ⟨l1, l2, l3, l4, l5, l6, l7⟩ := h.lts
  have s1 := ha.size
  have h1 := h.up ha
  obtain ⟨m1, m2, m3, m4, m5, m6, m7⟩ := h1.lts
  obtain ⟨x1, x2, x3, x4, x5, x6⟩ := hx.lt
  have hk0 : ∀ b, b < N0 → w'.heap[b]? = w1.heap[b]? := fun b hb => hg.block b (by omega) (fun e => by have := (m7 b e.symm).1; omega)
  have hk : ∀ b, b < N0 → b ≠ Bp → (w'.setCell ⟨Bp, 0, none⟩ v').heap[b]? = w1.heap[b]? := fun b hb hne => (heap_setCell_other w' ⟨Bp, 0, none⟩ b _ hne).trans (hk0 b hb)
  have c (b : Nat) (hb : b < N0) (hne : b ≠ Bp) : (w'.setCell ⟨Bp, 0, none⟩ v').cell? ⟨b, 0, none⟩ = w1.cell? ⟨b, 0, none⟩ := World.cell?_of_block (hk b hb hne)
  refine ⟨⟨(c _ x1 hx.np.1).trans h1.cr, (c _ x2 hx.np.2.1).trans h1.cn, (c _ x3 hx.np.2.2.1).trans h1.cg, (c _ x4 hx.np.2.2.2.1).trans h1.ck, ?_, (World.frozen?_of_block (hk _ x1 hx.np.1)).trans h1.fr, ?_, h1.mm.same (hk _ x6 hx.np.2.2.2.2), ?_⟩, ?_, ?_⟩
  · exact World.cell?_setCell_same' _ _ _ (by rw [World.cell?_of_block (hk0 _ x5), h1.cp]; rfl)
  · rw [World.frozen?_setCell, World.frozen?_of_block (hk0 _ x5)]
    exact h1.fp
  · rw [List.length_append, List.length_singleton, flatS_snoc]
    refine ownsRow_movedK hown fun k e => heap_setCell_other w' ⟨Bp, 0, none⟩ k v' ?_
    show k ≠ Bp
    rcases ho with h2 | h2
    · have := (m7 k (by rw [← h2]; exact e)).1
      omega
    · rw [h2] at e
      cases e
      omega
  · have k1 : KeepE (fun b => b < w.heap.size ∧ b ≠ Br ∧ b ≠ Bp ∧ b ≠ bm ∧ v.ownBlock ≠ some b) w w1 := KeepE.of_below ha fun _ h => h.1
    have k2 : KeepE (fun b => b < w.heap.size ∧ b ≠ Br ∧ b ≠ Bp ∧ b ≠ bm ∧ v.ownBlock ≠ some b) w1 w' := KeepE.of_grown hg (fun b h => Nat.lt_of_lt_of_le h.1 s1) fun k e hE => hE.2.2.2.2 e
    exact (k1.trans k2).trans (KeepE.set (p := ⟨Bp, 0, none⟩) (fun h => h.2.2.1 rfl) _)
  · intro k e
    rcases ho with h2 | h2
    · exact .inl (by rw [← h2, e])
    · rw [h2] at e
      cases e
      exact .inr s1
end

end Go.Proofs.Ytippmpcaongolaa

namespace Go.Proofs.Ytippmpcaongolaa
open Go.RowKit

theorem toList_drop (r : ByteArray) (a : Nat) : (r.extract a r.size).data.toList = r.data.toList.drop a := by
  rw [ByteArray.data_extract, Array.toList_extract, List.extract_eq_take_drop]
  refine List.take_of_length_le ?_
  rw [List.length_drop]
  simp
theorem size_drop (r : ByteArray) (a : Nat) : (r.extract a r.size).size = r.size - a := by
  have h := congrArg List.length (toList_drop r a)
  rw [List.length_drop] at h
  simp only [Array.length_toList] at h
  exact h

set_option maxRecDepth 100000 in
set_option maxHeartbeats 16000000 in
theorem plant_any (g : Int) (Br Bn Bg Bk Bp bm N0 : Nat) (hx : PBox Br Bn Bg Bk Bp bm N0) :
    ∀ (f : Nat) (P : List Stp) (r : ByteArray) (v : Value) (w : World) (R : Rd), plant g f P r.data.toList = R → r.size < f → P.length + r.size ≤ 1000000 → N0 ≤ w.heap.size → PlantAt w Br Bn Bg Bk Bp bm N0 g v P P r →
    Calls Try.prog 150 #[.pointer (some ⟨Br, 0, none⟩), .pointer (some ⟨Bn, 0, none⟩), .pointer (some ⟨Bg, 0, none⟩), .pointer (some ⟨Bk, 0, none⟩), .pointer (some ⟨Bp, 0, none⟩)] w fun e w' =>
      ∃ v' r', e = .returned (.tuple #[.int .i64 (R.1.getD 0 : Nat), .bool R.1.isSome]) ∧ PlantAt w' Br Bn Bg Bk Bp bm N0 g v' R.2.1 R.2.1 r' ∧ r'.data.toList = R.2.2 ∧ PlantK Br Bp bm v v' w w' := by
  obtain ⟨i0, hi, hz0, hz1, hz2⟩ := info_parts info_step
  intro f
  induction f with
  | zero => intro P r v w R hR h; omega
  | succ f ih =>
    intro P r v w R hR hf hsz hN hM
    rw [plant_succ] at hR
    have hl : r.data.toList.length = r.size := by simp
    have HIH := Lib.hid ih
    have HM := Lib.hid hM
    have HX := Lib.hid hx
    have HN := Lib.hid hN
    have cr := hM.cr
    have fr := hM.fr
    have cn := hM.cn
    have cg := hM.cg
    have hrm : r.size ≤ maxLen := by unfold maxLen; omega
    have HGD := Lib.hid (show ∀ x ∈ P, GoodStp x from hM.mm.1)
    obtain ⟨l1, l2, l3, l4, l5, l6, l7⟩ := hM.lts
    have HOW := Lib.hid l7
    have hB1 : Below w.heap.size w (w.alloc (.cells #[.int .i64 1, .int .i64 0, .int .i64 0] 123)) := bel_al0 w _
    have crA := (hB1.cell (p := ⟨Br, 0, none⟩) l1).trans cr
    have cgA := (hB1.cell (p := ⟨Bg, 0, none⟩) l3).trans cg
    have frA : (w.alloc (.cells #[.int .i64 1, .int .i64 0, .int .i64 0] 123)).frozen? ⟨Br, 0, none⟩ = false := (World.frozen?_of_block (hB1.block _ l1)).trans fr
    have hS1 := Blk.new w 123 #[.int .i64 1, .int .i64 0, .int .i64 0]
    have hsbr : w.heap.size ≠ Br := by omega
    have hM1 := hM.up hB1
    have hK1 : PlantK Br Bp bm v v w (w.alloc (.cells #[.int .i64 1, .int .i64 0, .int .i64 0] 123)) := PlantK.of_below hB1
    by_cases hd : r.data.toList.head? = some 68
    · rw [if_pos hd] at hR
      have h0 : 0 < r.size := by
        cases e : r.data.toList with
        | nil => rw [e] at hd; cases hd
        | cons a b => rw [e] at hl; simp at hl; omega
      have e68 : r[0] = 68 := by
        have : r.data.toList[0]? = some r[0] := by rw [List.getElem?_eq_getElem (by omega)]; simp [ByteArray.getElem_eq_getElem_data]
        rw [List.head?_eq_getElem?, this] at hd
        exact Option.some.inj hd
      have c68 : ((r[0].toNat : Nat) : Int) = 68 := by rw [e68]; rfl
      have ht1 := toList_drop r 1
      have hz1' := size_drop r 1
      rw [List.drop_one] at ht1
      rw [← ht1] at hR
      have hM2 := hM1.rest hx (r.extract 1 r.size)
      have hS2 := hS1.far (p := ⟨Br, 0, none⟩) hsbr (.string (r.extract 1 r.size))
      have hK2 := hK1.set (sb := Br) (i := 0) (.inr (.inl rfl)) (.string (r.extract 1 r.size))
      have hM3 := hM2.far (i := 0) hx hN (fun e => by have := (l7 _ e).2; omega) (.int .i64 2)
      have hS3 := hS2.set_ 0 (.int .i64 2)
      have hK3 := hK2.set (sb := w.heap.size) (i := 0) (.inl (Nat.le_refl _)) (.int .i64 2)
      have c2 := hS2.cell 0
      have f2 := hS2.frozen 0
      simp only [List.getElem?_toArray, List.getElem?_cons_zero] at c2
      obtain ⟨W3, hW3⟩ : ∃ W3, ((w.alloc (.cells #[.int .i64 1, .int .i64 0, .int .i64 0] 123)).setCell ⟨Br, 0, none⟩ (.string (r.extract 1 r.size))).setCell ⟨w.heap.size, 0, none⟩ (.int .i64 2) = W3 := ⟨_, rfl⟩
      rw [hW3] at hM3 hS3 hK3
      have HM3 := Lib.hid hM3
      have HS3 := Lib.hid (show Blk W3 w.heap.size 123 #[.int .i64 2, .int .i64 0, .int .i64 0] from hS3)
      have HK3 := Lib.hid hK3
      have HW3 := Lib.hid hW3
      have HZ1 := Lib.hid (show (r.extract 1 r.size).size + 1 = r.size by omega)
      obtain ⟨r1, hr1⟩ : ∃ r1, r.extract 1 r.size = r1 := ⟨_, rfl⟩
      rw [hr1] at HM3 HZ1 hR
      have HR1 := Lib.hid hr1
      clear hr1
      clear ih hM hx hN hd hl e68 hB1 cr fr cn cg cgA l1 l2 l3 l4 l5 l6 l7 hM1 hM2 hM3 hS1 hS2 hS3 hK1 hK2 hK3 hsbr ht1 hz1' hW3 HM
      go_enter Try.func150, Try.ntmps150
      go_upto_region 5 with fail
      rw [HW3.out]
      clear crA frA c68 c2 f2 h0 HW3 HR1 hrm
      obtain ⟨⟨o5, P5, l5⟩, hq5⟩ : ∃ q, plant g f P r1.data.toList = q := ⟨_, rfl⟩
      rw [hq5] at hR
      have hle5 := plant_le g f P r1.data.toList
      rw [hq5] at hle5
      have hrl1 : r1.data.toList.length = r1.size := by simp
      have hsz1 : P.length + r1.size ≤ 1000000 := by have := HZ1.out; omega
      have HLE5 := Lib.hid hle5
      have C5 := HIH.out P r1 v W3 _ hq5 (by have := HZ1.out; omega) hsz1 (Nat.le_trans HN.out HK3.out.keep.size) HM3.out
      have HSW6 := Lib.hid (show w.heap.size < W3.heap.size from HS3.out.lt)
      have cn3 := HM3.out.cn
      have HRL := Lib.hid hrl1
      have s3 := HS3.out
      clear hle5 hrl1 hq5
      cases o5 with
      | none =>
        have C5 : Hid (Calls Try.prog 150 #[.pointer (some ⟨Br, 0, none⟩), .pointer (some ⟨Bn, 0, none⟩), .pointer (some ⟨Bg, 0, none⟩), .pointer (some ⟨Bk, 0, none⟩), .pointer (some ⟨Bp, 0, none⟩)] W3 fun e w' => ∃ v' r', e = .returned (.tuple #[.int .i64 0, .bool false]) ∧ PlantAt w' Br Bn Bg Bk Bp bm N0 g v' P5 P5 r' ∧ r'.data.toList = l5 ∧ PlantK Br Bp bm v v' W3 w') := Lib.hid C5
        clear s3
        go_wp2_with (go_at_call 150
                     refine C5.out.mono ?_
                     rintro e w5 ⟨v5, r5, rfl, hM5, hr5, hK5⟩
                     have hne6 : v5.ownBlock ≠ some w.heap.size := fun e => (hK5.own _ e).elim (fun h => by have := (HOW.out _ h).2; omega) (fun h => by have := HSW6.out; omega)
                     have hS6 : Blk w5 w.heap.size 123 #[.int .i64 2, .int .i64 0, .int .i64 0] := (hK5.keep.block _ ⟨HSW6.out, by have := HX.out.lt; have := HN.out; omega, by have := HX.out.lt; have := HN.out; omega, by have := HX.out.lt; have := HN.out; omega, fun e => by have := (HOW.out _ e).2; omega⟩).trans HS3.out
                     have c5 := hS6.cell 1
                     have f5 := hS6.frozen 1
                     simp only [List.getElem?_toArray, List.getElem?_cons_zero, List.getElem?_cons_succ] at c5
                     have HM6 := Lib.hid (hM5.far (i := 1) HX.out HN.out hne6 (.int .i64 0))
                     have HS6 := Lib.hid (hS6.set_ 1 (.int .i64 0))
                     have HK6 := Lib.hid ((HK3.out.next hK5).set (sb := w.heap.size) (i := 1) (.inl (Nat.le_refl _)) (.int .i64 0))
                     have HR5 := Lib.hid hr5
                     have HNE6 := Lib.hid hne6
                     clear hM5 hr5 hK5 hS6 hne6)
        go_ret2
        subst hR
        exact ⟨v5, r5, rfl, HM6.out, HR5.out, HK6.out⟩
      | some a =>
        have C5 : Hid (Calls Try.prog 150 #[.pointer (some ⟨Br, 0, none⟩), .pointer (some ⟨Bn, 0, none⟩), .pointer (some ⟨Bg, 0, none⟩), .pointer (some ⟨Bk, 0, none⟩), .pointer (some ⟨Bp, 0, none⟩)] W3 fun e w' => ∃ v' r', e = .returned (.tuple #[.int .i64 (a : Int), .bool true]) ∧ PlantAt w' Br Bn Bg Bk Bp bm N0 g v' P5 P5 r' ∧ r'.data.toList = l5 ∧ PlantK Br Bp bm v v' W3 w') := Lib.hid C5
        clear s3
        go_upto_region 7 with (first
                   | (go_at_call 150
                      refine C5.out.mono ?_
                      rintro e w5 ⟨v5, r5, rfl, hM5, hr5, hK5⟩
                      have hne6 : v5.ownBlock ≠ some w.heap.size := fun e => (hK5.own _ e).elim (fun h => by have := (HOW.out _ h).2; omega) (fun h => by have := HSW6.out; omega)
                      have hS6 : Blk w5 w.heap.size 123 #[.int .i64 2, .int .i64 0, .int .i64 0] := (hK5.keep.block _ ⟨HSW6.out, by have := HX.out.lt; have := HN.out; omega, by have := HX.out.lt; have := HN.out; omega, by have := HX.out.lt; have := HN.out; omega, fun e => by have := (HOW.out _ e).2; omega⟩).trans HS3.out
                      have c5 := hS6.cell 1
                      have f5 := hS6.frozen 1
                      simp only [List.getElem?_toArray, List.getElem?_cons_zero, List.getElem?_cons_succ] at c5
                      have HM6 := Lib.hid (hM5.far (i := 1) HX.out HN.out hne6 (.int .i64 (a : Int)))
                      have HS6 := Lib.hid (hS6.set_ 1 (.int .i64 (a : Int)))
                      have HK6 := Lib.hid ((HK3.out.next hK5).set (sb := w.heap.size) (i := 1) (.inl (Nat.le_refl _)) (.int .i64 (a : Int)))
                      have HR5 := Lib.hid hr5
                      have HNE6 := Lib.hid hne6
                      clear hM5 hr5 hK5 hS6 hne6))
        obtain ⟨W6, hW6⟩ : ∃ W6, w5.setCell ⟨w.heap.size, 1, none⟩ (.int .i64 (a : Int)) = W6 := ⟨_, rfl⟩
        rw [hW6] at HM6 HS6 HK6 ⊢
        clear hW6 C5 c5 f5 cn3
        have hl5 := HR5.out
        subst hl5
        obtain ⟨⟨o7, P7, l7⟩, hq7⟩ : ∃ q, plant g f P5 r5.data.toList = q := ⟨_, rfl⟩
        have hle7 := plant_le g f P5 r5.data.toList
        rw [hq7] at hle7
        have hrl5 : r5.data.toList.length = r5.size := by simp
        have h5s := HLE5.out.sum
        have h5l := HLE5.out.less
        simp only at h5s h5l
        have hr5s : r5.size ≤ r1.size := by have := HRL.out; omega
        have C7 := HIH.out P5 r5 v5 W6 _ hq7 (by have := HZ1.out; omega) (by have := HRL.out; omega) (Nat.le_trans HN.out HK6.out.keep.size) HM6.out
        have hR7 : plantB a (o7, P7, l7) = R := by rw [← hq7]; exact hR
        have HGD7 := Lib.hid (show ∀ x ∈ P7, GoodStp x from hle7.good (by have := HRL.out; omega) (HLE5.out.good (by have := HRL.out; omega) HGD.out))
        have HA := Lib.hid (show a ≤ 1000000 from by have h1 := (HLE5.out.at_ a rfl).1; simp only at h1; have := HRL.out; omega)
        have HB7 := Lib.hid (show ∀ b, o7 = some b → b ≤ 1000000 from fun b e => by have h1 := (hle7.at_ b e).1; have h2 := hle7.sum; simp only at h1 h2; have := HRL.out; omega)
        have HP7 := Lib.hid (show P7.length ≤ 1000000 from by have h2 := hle7.sum; simp only at h2; have := HRL.out; omega)
        have cn6 := HM6.out.cn
        have HSW8 := Lib.hid (show w.heap.size < W6.heap.size from HS6.out.lt)
        clear hle7 hrl5 h5s h5l hr5s hR hq7
        cases o7 with
        | none =>
          have C7 : Hid (Calls Try.prog 150 #[.pointer (some ⟨Br, 0, none⟩), .pointer (some ⟨Bn, 0, none⟩), .pointer (some ⟨Bg, 0, none⟩), .pointer (some ⟨Bk, 0, none⟩), .pointer (some ⟨Bp, 0, none⟩)] W6 fun e w' => ∃ v' r', e = .returned (.tuple #[.int .i64 0, .bool false]) ∧ PlantAt w' Br Bn Bg Bk Bp bm N0 g v' P7 P7 r' ∧ r'.data.toList = l7 ∧ PlantK Br Bp bm v5 v' W6 w') := Lib.hid C7
          go_wp2_with (go_at_call 150
                       refine C7.out.mono ?_
                       rintro e w7 ⟨v7, r7, rfl, hM7, hr7, hK7⟩
                       have hne8 : v7.ownBlock ≠ some w.heap.size := fun e => (hK7.own _ e).elim (fun h => by exact HNE6.out h) (fun h => by have := HSW8.out; omega)
                       have hS8 : Blk w7 w.heap.size 123 #[.int .i64 2, .int .i64 (a : Int), .int .i64 0] := (hK7.keep.block _ ⟨HSW8.out, by have := HX.out.lt; have := HN.out; omega, by have := HX.out.lt; have := HN.out; omega, by have := HX.out.lt; have := HN.out; omega, HNE6.out⟩).trans HS6.out
                       have c7 := hS8.cell 2
                       have f7 := hS8.frozen 2
                       simp only [List.getElem?_toArray, List.getElem?_cons_zero, List.getElem?_cons_succ] at c7
                       have HM8 := Lib.hid (hM7.far (i := 2) HX.out HN.out hne8 (.int .i64 0))
                       have HS8 := Lib.hid (hS8.set_ 2 (.int .i64 0))
                       have HK8 := Lib.hid ((HK6.out.next hK7).set (sb := w.heap.size) (i := 2) (.inl (Nat.le_refl _)) (.int .i64 0))
                       have HR7 := Lib.hid hr7
                       have HNE8 := Lib.hid hne8
                       clear hM7 hr7 hK7 hS8 hne8)
          go_ret2
          subst hR7
          exact ⟨v7, r7, rfl, HM8.out, HR7.out, HK8.out⟩
        | some b =>
          have C7 : Hid (Calls Try.prog 150 #[.pointer (some ⟨Br, 0, none⟩), .pointer (some ⟨Bn, 0, none⟩), .pointer (some ⟨Bg, 0, none⟩), .pointer (some ⟨Bk, 0, none⟩), .pointer (some ⟨Bp, 0, none⟩)] W6 fun e w' => ∃ v' r', e = .returned (.tuple #[.int .i64 (b : Int), .bool true]) ∧ PlantAt w' Br Bn Bg Bk Bp bm N0 g v' P7 P7 r' ∧ r'.data.toList = l7 ∧ PlantK Br Bp bm v5 v' W6 w') := Lib.hid C7
          go_upto_region 12 with (first
                     | (go_at_call 150
                        refine C7.out.mono ?_
                        rintro e w7 ⟨v7, r7, rfl, hM7, hr7, hK7⟩
                        have hne8 : v7.ownBlock ≠ some w.heap.size := fun e => (hK7.own _ e).elim (fun h => by exact HNE6.out h) (fun h => by have := HSW8.out; omega)
                        have hS8 : Blk w7 w.heap.size 123 #[.int .i64 2, .int .i64 (a : Int), .int .i64 0] := (hK7.keep.block _ ⟨HSW8.out, by have := HX.out.lt; have := HN.out; omega, by have := HX.out.lt; have := HN.out; omega, by have := HX.out.lt; have := HN.out; omega, HNE6.out⟩).trans HS6.out
                        have c7 := hS8.cell 2
                        have f7 := hS8.frozen 2
                        simp only [List.getElem?_toArray, List.getElem?_cons_zero, List.getElem?_cons_succ] at c7
                        have HM8 := Lib.hid (hM7.far (i := 2) HX.out HN.out hne8 (.int .i64 (b : Int)))
                        have HS8 := Lib.hid (hS8.set_ 2 (.int .i64 (b : Int)))
                        have HK8 := Lib.hid ((HK6.out.next hK7).set (sb := w.heap.size) (i := 2) (.inl (Nat.le_refl _)) (.int .i64 (b : Int)))
                        have HR7 := Lib.hid hr7
                        have HNE8 := Lib.hid hne8
                        clear hM7 hr7 hK7 hS8 hne8))
          obtain ⟨W8, hW8⟩ : ∃ W8, w7.setCell ⟨w.heap.size, 2, none⟩ (.int .i64 (b : Int)) = W8 := ⟨_, rfl⟩
          rw [hW8] at HM8 HS8 HK8 ⊢
          clear hW8 C7 c7 f7 cn6
          have HREND := Lib.hid hR7
          have HGX := Lib.hid (show GoodStp (2, (a : Int), (b : Int)) from ⟨by simp, by have := HA.out; simp only; omega, by have := HB7.out b rfl; simp only; omega⟩)
          clear hR7
          obtain ⟨q, hq⟩ : ∃ q, P7.length = q := ⟨_, rfl⟩
          have hpl := placeS_le P7 (2, (a : Int), (b : Int))
          obtain ⟨A8, c8, hv8⟩ := row_formK HM8.out.row
          rw [hq] at hv8
          subst hv8
          have hsb := HS8.out
          have k0 := hsb.cell 0
          have k1 := hsb.cell 1
          have k2 := hsb.cell 2
          have k0 : W8.cell? ⟨w.heap.size, 0, none⟩ = some (.int .i64 2) := k0
          have k1 : W8.cell? ⟨w.heap.size, 1, none⟩ = some (.int .i64 (a : Int)) := k1
          have k2 : W8.cell? ⟨w.heap.size, 2, none⟩ = some (.int .i64 (b : Int)) := k2
          have ck8 := HM8.out.ck
          have cp8 := HM8.out.cp
          have fp8 := HM8.out.fp
          obtain ⟨ix, hlk, hix⟩ := HM8.out.mm.look HGX.out
          have hlk : (Instr.lookup 138 (.map (some bm)) (.agg #[.int .i64 2, .int .i64 (a : Int), .int .i64 (b : Int)]) true).run Try.prog W8 = .ok (.tuple #[.int .i64 ix, .bool (P7.contains (2, (a : Int), (b : Int)))]) W8 := hlk
          cases hcon : P7.contains (2, (a : Int), (b : Int))
          · rw [hcon] at hlk
            obtain ⟨W9, hup, hM9, hg9⟩ := HM8.out.mm.put HGX.out hcon (by have := HP7.out; omega)
            rw [hq] at hup
            have hup : (Instr.mapUpdate 138 (.map (some bm)) (.agg #[.int .i64 2, .int .i64 (a : Int), .int .i64 (b : Int)]) (.int .i64 (q : Int))).run Try.prog W8 = .ok () W9 := hup
            obtain ⟨hM9, hK9⟩ := HM8.out.met HX.out hM9 hg9
            have hS9 : Blk W9 w.heap.size 123 #[.int .i64 2, .int .i64 (a : Int), .int .i64 (b : Int)] := Blk.grown hsb hg9 (fun e => by have := Option.some.inj e; have := HX.out.lt; have := HN.out; omega)
            have j0 : W9.cell? ⟨w.heap.size, 0, none⟩ = some (.int .i64 2) := hS9.cell 0
            have j1 : W9.cell? ⟨w.heap.size, 1, none⟩ = some (.int .i64 (a : Int)) := hS9.cell 1
            have j2 : W9.cell? ⟨w.heap.size, 2, none⟩ = some (.int .i64 (b : Int)) := hS9.cell 2
            have cp9 := hM9.cp
            have ck9 := hM9.ck
            have HM9 := Lib.hid hM9
            have HK9 := Lib.hid (HK8.out.next hK9)
            have HROW := Lib.hid (show (W9.alloc (.cells #[.int .i64 2, .int .i64 (a : Int), .int .i64 (b : Int)] 123)).ownsRow N0 123 3 (.slice A8 q c8) q (flatS P7) from by have h := hM9.row; rw [hq] at h; exact World.ownsRow.alloc h _)
            have HN9 := Lib.hid (show N0 ≤ W9.heap.size from Nat.le_trans HN.out HK9.out.keep.size)
            have hq6 : q ≤ 1000000 := by have := HP7.out; omega
            have HQ := Lib.hid hq
            have HPL := Lib.hid (show placeS P7 (2, (a : Int), (b : Int)) = (q, P7 ++ [(2, (a : Int), (b : Int))]) by unfold placeS; rw [if_neg (by rw [hcon]; simp), hq])
            have hl5 := hM9.lts.2.2.2.2.1
            have HL5 := Lib.hid hl5
            have hw15 : Below W9.heap.size W9 (W9.alloc (.cells #[.int .i64 2, .int .i64 (a : Int), .int .i64 (b : Int)] 123)) := bel_al0 W9 _
            have cpA := (hw15.cell (p := ⟨Bp, 0, none⟩) hl5).trans cp9
            have fpA : (W9.alloc (.cells #[.int .i64 2, .int .i64 (a : Int), .int .i64 (b : Int)] 123)).frozen? ⟨Bp, 0, none⟩ = false := (World.frozen?_of_block (hw15.block _ hl5)).trans hM9.fp
            have HPA := Lib.hid (And.intro cpA fpA)
            clear hM9 hK9 hg9 hS9 hq hpl hix hcon hsb hl5 hw15 fp8 cpA fpA
            go_wp2_with (first
                      | (at_builtin
                         refine wpList_append_own_at _ rfl _ _ 50 rfl N0 123 i0 _ 3 24 Try.underlying50 hi hz0 hz1 hz2 rfl (by omega) (.slice A8 q c8) q (flatS P7) rfl HROW.out ⟨W9.heap.size, 0, none⟩ 1 1 [.int .i64 2, .int .i64 (a : Int), .int .i64 (b : Int)] rfl rfl
                           (World.news_of_block (cs := #[.int .i64 2, .int .i64 (a : Int), .int .i64 (b : Int)]) (t := 123) (fr := (0, 0)) (heap_alloc_new W9 _)) (by simp [Value.oneCell']) (by unfold maxLen; omega) (by omega) (by have := HN9.out; rw [World.size_alloc]; omega) ?_
                         intro v5 wz hown5 hg5 _ hob5
                         obtain ⟨g5, cap5, rfl, _⟩ := hown5.form (by omega)
                         have hmz := (HM9.out.up (bel_al0 W9 (.cells #[.int .i64 2, .int .i64 (a : Int), .int .i64 (b : Int)] 123))).lts
                         have cbt5 : wz.cell? ⟨Bp, 0, none⟩ = some (.slice A8 q c8) := (cell_grown hg5 hmz.2.2.2.2.1 (fun e => by have h1 := (hmz.2.2.2.2.2.2 Bp e).1; have := HX.out.lt; omega)).trans HPA.out.1
                         have fbt5 : wz.frozen? ⟨Bp, 0, none⟩ = false := (frozen_grown hg5 hmz.2.2.2.2.1 (fun e => by have h1 := (hmz.2.2.2.2.2.2 Bp e).1; have := HX.out.lt; omega)).trans HPA.out.2
                         have HM10 := Lib.hid (HM9.out.store (x := (2, (a : Int), (b : Int))) HX.out HN9.out (bel_al0 W9 (.cells #[.int .i64 2, .int .i64 (a : Int), .int .i64 (b : Int)] 123)) (by rw [HQ.out]; exact hown5) hg5 hob5)
                         clear hown5 hg5 hob5 hmz))
            go_ret2
            have hfin := HREND.out
            subst hfin
            refine ⟨_, r7, ?_, ?_, HR7.out, HK9.out.next HM10.out.2⟩
            · show _ = Ending.returned (.tuple #[.int .i64 (((placeS P7 (2, (a : Int), (b : Int))).1 : Nat) : Int), .bool true])
              rw [HPL.out]
              rfl
            · show PlantAt _ Br Bn Bg Bk Bp bm N0 g _ (placeS P7 (2, (a : Int), (b : Int))).2 (placeS P7 (2, (a : Int), (b : Int))).2 r7
              rw [HPL.out]
              exact HM10.out.1
          · rw [hcon] at hlk
            have hidx := hix hcon
            subst hidx
            have HPL := Lib.hid (show placeS P7 (2, (a : Int), (b : Int)) = (P7.idxOf (2, (a : Int), (b : Int)), P7) by unfold placeS; rw [if_pos hcon])
            clear hq hpl hix hcon hsb fp8
            go_wp2
            go_ret2
            have hfin := HREND.out
            subst hfin
            refine ⟨_, r7, ?_, ?_, HR7.out, HK8.out⟩
            · show _ = Ending.returned (.tuple #[.int .i64 (((placeS P7 (2, (a : Int), (b : Int))).1 : Nat) : Int), .bool true])
              rw [HPL.out]
              rfl
            · show PlantAt _ Br Bn Bg Bk Bp bm N0 g _ (placeS P7 (2, (a : Int), (b : Int))).2 (placeS P7 (2, (a : Int), (b : Int))).2 r7
              rw [HPL.out]
              exact HM8.out
    · rw [if_neg hd] at hR
      have HGO := Lib.hid hrm
      have CIT := Lib.hid (citation_any g r (w.alloc (.cells #[.int .i64 1, .int .i64 0, .int .i64 0] 123)) hrm)
      have hc0 : r.size = 0 ∨ ∃ h : 0 < r.size, (((r[0]'h).toNat : Nat) : Int) ≠ 68 := by
        by_cases h : 0 < r.size
        · refine .inr ⟨h, fun e => hd ?_⟩
          have e0 : r.data.toList[0]? = some r[0] := by rw [List.getElem?_eq_getElem (by omega)]; simp [ByteArray.getElem_eq_getElem_data]
          rw [List.head?_eq_getElem?, e0]
          have : r[0].toNat = 68 := by omega
          have : r[0] = 68 := UInt8.toNat_inj.1 this
          rw [this]
        · exact .inl (by omega)
      obtain ⟨⟨ci, cb⟩, hcit⟩ : ∃ q, citF g r.data.toList = q := ⟨_, rfl⟩
      unfold plantC at hR
      have hco := @citF_ok g r.data.toList
      rw [hcit] at hR CIT hco
      have ht3 := toList_drop r (min 3 r.size)
      have hdm : r.data.toList.drop (min 3 r.size) = r.data.toList.drop 3 := by
        rcases Nat.le_total 3 r.size with h | h
        · rw [Nat.min_eq_left h]
        · rw [Nat.min_eq_right h, List.drop_of_length_le (by omega), List.drop_of_length_le (by omega)]
      rw [hdm] at ht3
      have HT3 := Lib.hid ht3
      have HCO := Lib.hid hco
      have HC3 := Lib.hid (fun h : cb = true => (show 3 ≤ r.size by have := (hco h).1; omega))
      have hne1 : v.ownBlock ≠ some w.heap.size := fun e => by have := (l7 _ e).2; omega
      have HFIN := Lib.hid (fun (k : Nat) (c : Int) (r' : ByteArray) => And.intro (((hM1.frame (w' := (w.alloc (.cells #[.int .i64 1, .int .i64 0, .int .i64 0] 123)).drewN k) fun _ _ => rfl).far (i := 1) hx hN hne1 (.int .i64 c)).rest hx r')
        (And.intro (((hS1.drewN k).set_ 1 (.int .i64 c)).far (p := ⟨Br, 0, none⟩) hsbr (.string r')) (((show PlantK Br Bp bm v v w ((w.alloc (.cells #[.int .i64 1, .int .i64 0, .int .i64 0] 123)).drewN k) from ⟨hK1.keep.drewN k, hK1.own⟩).set (sb := w.heap.size) (i := 1) (.inl (Nat.le_refl _)) (.int .i64 c)).set (sb := Br) (i := 0) (.inr (.inl rfl)) (.string r'))))
      clear ih hM hx hN hd hl hB1 cr fr cn cg l1 l2 l3 l4 l5 l6 l7 hM1 hS1 hK1 hsbr ht3 hdm hco hcit HM hrm hne1
      cases cb with
      | false =>
        simp only [Bool.false_eq_true, if_false] at hR
        by_cases h3 : 3 ≤ r.size
        · rcases hc0 with h0 | ⟨h0, hc68⟩
          · omega
          · have hcb : ((((r[0]'h0).toNat : Nat) : Int) == 68) = false := by simpa using hc68
            have hm3 : min (3 : Int) (r.size : Int) = 3 := by omega
            have hm3' : min 3 r.size = 3 := by omega
            rw [hm3'] at HT3
            clear hc68
            go_enter Try.func150, Try.ntmps150
            go_wp2_with (first
              | (go_at_call 151
                 refine CIT.out.mono ?_
                 rintro e w5 ⟨rfl, k5, rfl⟩))
            go_ret2
            have hfin := hR
            subst hfin
            obtain ⟨f1, f2, f3⟩ := HFIN.out k5 ci (r.extract 3 r.size)
            exact ⟨v, (r.extract 3 r.size), rfl, f1, by exact HT3.out, f3⟩
        · have hm3 : min (3 : Int) (r.size : Int) = (r.size : Int) := by omega
          have hdr : r.data.toList.drop 3 = [] := List.drop_of_length_le (by simp; omega)
          have HDR := Lib.hid hdr
          clear hdr
          rcases hc0 with h0 | ⟨h0, hc68⟩
          · have hr0 : ¬ 0 < r.size := by omega
            clear h0
            go_enter Try.func150, Try.ntmps150
            go_wp2_with (first
              | (go_at_call 151
                 refine CIT.out.mono ?_
                 rintro e w5 ⟨rfl, k5, rfl⟩))
            go_ret2
            have hfin := hR
            subst hfin
            obtain ⟨f1, f2, f3⟩ := HFIN.out k5 ci ByteArray.empty
            exact ⟨v, ByteArray.empty, rfl, f1, by rw [HDR.out]; rfl, f3⟩
          · have hcb : ((((r[0]'h0).toNat : Nat) : Int) == 68) = false := by simpa using hc68
            clear hc68
            go_enter Try.func150, Try.ntmps150
            go_wp2_with (first
              | (go_at_call 151
                 refine CIT.out.mono ?_
                 rintro e w5 ⟨rfl, k5, rfl⟩))
            go_ret2
            have hfin := hR
            subst hfin
            obtain ⟨f1, f2, f3⟩ := HFIN.out k5 ci ByteArray.empty
            exact ⟨v, ByteArray.empty, rfl, f1, by rw [HDR.out]; rfl, f3⟩
      | true =>
        simp only [if_true] at hR
        have h3 : 3 ≤ r.size := HC3.out rfl
        obtain ⟨h0, hc68⟩ : ∃ h : 0 < r.size, (((r[0]'h).toNat : Nat) : Int) ≠ 68 := hc0.resolve_left (by omega)
        have hcb : ((((r[0]'h0).toNat : Nat) : Int) == 68) = false := by simpa using hc68
        have hm3 : min (3 : Int) (r.size : Int) = 3 := by omega
        have hm3' : min 3 r.size = 3 := by omega
        rw [hm3'] at HT3
        have HREND := Lib.hid hR
        have hco := HCO.out rfl
        simp only at hco
        have HGX := Lib.hid (show GoodStp (1, ci, 0) from ⟨by simp, by simp only; omega, by simp⟩)
        have HP7 := Lib.hid (show P.length ≤ 1000000 from by omega)
        clear hc68 hc0 hR hco
        go_enter Try.func150, Try.ntmps150
        go_upto_region 12 with (first
          | (go_at_call 151
             refine CIT.out.mono ?_
             rintro e w5 ⟨rfl, k5, rfl⟩))
        obtain ⟨f1, f2, f3⟩ := HFIN.out k5 ci (r.extract 3 r.size)
        obtain ⟨W8, hW8⟩ : ∃ W8, (((w.alloc (.cells #[.int .i64 1, .int .i64 0, .int .i64 0] 123)).drewN k5).setCell ⟨w.heap.size, 1, none⟩ (.int .i64 ci)).setCell ⟨Br, 0, none⟩ (.string (r.extract 3 r.size)) = W8 := ⟨_, rfl⟩
        rw [hW8] at f1 f2 f3 ⊢
        obtain ⟨r7, hr7⟩ : ∃ r7, r.extract 3 r.size = r7 := ⟨_, rfl⟩
        rw [hr7] at f1 HT3
        have HR7 := HT3
        have HM8 := Lib.hid f1
        have HS8 := Lib.hid (show Blk W8 w.heap.size 123 #[.int .i64 1, .int .i64 ci, .int .i64 0] from f2)
        have HK8 := Lib.hid f3
        clear hW8 f1 f2 f3 hr7 hcb hm3 hm3' CIT crA cgA frA h3 HFIN HIH
        obtain ⟨q, hq⟩ : ∃ q, P.length = q := ⟨_, rfl⟩
        have hpl := placeS_le P (1, ci, 0)
        obtain ⟨A8, c8, hv8⟩ := row_formK HM8.out.row
        rw [hq] at hv8
        subst hv8
        have hsb := HS8.out
        have k0 := hsb.cell 0
        have k1 := hsb.cell 1
        have k2 := hsb.cell 2
        have k0 : W8.cell? ⟨w.heap.size, 0, none⟩ = some (.int .i64 1) := k0
        have k1 : W8.cell? ⟨w.heap.size, 1, none⟩ = some (.int .i64 ci) := k1
        have k2 : W8.cell? ⟨w.heap.size, 2, none⟩ = some (.int .i64 0) := k2
        have ck8 := HM8.out.ck
        have cp8 := HM8.out.cp
        have fp8 := HM8.out.fp
        obtain ⟨ix, hlk, hix⟩ := HM8.out.mm.look HGX.out
        have hlk : (Instr.lookup 138 (.map (some bm)) (.agg #[.int .i64 1, .int .i64 ci, .int .i64 0]) true).run Try.prog W8 = .ok (.tuple #[.int .i64 ix, .bool (P.contains (1, ci, 0))]) W8 := hlk
        cases hcon : P.contains (1, ci, 0)
        · rw [hcon] at hlk
          obtain ⟨W9, hup, hM9, hg9⟩ := HM8.out.mm.put HGX.out hcon (by have := HP7.out; omega)
          rw [hq] at hup
          have hup : (Instr.mapUpdate 138 (.map (some bm)) (.agg #[.int .i64 1, .int .i64 ci, .int .i64 0]) (.int .i64 (q : Int))).run Try.prog W8 = .ok () W9 := hup
          obtain ⟨hM9, hK9⟩ := HM8.out.met HX.out hM9 hg9
          have hS9 : Blk W9 w.heap.size 123 #[.int .i64 1, .int .i64 ci, .int .i64 0] := Blk.grown hsb hg9 (fun e => by have := Option.some.inj e; have := HX.out.lt; have := HN.out; omega)
          have j0 : W9.cell? ⟨w.heap.size, 0, none⟩ = some (.int .i64 1) := hS9.cell 0
          have j1 : W9.cell? ⟨w.heap.size, 1, none⟩ = some (.int .i64 ci) := hS9.cell 1
          have j2 : W9.cell? ⟨w.heap.size, 2, none⟩ = some (.int .i64 0) := hS9.cell 2
          have cp9 := hM9.cp
          have ck9 := hM9.ck
          have HM9 := Lib.hid hM9
          have HK9 := Lib.hid (HK8.out.next hK9)
          have HROW := Lib.hid (show (W9.alloc (.cells #[.int .i64 1, .int .i64 ci, .int .i64 0] 123)).ownsRow N0 123 3 (.slice A8 q c8) q (flatS P) from by have h := hM9.row; rw [hq] at h; exact World.ownsRow.alloc h _)
          have HN9 := Lib.hid (show N0 ≤ W9.heap.size from Nat.le_trans HN.out HK9.out.keep.size)
          have hq6 : q ≤ 1000000 := by have := HP7.out; omega
          have HQ := Lib.hid hq
          have HPL := Lib.hid (show placeS P (1, ci, 0) = (q, P ++ [(1, ci, 0)]) by unfold placeS; rw [if_neg (by rw [hcon]; simp), hq])
          have hl5 := hM9.lts.2.2.2.2.1
          have HL5 := Lib.hid hl5
          have hw15 : Below W9.heap.size W9 (W9.alloc (.cells #[.int .i64 1, .int .i64 ci, .int .i64 0] 123)) := bel_al0 W9 _
          have cpA := (hw15.cell (p := ⟨Bp, 0, none⟩) hl5).trans cp9
          have fpA : (W9.alloc (.cells #[.int .i64 1, .int .i64 ci, .int .i64 0] 123)).frozen? ⟨Bp, 0, none⟩ = false := (World.frozen?_of_block (hw15.block _ hl5)).trans hM9.fp
          have HPA := Lib.hid (And.intro cpA fpA)
          clear hM9 hK9 hg9 hS9 hq hpl hix hcon hsb hl5 hw15 fp8 cpA fpA
          go_wp2_with (first
                    | (at_builtin
                       refine wpList_append_own_at _ rfl _ _ 50 rfl N0 123 i0 _ 3 24 Try.underlying50 hi hz0 hz1 hz2 rfl (by omega) (.slice A8 q c8) q (flatS P) rfl HROW.out ⟨W9.heap.size, 0, none⟩ 1 1 [.int .i64 1, .int .i64 ci, .int .i64 0] rfl rfl
                         (World.news_of_block (cs := #[.int .i64 1, .int .i64 ci, .int .i64 0]) (t := 123) (fr := (0, 0)) (heap_alloc_new W9 _)) (by simp [Value.oneCell']) (by unfold maxLen; omega) (by omega) (by have := HN9.out; rw [World.size_alloc]; omega) ?_
                       intro v5 wz hown5 hg5 _ hob5
                       obtain ⟨g5, cap5, rfl, _⟩ := hown5.form (by omega)
                       have hmz := (HM9.out.up (bel_al0 W9 (.cells #[.int .i64 1, .int .i64 ci, .int .i64 0] 123))).lts
                       have cbt5 : wz.cell? ⟨Bp, 0, none⟩ = some (.slice A8 q c8) := (cell_grown hg5 hmz.2.2.2.2.1 (fun e => by have h1 := (hmz.2.2.2.2.2.2 Bp e).1; have := HX.out.lt; omega)).trans HPA.out.1
                       have fbt5 : wz.frozen? ⟨Bp, 0, none⟩ = false := (frozen_grown hg5 hmz.2.2.2.2.1 (fun e => by have h1 := (hmz.2.2.2.2.2.2 Bp e).1; have := HX.out.lt; omega)).trans HPA.out.2
                       have HM10 := Lib.hid (HM9.out.store (x := (1, ci, 0)) HX.out HN9.out (bel_al0 W9 (.cells #[.int .i64 1, .int .i64 ci, .int .i64 0] 123)) (by rw [HQ.out]; exact hown5) hg5 hob5)
                       clear hown5 hg5 hob5 hmz))
          go_ret2
          have hfin := HREND.out
          subst hfin
          refine ⟨_, r7, ?_, ?_, HR7.out, HK9.out.next HM10.out.2⟩
          · show _ = Ending.returned (.tuple #[.int .i64 (((placeS P (1, ci, 0)).1 : Nat) : Int), .bool true])
            rw [HPL.out]
            rfl
          · show PlantAt _ Br Bn Bg Bk Bp bm N0 g _ (placeS P (1, ci, 0)).2 (placeS P (1, ci, 0)).2 r7
            rw [HPL.out]
            exact HM10.out.1
        · rw [hcon] at hlk
          have hidx := hix hcon
          subst hidx
          have HPL := Lib.hid (show placeS P (1, ci, 0) = (P.idxOf (1, ci, 0), P) by unfold placeS; rw [if_pos hcon])
          clear hq hpl hix hcon hsb fp8
          go_wp2
          go_ret2
          have hfin := HREND.out
          subst hfin
          refine ⟨_, r7, ?_, ?_, HR7.out, HK8.out⟩
          · show _ = Ending.returned (.tuple #[.int .i64 (((placeS P (1, ci, 0)).1 : Nat) : Int), .bool true])
            rw [HPL.out]
            rfl
          · show PlantAt _ Br Bn Bg Bk Bp bm N0 g _ (placeS P (1, ci, 0)).2 (placeS P (1, ci, 0)).2 r7
            rw [HPL.out]
            exact HM8.out

end Go.Proofs.Ytippmpcaongolaa
