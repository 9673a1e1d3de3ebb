/- Contracts: Join; the statements' own 'awake' (layer 2). -/
import Derived.Test.YtojofbmpknpggaaY17g
import Derived.Test.YtojofbmpknpggaaG1g
import Derived.Laws.BytesArg
import Derived.Test.YtojofbmpknpggaaG3g
import Derived.DeepKeys4
import Derived.Test.YtojofbmpknpggaaB4g
import Derived.Deep.RegionHeld3
import Derived.Deep.CutRange
import Derived.BigQuiet
/- Contracts: behind, text. -/
namespace Go.Proofs.Ytojofbmpknpggaa
open Go.RowKit

end Go.Proofs.Ytojofbmpknpggaa

/- Parts of a term by where they begin: the plain mathematics. -/
namespace Go.Proofs.Ytojofbmpknpggaa
open Go.RowKit

theorem scan_append (ss : Sg) : ∀ (l : List Int) (n : Nat) (r x : List Int), scan ss n l = some r → scan ss n (l ++ x) = some (r ++ x)
  | l, 0, r, x, h => by rw [scan_zero] at h ⊢; cases h; rfl
  | [], n + 1, r, x, h => by cases h
  | z :: l, n + 1, r, x, h => by
    simp only [scan, List.cons_append] at h ⊢
    exact scan_append ss l _ r x h

/-- The part that begins at an index. -/
def prt (ss : Sg) (zs : List Int) (a : Nat) : List Int := (zs.drop a).take ((zs.drop a).length - ((scan ss 1 (zs.drop a)).getD []).length)
/-- Where the part k behind the head at an index begins. -/
def psA (ss : Sg) (zs : List Int) (a k : Nat) : Nat := zs.length - ((scan ss k (zs.drop (a + 1))).getD []).length

structure PrtIs (ss : Sg) (zs : List Int) (a : Nat) (P : List Int) : Prop where
  len : 1 ≤ P.length
  le : a + P.length ≤ zs.length
  split : zs.drop a = P ++ zs.drop (a + P.length)
  good : scan ss 1 P = some []
  head : ∀ h : a < zs.length, P[0]? = some zs[a]
  whole : scan ss 1 (zs.drop a) = some (zs.drop (a + P.length))

theorem prt_is {ss : Sg} {zs : List Int} {a : Nat} {r0 : List Int} (h : scan ss 1 (zs.drop a) = some r0) : PrtIs ss zs a (prt ss zs a) := by
  obtain ⟨p, h1, h2, h3⟩ := scan_suffix ss _ _ _ h
  have hl := congrArg List.length h3
  rw [List.length_drop] at h1
  simp only [List.length_drop] at hl
  have e0 : (zs.drop a).length - ((scan ss 1 (zs.drop a)).getD []).length = p := by
    rw [h]
    simp only [Option.getD_some, List.length_drop]
    omega
  have eP : prt ss zs a = (zs.drop a).take p := by unfold prt; rw [e0]
  have el : (prt ss zs a).length = p := by rw [eP, List.length_take, List.length_drop]; omega
  have ed : zs.drop (a + p) = (zs.drop a).drop p := by rw [List.drop_drop]
  refine ⟨by omega, by omega, ?_, ?_, ?_, ?_⟩
  · rw [el, ed, eP, List.take_append_drop]
  · rw [eP]
    exact scan_take ss _ _ _ (by rw [List.length_drop]; omega) (by rw [h, h3])
  · intro hlt
    rw [eP, List.getElem?_take, if_pos (by omega), List.getElem?_drop, Nat.add_zero, List.getElem?_eq_getElem hlt]
  · rw [el, ed, h, h3]

theorem prt_eq {ss : Sg} {zs : List Int} {a n : Nat} {x : List Int} (h : scan ss 1 (zs.drop a) = some x) (hx : (zs.drop a).length = n + x.length) : prt ss zs a = (zs.drop a).take n := by
  unfold prt
  rw [h]
  simp only [Option.getD_some]
  congr 1
  omega

section
variable {ss : Sg} {zs P : List Int} {a : Nat}
theorem prt_drop (h : PrtIs ss zs a P) {q : Nat} (hq : q ≤ P.length) : zs.drop (a + q) = P.drop q ++ zs.drop (a + P.length) := by
  have e : zs.drop (a + q) = (zs.drop a).drop q := by rw [List.drop_drop]
  rw [e, h.split, List.drop_append_of_le_length hq]
theorem prt_ar (h : PrtIs ss zs a P) (hl : a < zs.length) : scan ss (arOf ss zs[a]) (P.drop 1) = some [] := by
  have h1 := scan_head h.good h.len
  have h2 := h.head hl
  rw [List.getElem?_eq_getElem h.len] at h2
  rw [← Option.some.inj h2]
  exact h1
theorem prt_pos (h : PrtIs ss zs a P) (hl : a < zs.length) {k : Nat} (hk : k ≤ arOf ss zs[a]) :
    psA ss zs a k = a + pos ss P k ∧ 1 + k ≤ pos ss P k ∧ pos ss P k ≤ P.length ∧ scan ss k (zs.drop (a + 1)) = some (zs.drop (psA ss zs a k)) := by
  obtain ⟨h1, h2, h3⟩ := pos_scan (prt_ar h hl) h.len hk
  have h4 := scan_append ss _ _ _ (zs.drop (a + P.length)) h1
  rw [← prt_drop h h.len, ← prt_drop h h3] at h4
  have hle := h.le
  have e2 : psA ss zs a k = a + pos ss P k := by
    unfold psA
    rw [h4]
    simp only [Option.getD_some, List.length_drop]
    omega
  exact ⟨e2, h2, h3, by rw [e2]; exact h4⟩
theorem prt_step (h : PrtIs ss zs a P) (hl : a < zs.length) {k : Nat} (hk : k < arOf ss zs[a]) :
    scan ss 1 (zs.drop (psA ss zs a k)) = some (zs.drop (psA ss zs a (k + 1))) ∧ psA ss zs a k < psA ss zs a (k + 1) ∧ psA ss zs a (k + 1) ≤ zs.length ∧ prt ss zs (psA ss zs a k) = argL ss P k := by
  obtain ⟨a1, a2, a3, a4⟩ := prt_pos h hl (Nat.le_of_lt hk)
  obtain ⟨b1, b2, b3, b4⟩ := prt_pos h hl (show k + 1 ≤ _ from hk)
  obtain ⟨_, c2, _⟩ := pos_step (prt_ar h hl) h.len hk
  have hle := h.le
  have s1 : scan ss 1 (zs.drop (psA ss zs a k)) = some (zs.drop (psA ss zs a (k + 1))) := by
    rw [scan_add, a4] at b4
    exact b4
  refine ⟨s1, by omega, by omega, ?_⟩
  rw [prt_eq (n := pos ss P (k + 1) - pos ss P k) s1 (by simp only [List.length_drop]; omega), a1]
  unfold argL
  rw [prt_drop h a3, List.take_append_of_le_length (by rw [List.length_drop]; omega)]
theorem psA_zero (hl : a < zs.length) : psA ss zs a 0 = a + 1 := by
  unfold psA
  rw [scan_zero]
  simp only [Option.getD_some, List.length_drop]
  omega
end


end Go.Proofs.Ytojofbmpknpggaa

/- Words for join: a window of a list in memory; the common form of two terms; a map from pairs of texts. -/
namespace Go.Proofs.Ytojofbmpknpggaa
open Go.RowKit Go.WideMaps

abbrev Two := List Int × List Int
def meet1 (met : List Two) (x : Two) : List Two := if met.contains x then met else met ++ [x]
/-- The common form of two terms that stand side by side, and the pairs that it tells by variables. -/
def comF (ss : Sg) : Nat → List Int → List Int → List Two → List Int × List Two
  | 0, _, _, met => ([], met)
  | _ + 1, [], _, met => ([], met)
  | f + 1, x :: a, b, met =>
    if 0 ≤ x ∧ b.head? = some x then (x :: (comF ss f a b.tail met).1, (comF ss f a b.tail met).2)
    else
      ((-(((meet1 met (prt ss (x :: a) 0, prt ss b 0)).idxOf (prt ss (x :: a) 0, prt ss b 0) : Nat) : Int) - 1) :: (comF ss f ((x :: a).drop (prt ss (x :: a) 0).length) (b.drop (prt ss b 0).length) (meet1 met (prt ss (x :: a) 0, prt ss b 0))).1,
        (comF ss f ((x :: a).drop (prt ss (x :: a) 0).length) (b.drop (prt ss b 0).length) (meet1 met (prt ss (x :: a) 0, prt ss b 0))).2)
theorem prt_at (ss : Sg) (zs : List Int) (a : Nat) : prt ss (zs.drop a) 0 = prt ss zs a := by unfold prt; rw [List.drop_zero]
/-- What is made when i and k numbers are read: t, and the pairs met. -/
def ComGoes (ss : Sg) (f : Nat) (za zb : List Int) (i k : Nat) (t : List Int) (met : List Two) (R : List Int × List Two) : Prop :=
  za.length - i ≤ f ∧ (t ++ (comF ss f (za.drop i) (zb.drop k) met).1, (comF ss f (za.drop i) (zb.drop k) met).2) = R
/-- Both are read as far. -/
def Side (ss : Sg) (za zb : List Int) (i k : Nat) : Prop := ∃ c, scan ss c (za.drop i) = some [] ∧ scan ss c (zb.drop k) = some []
section
variable {ss : Sg} {f i k : Nat} {za zb t : List Int} {met : List Two} {R : List Int × List Two}
theorem ComGoes.done (h : ComGoes ss f za zb i k t met R) (hi : za.length ≤ i) : (t, met) = R := by
  obtain ⟨_, h⟩ := h
  rw [List.drop_of_length_le hi] at h
  cases f with
  | zero => simpa [comF] using h
  | succ f => simpa [comF] using h
theorem ComGoes.same (h : ComGoes ss f za zb i k t met R) (hi : i < za.length) (hk : k < zb.length) (h0 : 0 ≤ za[i]) (he : za[i] = zb[k]) : ∃ f', ComGoes ss f' za zb (i + 1) (k + 1) (t ++ [za[i]]) met R := by
  obtain ⟨h1, h⟩ := h
  cases f with
  | zero => omega
  | succ f =>
    refine ⟨f, by omega, ?_⟩
    rw [List.drop_eq_getElem_cons hi, List.drop_eq_getElem_cons hk, comF, if_pos ⟨h0, by rw [he]; rfl⟩] at h
    rw [← h]
    simp
theorem ComGoes.part (h : ComGoes ss f za zb i k t met R) (hi : i < za.length) (hk : k < zb.length) (hne : ¬ (0 ≤ za[i] ∧ za[i] = zb[k])) (h1 : 1 ≤ (prt ss za i).length) :
    ∃ f', ComGoes ss f' za zb (i + (prt ss za i).length) (k + (prt ss zb k).length) (t ++ [-(((meet1 met (prt ss za i, prt ss zb k)).idxOf (prt ss za i, prt ss zb k) : Nat) : Int) - 1]) (meet1 met (prt ss za i, prt ss zb k)) R := by
  obtain ⟨hf, h⟩ := h
  cases f with
  | zero => omega
  | succ f =>
    refine ⟨f, by omega, ?_⟩
    have e1 := List.drop_eq_getElem_cons hi
    have e2 := List.drop_eq_getElem_cons hk
    have hne' : ¬ (0 ≤ za[i] ∧ (zb.drop k).head? = some za[i]) := by
      rw [e2]
      simp only [List.head?_cons, Option.some.injEq]
      exact fun hh => hne ⟨hh.1, hh.2.symm⟩
    rw [e1, comF, if_neg hne', ← e1, prt_at, prt_at] at h
    rw [← h, List.drop_drop, List.drop_drop]
    simp
theorem Side.step (h : Side ss za zb i k) (hi : i < za.length) : ∃ hk : k < zb.length, (za[i] = zb[k] → Side ss za zb (i + 1) (k + 1)) ∧
    PrtIs ss za i (prt ss za i) ∧ PrtIs ss zb k (prt ss zb k) ∧ Side ss za zb (i + (prt ss za i).length) (k + (prt ss zb k).length) := by
  obtain ⟨c, h1, h2⟩ := h
  cases c with
  | zero =>
    rw [scan_zero] at h1
    have := congrArg List.length (Option.some.inj h1)
    rw [List.length_drop] at this
    simp at this
    omega
  | succ c =>
    obtain ⟨_, s1⟩ := scan_step h1
    obtain ⟨hk, s2⟩ := scan_step h2
    rw [Nat.add_comm c 1, scan_add] at h1 h2
    cases ea : scan ss 1 (za.drop i) with
    | none => rw [ea] at h1; cases h1
    | some ra =>
    cases eb : scan ss 1 (zb.drop k) with
    | none => rw [eb] at h2; cases h2
    | some rb =>
    have p1 := prt_is ea
    have p2 := prt_is eb
    refine ⟨hk, fun e => ⟨c + arOf ss za[i], s1, by rw [e]; exact s2⟩, p1, p2, c, ?_, ?_⟩
    · have := h1
      rw [p1.whole] at this
      exact this
    · have := h2
      rw [p2.whole] at this
      exact this
theorem Side.first (ha : scan ss 1 za = some []) (hb : scan ss 1 zb = some []) : Side ss za zb 0 0 := ⟨1, ha, hb⟩
end
section
variable {w w' : World} {bm : Nat} {met : List Two} {row : Option Nat}
end

end Go.Proofs.Ytojofbmpknpggaa

/- Contract: the reference's Arguments. -/
namespace Go.Proofs.Ytojofbmpknpggaa
open Go.RowKit

end Go.Proofs.Ytojofbmpknpggaa

/- Contract: the reference's Part. -/
namespace Go.Proofs.Ytojofbmpknpggaa
open Go.RowKit

end Go.Proofs.Ytojofbmpknpggaa

/- Contracts: logic.join. -/
namespace Go.Proofs.Ytojofbmpknpggaa
open Go.RowKit Go.WideMaps

section
variable {w wr W : World} {S v : Value} {t : List Int} {met : List Two}
end

end Go.Proofs.Ytojofbmpknpggaa

namespace Go.Proofs.Ytojofbmpknpggaa
open Go.RowKit

end Go.Proofs.Ytojofbmpknpggaa
