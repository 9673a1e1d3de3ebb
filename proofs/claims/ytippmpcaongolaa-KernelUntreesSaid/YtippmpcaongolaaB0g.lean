/- Contract: the reference's Part. -/
import Derived.Test.YtippmpcaongolaaA2g
import Derived.Test.YtippmpcaongolaaG2g
import Derived.Test.YtippmpcaongolaaQ5g
import Derived.Test.YtippmpcaongolaaB4g
/- Parts of a term by where they begin: the plain mathematics. -/
namespace Go.Proofs.Ytippmpcaongolaa
open Go.RowKit

theorem scan_append (ss : Sg) : ∀ (l : List Int) (n : Nat) (r x : List Int), scan ss n l = some r → scan ss n (l ++ x) = some (r ++ x)
  | l, 0, r, x, h => by rw [scan_zero] at h ⊢; cases h; rfl
  | [], n + 1, r, x, h => by cases h
  | z :: l, n + 1, r, x, h => by
    simp only [scan, List.cons_append] at h ⊢
    exact scan_append ss l _ r x h

/-- The part that begins at an index. -/
def prt (ss : Sg) (zs : List Int) (a : Nat) : List Int := (zs.drop a).take ((zs.drop a).length - ((scan ss 1 (zs.drop a)).getD []).length)
/-- Where the part k behind the head at an index begins. -/
def psA (ss : Sg) (zs : List Int) (a k : Nat) : Nat := zs.length - ((scan ss k (zs.drop (a + 1))).getD []).length

structure PrtIs (ss : Sg) (zs : List Int) (a : Nat) (P : List Int) : Prop where
  len : 1 ≤ P.length
  le : a + P.length ≤ zs.length
  split : zs.drop a = P ++ zs.drop (a + P.length)
  good : scan ss 1 P = some []
  head : ∀ h : a < zs.length, P[0]? = some zs[a]
  whole : scan ss 1 (zs.drop a) = some (zs.drop (a + P.length))

theorem prt_is {ss : Sg} {zs : List Int} {a : Nat} {r0 : List Int} (h : scan ss 1 (zs.drop a) = some r0) : PrtIs ss zs a (prt ss zs a) := by
  obtain ⟨p, h1, h2, h3⟩ := scan_suffix ss _ _ _ h
  have hl := congrArg List.length h3
  rw [List.length_drop] at h1
  simp only [List.length_drop] at hl
  have e0 : (zs.drop a).length - ((scan ss 1 (zs.drop a)).getD []).length = p := by
    rw [h]
    simp only [Option.getD_some, List.length_drop]
    omega
  have eP : prt ss zs a = (zs.drop a).take p := by unfold prt; rw [e0]
  have el : (prt ss zs a).length = p := by rw [eP, List.length_take, List.length_drop]; omega
  have ed : zs.drop (a + p) = (zs.drop a).drop p := by rw [List.drop_drop]
  refine ⟨by omega, by omega, ?_, ?_, ?_, ?_⟩
  · rw [el, ed, eP, List.take_append_drop]
  · rw [eP]
    exact scan_take ss _ _ _ (by rw [List.length_drop]; omega) (by rw [h, h3])
  · intro hlt
    rw [eP, List.getElem?_take, if_pos (by omega), List.getElem?_drop, Nat.add_zero, List.getElem?_eq_getElem hlt]
  · rw [el, ed, h, h3]

theorem prt_eq {ss : Sg} {zs : List Int} {a n : Nat} {x : List Int} (h : scan ss 1 (zs.drop a) = some x) (hx : (zs.drop a).length = n + x.length) : prt ss zs a = (zs.drop a).take n := by
  unfold prt
  rw [h]
  simp only [Option.getD_some]
  congr 1
  omega

section
variable {ss : Sg} {zs P : List Int} {a : Nat}
theorem prt_drop (h : PrtIs ss zs a P) {q : Nat} (hq : q ≤ P.length) : zs.drop (a + q) = P.drop q ++ zs.drop (a + P.length) := by
  have e : zs.drop (a + q) = (zs.drop a).drop q := by rw [List.drop_drop]
  rw [e, h.split, List.drop_append_of_le_length hq]
theorem prt_ar (h : PrtIs ss zs a P) (hl : a < zs.length) : scan ss (arOf ss zs[a]) (P.drop 1) = some [] := by
  have h1 := scan_head h.good h.len
  have h2 := h.head hl
  rw [List.getElem?_eq_getElem h.len] at h2
  rw [← Option.some.inj h2]
  exact h1
theorem prt_pos (h : PrtIs ss zs a P) (hl : a < zs.length) {k : Nat} (hk : k ≤ arOf ss zs[a]) :
    psA ss zs a k = a + pos ss P k ∧ 1 + k ≤ pos ss P k ∧ pos ss P k ≤ P.length ∧ scan ss k (zs.drop (a + 1)) = some (zs.drop (psA ss zs a k)) := by
  obtain ⟨h1, h2, h3⟩ := pos_scan (prt_ar h hl) h.len hk
  have h4 := scan_append ss _ _ _ (zs.drop (a + P.length)) h1
  rw [← prt_drop h h.len, ← prt_drop h h3] at h4
  have hle := h.le
  have e2 : psA ss zs a k = a + pos ss P k := by
    unfold psA
    rw [h4]
    simp only [Option.getD_some, List.length_drop]
    omega
  exact ⟨e2, h2, h3, by rw [e2]; exact h4⟩
theorem prt_step (h : PrtIs ss zs a P) (hl : a < zs.length) {k : Nat} (hk : k < arOf ss zs[a]) :
    scan ss 1 (zs.drop (psA ss zs a k)) = some (zs.drop (psA ss zs a (k + 1))) ∧ psA ss zs a k < psA ss zs a (k + 1) ∧ psA ss zs a (k + 1) ≤ zs.length ∧ prt ss zs (psA ss zs a k) = argL ss P k := by
  obtain ⟨a1, a2, a3, a4⟩ := prt_pos h hl (Nat.le_of_lt hk)
  obtain ⟨b1, b2, b3, b4⟩ := prt_pos h hl (show k + 1 ≤ _ from hk)
  obtain ⟨_, c2, _⟩ := pos_step (prt_ar h hl) h.len hk
  have hle := h.le
  have s1 : scan ss 1 (zs.drop (psA ss zs a k)) = some (zs.drop (psA ss zs a (k + 1))) := by
    rw [scan_add, a4] at b4
    exact b4
  refine ⟨s1, by omega, by omega, ?_⟩
  rw [prt_eq (n := pos ss P (k + 1) - pos ss P k) s1 (by simp only [List.length_drop]; omega), a1]
  unfold argL
  rw [prt_drop h a3, List.take_append_of_le_length (by rw [List.length_drop]; omega)]
theorem psA_zero (hl : a < zs.length) : psA ss zs a 0 = a + 1 := by
  unfold psA
  rw [scan_zero]
  simp only [Option.getD_some, List.length_drop]
  omega
end


end Go.Proofs.Ytippmpcaongolaa

/- Contract: the reference's Arguments. -/
namespace Go.Proofs.Ytippmpcaongolaa
open Go.RowKit

end Go.Proofs.Ytippmpcaongolaa

namespace Go.Proofs.Ytippmpcaongolaa
open Go.RowKit

end Go.Proofs.Ytippmpcaongolaa
