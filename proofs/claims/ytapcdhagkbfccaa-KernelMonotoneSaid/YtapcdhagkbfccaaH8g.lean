/- Paths in a term, and what is put at them: the plain mathematics. -/
import Derived.Test.YtapcdhagkbfccaaD1g
import Derived.Test.YtapcdhagkbfccaaB0g
/- The depth of a term by its parts: the plain mathematics. -/
namespace Go.Proofs.Ytapcdhagkbfccaa
open Go.RowKit

end Go.Proofs.Ytapcdhagkbfccaa

namespace Go.Proofs.Ytapcdhagkbfccaa
open Go.RowKit

theorem endI_scan {ss : Sg} {zs : List Int} {x y : Nat} (h : scan ss 1 (zs.drop x) = some (zs.drop y)) (hy : y ≤ zs.length) : endI ss zs x = (y : Int) := by
  unfold endI
  rw [h]
  simp only [List.length_drop]
  congr 1; omega
theorem drop_at {l : List Int} {j : Nat} {k : Int} (h : l[j]? = some k) : l.drop j = k :: l.drop (j + 1) := by
  obtain ⟨hj, rfl⟩ := List.getElem?_eq_some_iff.1 h
  exact List.drop_eq_getElem_cons hj

/-- Where a path leads that goes on from an index. -/
def locN (ss : Sg) (zs : List Int) : List Int → Nat → Option Nat
  | [], a => some a
  | k :: p, a => if k < 0 ∨ (arOf ss (zs.getD a 0) : Int) ≤ k then none else locN ss zs p (psA ss zs a k.toNat)
def atR (ss : Sg) (zs p : List Int) : List Int × Int :=
  if valOk ss zs = false then ([], 1) else
  match locN ss zs p 0 with
  | none => ([], 8)
  | some a => (prt ss zs a, 0)
/-- There is a part at an index. -/
def PartAt (ss : Sg) (zs : List Int) (a : Nat) : Prop := a < zs.length ∧ ∃ r0, scan ss 1 (zs.drop a) = some r0
theorem PartAt.is {ss : Sg} {zs : List Int} {a : Nat} (h : PartAt ss zs a) : PrtIs ss zs a (prt ss zs a) := by
  obtain ⟨_, r0, h1⟩ := h
  exact prt_is h1
theorem PartAt.getD {ss : Sg} {zs : List Int} {a : Nat} (h : PartAt ss zs a) : zs.getD a 0 = zs[a]'h.1 := by
  rw [List.getD_eq_getElem?_getD, List.getElem?_eq_getElem h.1]; rfl
theorem PartAt.arg {ss : Sg} {zs : List Int} {a k : Nat} (h : PartAt ss zs a) (hk : k < arOf ss (zs.getD a 0)) : PartAt ss zs (psA ss zs a k) := by
  rw [h.getD] at hk
  obtain ⟨s1, s2, s3, _⟩ := prt_step h.is h.1 hk
  exact ⟨by omega, _, s1⟩
theorem PartAt.zero {ss : Sg} {zs : List Int} (h : valOk ss zs = true) : PartAt ss zs 0 := by
  obtain ⟨h1, _, _, h4⟩ := valOk_term h
  exact ⟨by omega, [], by simpa using h4⟩
theorem locN_nil (ss : Sg) (zs : List Int) (a : Nat) : locN ss zs [] a = some a := rfl
theorem locN_bad {ss : Sg} {zs p : List Int} {a : Nat} {k : Int} (h : k < 0 ∨ (arOf ss (zs.getD a 0) : Int) ≤ k) : locN ss zs (k :: p) a = none := by
  simp only [locN]; rw [if_pos h]
theorem locN_step {ss : Sg} {zs p : List Int} {a k : Nat} (h : k < arOf ss (zs.getD a 0)) : locN ss zs ((k : Int) :: p) a = locN ss zs p (psA ss zs a k) := by
  simp only [locN]
  rw [if_neg (by omega), Int.toNat_natCast]
theorem locN_inv {ss : Sg} {zs p : List Int} {a b : Nat} {k : Int} (h : locN ss zs (k :: p) a = some b) : ∃ j : Nat, k = (j : Int) ∧ j < arOf ss (zs.getD a 0) ∧ locN ss zs p (psA ss zs a j) = some b := by
  by_cases hk : k < 0 ∨ (arOf ss (zs.getD a 0) : Int) ≤ k
  · rw [locN_bad hk] at h; cases h
  · obtain ⟨j, rfl⟩ : ∃ j : Nat, k = (j : Int) := ⟨k.toNat, by omega⟩
    have hj : j < arOf ss (zs.getD a 0) := by omega
    rw [locN_step hj] at h
    exact ⟨j, rfl, hj, h⟩
theorem locN_part {ss : Sg} {zs : List Int} : ∀ (p : List Int) (a b : Nat), PartAt ss zs a → locN ss zs p a = some b → PartAt ss zs b ∧ a ≤ b
  | [], a, b, h, e => by cases e; exact ⟨h, Nat.le_refl _⟩
  | k :: p, a, b, h, e => by
    obtain ⟨j, rfl, hj, e'⟩ := locN_inv e
    have hp := h.arg hj
    obtain ⟨q1, q2⟩ := locN_part p _ b hp e'
    have hj' := hj
    rw [h.getD] at hj'
    have := (prt_pos h.is h.1 (Nat.le_of_lt hj')).1
    exact ⟨q1, by omega⟩
theorem atR_mk {ss : Sg} {zs p : List Int} {a : Nat} (hv : valOk ss zs = true) (e : locN ss zs p 0 = some a) : atR ss zs p = (prt ss zs a, 0) := by
  unfold atR
  rw [if_neg (by simp [hv]), e]
end Go.Proofs.Ytapcdhagkbfccaa
