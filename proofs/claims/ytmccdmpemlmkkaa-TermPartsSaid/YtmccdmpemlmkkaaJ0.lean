/- Pure facts of the order of lists. -/
import Derived.Test.YtmccdmpemlmkkaaO1
namespace Go.Proofs.Ytmccdmpemlmkkaa
open Go.RowKit

theorem cmpI_neg (x y : Int) : cmpI y x = - cmpI x y := by
  unfold cmpI
  by_cases h1 : x < y
  · rw [if_neg (by omega), if_pos h1, if_pos h1]; rfl
  · by_cases h2 : y < x
    · rw [if_pos h2, if_neg h1, if_pos h2]
    · rw [if_neg h2, if_neg h1, if_neg h1, if_neg h2]; rfl
theorem cmpI_bd (x y : Int) : -1 ≤ cmpI x y ∧ cmpI x y ≤ 1 := by
  unfold cmpI; split
  · omega
  · split <;> omega
theorem lexC_bd : ∀ (xs ys : List Int), -1 ≤ lexC xs ys ∧ lexC xs ys ≤ 1
  | [], [] => by simp [lexC]
  | [], _ :: _ => by simp [lexC]
  | _ :: _, [] => by simp [lexC]
  | x :: xs, y :: ys => by
    simp only [lexC]
    split
    · exact lexC_bd xs ys
    · exact cmpI_bd x y
theorem cmpL_bd (xs ys : List Int) : -1 ≤ cmpL xs ys ∧ cmpL xs ys ≤ 1 := by
  unfold cmpL; split
  · exact lexC_bd xs ys
  · exact cmpI_bd _ _
theorem lexC_neg : ∀ (xs ys : List Int), lexC ys xs = - lexC xs ys
  | [], [] => by simp [lexC]
  | [], _ :: _ => by simp [lexC]
  | _ :: _, [] => by simp [lexC]
  | x :: xs, y :: ys => by
    simp only [lexC]
    rw [cmpI_neg x y]
    by_cases h : cmpI x y = 0
    · rw [if_pos (by omega), if_pos h]; exact lexC_neg xs ys
    · rw [if_neg (by omega), if_neg h]
theorem cmpL_neg (xs ys : List Int) : cmpL ys xs = - cmpL xs ys := by
  unfold cmpL
  by_cases h : xs.length = ys.length
  · rw [if_pos h, if_pos h.symm]; exact lexC_neg xs ys
  · rw [if_neg h, if_neg (fun e => h e.symm)]; exact cmpI_neg _ _
theorem cmpI_le {x y : Int} : cmpI x y ≤ 0 ↔ x ≤ y := by
  unfold cmpI; split
  · constructor <;> intro h <;> omega
  · split
    · constructor <;> intro h <;> omega
    · constructor <;> intro h <;> omega
theorem lexC_trans : ∀ (xs ys zs : List Int), lexC xs ys ≤ 0 → lexC ys zs ≤ 0 → lexC xs zs ≤ 0
  | [], _, [], _, _ => by simp [lexC]
  | [], _, _ :: _, _, _ => by simp [lexC]
  | _ :: _, [], _, h, _ => by simp [lexC] at h
  | _ :: _, _ :: _, [], _, h => by simp [lexC] at h
  | x :: xs, y :: ys, z :: zs, h1, h2 => by
    simp only [lexC] at h1 h2 ⊢
    by_cases e1 : cmpI x y = 0
    · rw [if_pos e1] at h1
      obtain rfl := cmpI_zero.1 e1
      by_cases e2 : cmpI x z = 0
      · rw [if_pos e2] at h2 ⊢
        exact lexC_trans xs ys zs h1 h2
      · rw [if_neg e2] at h2 ⊢
        exact h2
    · rw [if_neg e1] at h1
      have l1 := cmpI_le.1 h1
      have n1 : x ≠ y := fun e => e1 (cmpI_zero.2 e)
      have l2 : y ≤ z := by
        by_cases e2 : cmpI y z = 0
        · have := cmpI_zero.1 e2; omega
        · rw [if_neg e2] at h2; exact cmpI_le.1 h2
      rw [if_neg (fun e => by have := cmpI_zero.1 e; omega)]
      exact cmpI_le.2 (by omega)
theorem cmpL_trans (xs ys zs : List Int) (h1 : cmpL xs ys ≤ 0) (h2 : cmpL ys zs ≤ 0) : cmpL xs zs ≤ 0 := by
  have q1 : xs.length ≤ ys.length := by
    unfold cmpL at h1
    split at h1
    · omega
    · have := cmpI_le.1 h1; omega
  have q2 : ys.length ≤ zs.length := by
    unfold cmpL at h2
    split at h2
    · omega
    · have := cmpI_le.1 h2; omega
  by_cases e : xs.length = zs.length
  · unfold cmpL at h1 h2 ⊢
    rw [if_pos (by omega)] at h1 h2
    rw [if_pos e]
    exact lexC_trans _ _ _ h1 h2
  · unfold cmpL
    rw [if_neg e]
    exact cmpI_le.2 (by omega)
theorem lexC_zero : ∀ (xs ys : List Int), lexC xs ys = 0 ↔ xs = ys
  | [], [] => by simp [lexC]
  | [], _ :: _ => by simp [lexC]
  | _ :: _, [] => by simp [lexC]
  | x :: xs, y :: ys => by
    simp only [lexC]
    by_cases h : cmpI x y = 0
    · rw [if_pos h, lexC_zero xs ys]
      have := cmpI_zero.1 h
      simp [this]
    · rw [if_neg h]
      have : x ≠ y := fun e => h (cmpI_zero.2 e)
      simp [this, h]
theorem cmpL_zero (xs ys : List Int) : (cmpL xs ys == 0) = decide (xs = ys) := by
  unfold cmpL
  by_cases h : xs.length = ys.length
  · rw [if_pos h]
    by_cases e : xs = ys
    · rw [(lexC_zero xs ys).2 e]; simp [e]
    · have : lexC xs ys ≠ 0 := fun h => e ((lexC_zero xs ys).1 h)
      simp [e, this]
  · rw [if_neg h]
    have e : xs ≠ ys := fun e => h (by rw [e])
    have : cmpI (xs.length : Int) (ys.length : Int) ≠ 0 := fun q => h (by have := cmpI_zero.1 q; omega)
    simp [e, this]

end Go.Proofs.Ytmccdmpemlmkkaa
