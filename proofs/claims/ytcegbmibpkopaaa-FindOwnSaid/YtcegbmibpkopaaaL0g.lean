/- Canonical forms are their own: the plain mathematics. -/
import Derived.Test.YtcegbmibpkopaaaR2g
namespace Go.Proofs.Ytcegbmibpkopaaa
open Go.RowKit

def iotaN (n : Nat) : List Int := (List.range n).map fun i => -((i : Nat) : Int) - 1
theorem iotaN_length (n : Nat) : (iotaN n).length = n := by simp [iotaN]
theorem iotaN_succ (n : Nat) : iotaN (n + 1) = iotaN n ++ [-(n : Int) - 1] := by simp [iotaN, List.range_succ]
theorem iotaN_mem {n : Nat} {y : Int} : y ∈ iotaN n ↔ ∃ i : Nat, i < n ∧ y = -(i : Int) - 1 := by
  unfold iotaN
  rw [List.mem_map]
  constructor
  · rintro ⟨i, hi, rfl⟩; exact ⟨i, by simpa using hi, rfl⟩
  · rintro ⟨i, hi, rfl⟩; exact ⟨i, by simpa using hi, rfl⟩
theorem iotaN_nodup : ∀ n, (iotaN n).Nodup
  | 0 => by simp [iotaN]
  | n + 1 => by
    rw [iotaN_succ, List.nodup_append]
    refine ⟨iotaN_nodup n, by simp, fun a ha b hb => ?_⟩
    simp only [List.mem_singleton] at hb
    obtain ⟨i, hi, rfl⟩ := iotaN_mem.1 ha
    omega
theorem iotaN_idx {n i : Nat} (h : i < n) : (iotaN n).idxOf (-(i : Int) - 1) = i := by
  have hl : i < (iotaN n).length := by rw [iotaN_length]; exact h
  have e : (iotaN n)[i] = -(i : Int) - 1 := by simp [iotaN]
  rw [← e]
  exact (iotaN_nodup n).idxOf_getElem i hl
theorem canonL_again : ∀ (zs seen : List Int), canonL (iotaN seen.length) (canonL seen zs) = canonL seen zs
  | [], _ => rfl
  | z :: r, seen => by
    simp only [canonL]
    by_cases h0 : 0 ≤ z
    · have e1 : ren1 seen z = z := by simp [ren1, h0]
      have e2 : addSeen seen z = seen := by simp [addSeen, h0]
      rw [e1, e2]
      have e3 : ren1 (iotaN seen.length) z = z := by simp [ren1, h0]
      have e4 : addSeen (iotaN seen.length) z = iotaN seen.length := by simp [addSeen, h0]
      rw [e3, e4, canonL_again r seen]
    · by_cases hc : z ∈ seen
      · have e2 : addSeen seen z = seen := by simp [addSeen, h0, hc]
        have hi : seen.idxOf z < seen.length := List.idxOf_lt_length_of_mem hc
        have e1 : ren1 seen z = -((seen.idxOf z : Nat) : Int) - 1 := by unfold ren1 cnum; rw [if_neg h0, e2]
        rw [e1, e2]
        have hy : ¬ (0 : Int) ≤ -((seen.idxOf z : Nat) : Int) - 1 := by omega
        have hm : (-((seen.idxOf z : Nat) : Int) - 1) ∈ iotaN seen.length := iotaN_mem.2 ⟨_, hi, rfl⟩
        have e4 : addSeen (iotaN seen.length) (-((seen.idxOf z : Nat) : Int) - 1) = iotaN seen.length := by
          unfold addSeen
          rw [if_neg hy, if_pos (List.contains_iff_mem.2 hm)]
        have e3 : ren1 (iotaN seen.length) (-((seen.idxOf z : Nat) : Int) - 1) = -((seen.idxOf z : Nat) : Int) - 1 := by
          unfold ren1 cnum
          rw [if_neg hy, e4, iotaN_idx hi]
        rw [e3, e4, canonL_again r seen]
      · have e2 : addSeen seen z = seen ++ [z] := by simp [addSeen, h0, hc]
        have e1 : ren1 seen z = -(seen.length : Int) - 1 := by
          unfold ren1 cnum
          rw [if_neg h0, e2, List.idxOf_append, if_neg hc]
          simp
        rw [e1, e2]
        have hy : ¬ (0 : Int) ≤ -(seen.length : Int) - 1 := by omega
        have hm : (-(seen.length : Int) - 1) ∉ iotaN seen.length := fun h => by
          obtain ⟨i, hi, e⟩ := iotaN_mem.1 h
          omega
        have e4 : addSeen (iotaN seen.length) (-(seen.length : Int) - 1) = iotaN (seen ++ [z]).length := by
          unfold addSeen
          rw [if_neg hy, if_neg (fun h => hm (List.contains_iff_mem.1 h)), List.length_append, List.length_singleton, iotaN_succ]
        have e3 : ren1 (iotaN seen.length) (-(seen.length : Int) - 1) = -(seen.length : Int) - 1 := by
          unfold ren1 cnum
          rw [if_neg hy, e4, List.length_append, List.length_singleton, iotaN_idx (by omega)]
        rw [e3, e4, canonL_again r (seen ++ [z])]
theorem canon_canon (zs : List Int) : canon (canon zs) = canon zs := canonL_again zs []

end Go.Proofs.Ytcegbmibpkopaaa
