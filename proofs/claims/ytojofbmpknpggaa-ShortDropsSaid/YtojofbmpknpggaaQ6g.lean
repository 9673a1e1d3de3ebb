/- Contract: ref.Renamed, with the capacity of what it returns. -/
import Derived.Test.YtojofbmpknpggaaG3g
import Derived.Test.YtojofbmpknpggaaY15g
/- Contract: the reference's Renamed. -/
namespace Go.Proofs.Ytojofbmpknpggaa
open Go.RowKit

theorem addSeen_nodup {l : List Int} (h : l.Nodup) (z : Int) : (addSeen l z).Nodup := by
  unfold addSeen
  split
  · exact h
  · split
    · exact h
    · rename_i h1
      rw [List.nodup_append]
      refine ⟨h, by simp, fun a ha b hb => ?_⟩
      simp only [List.mem_singleton] at hb
      subst hb
      rintro rfl
      exact h1 (List.contains_iff_mem.2 ha)
theorem foldl_nodup : ∀ (zs l : List Int), l.Nodup → (zs.foldl addSeen l).Nodup
  | [], _, h => h
  | z :: r, _l, h => foldl_nodup r _ (addSeen_nodup h z)
theorem seenTo_nodup (zs : List Int) (k : Nat) : (seenTo zs k).Nodup := foldl_nodup _ _ List.nodup_nil
theorem addSeen_ext (l : List Int) (z : Int) : ∃ r, addSeen l z = l ++ r := by
  unfold addSeen
  split
  · exact ⟨[], by simp⟩
  · split
    · exact ⟨[], by simp⟩
    · exact ⟨[z], rfl⟩
theorem seenTo_ext (zs : List Int) : ∀ (d k : Nat), k + d ≤ zs.length → ∃ r, seenTo zs (k + d) = seenTo zs k ++ r
  | 0, k, _ => ⟨[], by simp⟩
  | d + 1, k, h => by
    obtain ⟨r, hr⟩ := seenTo_ext zs d k (by omega)
    obtain ⟨r2, hr2⟩ := addSeen_ext (seenTo zs (k + d)) zs[k + d]
    have := seenTo_succ (zs := zs) (k := k + d) (by omega)
    exact ⟨r ++ r2, by rw [show k + (d + 1) = k + d + 1 from by omega, this, hr2, hr, List.append_assoc]⟩
theorem mem_addSeen {l : List Int} {z : Int} (h : z < 0) : z ∈ addSeen l z := by
  unfold addSeen
  rw [if_neg (by omega)]
  split
  · rename_i h1; exact List.contains_iff_mem.1 h1
  · simp
theorem seen_neg (zs : List Int) : ∀ (k : Nat) (y : Int), y ∈ seenTo zs k → y < 0
  | 0, y, h => by simp [seenTo] at h
  | k + 1, y, h => by
    by_cases hk : k < zs.length
    · rw [seenTo_succ hk] at h
      unfold addSeen at h
      split at h
      · exact seen_neg zs k y h
      · split at h
        · exact seen_neg zs k y h
        · rcases List.mem_append.1 h with h | h
          · exact seen_neg zs k y h
          · simp only [List.mem_singleton] at h
            omega
    · have e : seenTo zs (k + 1) = seenTo zs k := by
        unfold seenTo
        rw [List.take_of_length_le (by omega), List.take_of_length_le (by omega)]
      rw [e] at h
      exact seen_neg zs k y h
theorem seen_mem (zs : List Int) : ∀ (k : Nat) (y : Int), y ∈ seenTo zs k → y ∈ zs
  | 0, y, h => by simp [seenTo] at h
  | k + 1, y, h => by
    by_cases hk : k < zs.length
    · rw [seenTo_succ hk] at h
      unfold addSeen at h
      split at h
      · exact seen_mem zs k y h
      · split at h
        · exact seen_mem zs k y h
        · rcases List.mem_append.1 h with h | h
          · exact seen_mem zs k y h
          · simp only [List.mem_singleton] at h
            subst h; exact List.getElem_mem hk
    · have e : seenTo zs (k + 1) = seenTo zs k := by
        unfold seenTo
        rw [List.take_of_length_le (by omega), List.take_of_length_le (by omega)]
      rw [e] at h
      exact seen_mem zs k y h

/-- The number at a place when q variables have been tried. -/
def cval (seen : List Int) (z : Int) (q : Nat) : Int := if z < 0 ∧ seen.idxOf z < q then -((seen.idxOf z : Nat) : Int) - 1 else z
theorem cval_all (zs : List Int) {i : Nat} (hi : i < zs.length) : (canon zs)[i]? = some (cval (seenTo zs zs.length) zs[i] (seenTo zs zs.length).length) := by
  rw [canon_get zs hi]
  congr 1
  unfold ren1 cval
  by_cases h : 0 ≤ zs[i]
  · rw [if_pos h, if_neg (fun hh => by have := hh.1; omega)]
  · have hneg : zs[i] < 0 := by omega
    have hm := mem_addSeen (l := seenTo zs i) hneg
    obtain ⟨r, hr⟩ := seenTo_ext zs (zs.length - (i + 1)) (i + 1) (by omega)
    rw [show i + 1 + (zs.length - (i + 1)) = zs.length from by omega, seenTo_succ hi] at hr
    have hidx : (seenTo zs zs.length).idxOf zs[i] = (addSeen (seenTo zs i) zs[i]).idxOf zs[i] := by
      rw [hr, List.idxOf_append, if_pos hm]
    have hlt : (addSeen (seenTo zs i) zs[i]).idxOf zs[i] < (seenTo zs zs.length).length := by
      rw [← hidx]; exact List.idxOf_lt_length_of_mem (by rw [hr]; exact List.mem_append_left _ hm)
    rw [if_neg h, hidx, if_pos ⟨hneg, hlt⟩]
    rfl

end Go.Proofs.Ytojofbmpknpggaa

namespace Go.Proofs.Ytojofbmpknpggaa
open Go.RowKit

end Go.Proofs.Ytojofbmpknpggaa
