/- Contract: ref.Renamed, with the capacity of what it returns. -/
import Derived.Test.YtapcdhagkbfccaaGreatQ5g
import Derived.Test.YtapcdhagkbfccaaGreatY15g
/- Contract: the reference's Renamed. -/
namespace Go.Proofs.YtapcdhagkbfccaaGreat
open Go.RowKit

theorem addSeen_nodup {l : List Int} (h : l.Nodup) (z : Int) : (addSeen l z).Nodup := by
  unfold addSeen
  split
  · exact h
  · split
    · exact h
    · rename_i h1
      rw [List.nodup_append]
      refine ⟨h, by simp, fun a ha b hb => ?_⟩
      simp only [List.mem_singleton] at hb
      subst hb
      rintro rfl
      exact h1 (List.contains_iff_mem.2 ha)
theorem foldl_nodup : ∀ (zs l : List Int), l.Nodup → (zs.foldl addSeen l).Nodup
  | [], _, h => h
  | z :: r, _l, h => foldl_nodup r _ (addSeen_nodup h z)
theorem seenTo_nodup (zs : List Int) (k : Nat) : (seenTo zs k).Nodup := foldl_nodup _ _ List.nodup_nil
theorem addSeen_ext (l : List Int) (z : Int) : ∃ r, addSeen l z = l ++ r := by
  unfold addSeen
  split
  · exact ⟨[], by simp⟩
  · split
    · exact ⟨[], by simp⟩
    · exact ⟨[z], rfl⟩
theorem seenTo_ext (zs : List Int) : ∀ (d k : Nat), k + d ≤ zs.length → ∃ r, seenTo zs (k + d) = seenTo zs k ++ r
  | 0, k, _ => ⟨[], by simp⟩
  | d + 1, k, h => by
    obtain ⟨r, hr⟩ := seenTo_ext zs d k (by omega)
    obtain ⟨r2, hr2⟩ := addSeen_ext (seenTo zs (k + d)) zs[k + d]
    have := seenTo_succ (zs := zs) (k := k + d) (by omega)
    exact ⟨r ++ r2, by rw [show k + (d + 1) = k + d + 1 from by omega, this, hr2, hr, List.append_assoc]⟩
theorem mem_addSeen {l : List Int} {z : Int} (h : z < 0) : z ∈ addSeen l z := by
  unfold addSeen
  rw [if_neg (by omega)]
  split
  · rename_i h1; exact List.contains_iff_mem.1 h1
  · simp
theorem seen_neg (zs : List Int) : ∀ (k : Nat) (y : Int), y ∈ seenTo zs k → y < 0
  | 0, y, h => by simp [seenTo] at h
  | k + 1, y, h => by
    by_cases hk : k < zs.length
    · rw [seenTo_succ hk] at h
      unfold addSeen at h
      split at h
      · exact seen_neg zs k y h
      · split at h
        · exact seen_neg zs k y h
        · rcases List.mem_append.1 h with h | h
          · exact seen_neg zs k y h
          · simp only [List.mem_singleton] at h
            omega
    · have e : seenTo zs (k + 1) = seenTo zs k := by
        unfold seenTo
        rw [List.take_of_length_le (by omega), List.take_of_length_le (by omega)]
      rw [e] at h
      exact seen_neg zs k y h
theorem seen_mem (zs : List Int) : ∀ (k : Nat) (y : Int), y ∈ seenTo zs k → y ∈ zs
  | 0, y, h => by simp [seenTo] at h
  | k + 1, y, h => by
    by_cases hk : k < zs.length
    · rw [seenTo_succ hk] at h
      unfold addSeen at h
      split at h
      · exact seen_mem zs k y h
      · split at h
        · exact seen_mem zs k y h
        · rcases List.mem_append.1 h with h | h
          · exact seen_mem zs k y h
          · simp only [List.mem_singleton] at h
            subst h; exact List.getElem_mem hk
    · have e : seenTo zs (k + 1) = seenTo zs k := by
        unfold seenTo
        rw [List.take_of_length_le (by omega), List.take_of_length_le (by omega)]
      rw [e] at h
      exact seen_mem zs k y h

/-- The number at a place when q variables have been tried. -/
def cval (seen : List Int) (z : Int) (q : Nat) : Int := if z < 0 ∧ seen.idxOf z < q then -((seen.idxOf z : Nat) : Int) - 1 else z
theorem cval_zero (seen : List Int) (z : Int) : cval seen z 0 = z := by simp [cval]
theorem cval_hit {seen : List Int} {z : Int} {q : Nat} (hq : q < seen.length) (hnd : seen.Nodup) (hz : z < 0) (e : seen[q] = z) : cval seen z (q + 1) = -(q : Int) - 1 := by
  have : seen.idxOf z = q := by rw [← e]; exact hnd.idxOf_getElem q hq
  unfold cval
  rw [this, if_pos ⟨hz, by omega⟩]
theorem cval_miss {seen : List Int} {z : Int} {q : Nat} (hq : q < seen.length) (e : seen[q] ≠ z) : cval seen z (q + 1) = cval seen z q := by
  have h : seen.idxOf z ≠ q := by
    intro h
    have h1 : seen.idxOf z < seen.length := by omega
    have := List.getElem_idxOf h1
    apply e
    rw [← this]
    congr 1; exact h.symm
  unfold cval
  by_cases h1 : seen.idxOf z < q
  · by_cases h2 : z < 0
    · rw [if_pos ⟨h2, by omega⟩, if_pos ⟨h2, h1⟩]
    · rw [if_neg (fun h => h2 h.1), if_neg (fun h => h2 h.1)]
  · rw [if_neg (fun h => by have := h.2; omega), if_neg (fun h => h1 h.2)]
theorem cval_all (zs : List Int) {i : Nat} (hi : i < zs.length) : (canon zs)[i]? = some (cval (seenTo zs zs.length) zs[i] (seenTo zs zs.length).length) := by
  rw [canon_get zs hi]
  congr 1
  unfold ren1 cval
  by_cases h : 0 ≤ zs[i]
  · rw [if_pos h, if_neg (fun hh => by have := hh.1; omega)]
  · have hneg : zs[i] < 0 := by omega
    have hm := mem_addSeen (l := seenTo zs i) hneg
    obtain ⟨r, hr⟩ := seenTo_ext zs (zs.length - (i + 1)) (i + 1) (by omega)
    rw [show i + 1 + (zs.length - (i + 1)) = zs.length from by omega, seenTo_succ hi] at hr
    have hidx : (seenTo zs zs.length).idxOf zs[i] = (addSeen (seenTo zs i) zs[i]).idxOf zs[i] := by
      rw [hr, List.idxOf_append, if_pos hm]
    have hlt : (addSeen (seenTo zs i) zs[i]).idxOf zs[i] < (seenTo zs zs.length).length := by
      rw [← hidx]; exact List.idxOf_lt_length_of_mem (by rw [hr]; exact List.mem_append_left _ hm)
    rw [if_neg h, hidx, if_pos ⟨hneg, hlt⟩]
    rfl

def rl (zs : List Int) (i : Nat) : List Int := (canon zs).take i ++ zs.drop i
theorem rl_length {zs : List Int} {i : Nat} (h : i ≤ zs.length) : (rl zs i).length = zs.length := by
  unfold rl
  rw [List.length_append, List.length_take, canon_length, List.length_drop]
  omega
theorem rl_at {zs : List Int} {i : Nat} (h : i < zs.length) : (rl zs i)[i]? = some zs[i] := by
  unfold rl
  have e : ((canon zs).take i).length = i := by rw [List.length_take, canon_length]; omega
  rw [List.getElem?_append_right (by omega), e, Nat.sub_self, List.getElem?_drop]
  simp [h]
theorem rl_start {zs : List Int} {i : Nat} (h : i < zs.length) : (rl zs i).set i zs[i] = rl zs i := by
  apply List.ext_getElem?
  intro j
  rw [List.getElem?_set]
  split
  · subst_vars
    rw [if_pos (by rw [rl_length (by omega)]; exact h), rl_at h]
  · rfl
theorem rl_step {zs : List Int} {i : Nat} (h : i < zs.length) {v : Int} (hv : (canon zs)[i]? = some v) : (rl zs i).set i v = rl zs (i + 1) := by
  unfold rl
  have hk : i < (canon zs).length := by rw [canon_length]; exact h
  have hg : (canon zs)[i] = v := by rw [List.getElem?_eq_getElem hk] at hv; exact Option.some.inj hv
  have e : ((canon zs).take i).length = i := by rw [List.length_take]; omega
  rw [List.set_append_right _ _ (by omega), e, Nat.sub_self, List.take_succ_eq_append_getElem hk, hg, List.drop_eq_getElem_cons h, List.set_cons_zero, List.append_assoc]
  rfl
theorem rl_zero (zs : List Int) : rl zs 0 = zs := by simp [rl]
theorem rl_all (zs : List Int) : rl zs zs.length = canon zs := by
  unfold rl
  rw [List.take_of_length_le (by rw [canon_length]; omega), List.drop_length, List.append_nil]


theorem set_map_int (l : List Int) (i : Nat) (v : Int) : (l.map (Value.int .i64)).set i (.int .i64 v) = (l.set i v).map (Value.int .i64) := by
  rw [List.map_set]

end Go.Proofs.YtapcdhagkbfccaaGreat

namespace Go.Proofs.YtapcdhagkbfccaaGreat
open Go.RowKit

end Go.Proofs.YtapcdhagkbfccaaGreat
