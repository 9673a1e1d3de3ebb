/- How often each symbol comes: the plain mathematics. -/
import Derived.Test.YtafpcpdafojgkaaH1
namespace Go.Proofs.Ytafpcpdafojgkaa
open Go.RowKit

/-- How often each number below n comes among the first k. -/
def cntL (n : Nat) (zs : List Int) (k : Nat) : List Int := (List.range n).map fun j : Nat => (((zs.take k).count (j : Int) : Nat) : Int)
def ccells (n : Nat) (zs : List Int) (k : Nat) : Array Value := ((cntL n zs k).map (Value.int .i64)).toArray
theorem cntL_len (n : Nat) (zs : List Int) (k : Nat) : (cntL n zs k).length = n := by simp [cntL]
theorem cntL_get {n : Nat} (zs : List Int) (k : Nat) {j : Nat} (h : j < n) : (cntL n zs k)[j]? = some (((zs.take k).count (j : Int) : Nat) : Int) := by
  simp [cntL, h]
theorem ccells_at {n : Nat} (zs : List Int) (k : Nat) {j : Nat} (h : j < n) : (ccells n zs k)[j]? = some (.int .i64 (((zs.take k).count (j : Int) : Nat) : Int)) := by
  unfold ccells
  rw [List.getElem?_toArray, List.getElem?_map, cntL_get zs k h]
  rfl
theorem count_take {zs : List Int} {k : Nat} (h : k < zs.length) (j : Int) : (zs.take (k + 1)).count j = (zs.take k).count j + if zs[k] = j then 1 else 0 := by
  rw [List.take_succ_eq_append_getElem h, List.count_append, List.count_singleton]
  congr 1
  by_cases e : zs[k] = j <;> simp [e]
theorem cnt_le (zs : List Int) (k : Nat) (j : Int) : (zs.take k).count j ≤ k := by
  have := List.count_le_length (a := j) (l := zs.take k)
  rw [List.length_take] at this
  omega
theorem ccells_neg {n : Nat} {zs : List Int} {k : Nat} (h : k < zs.length) (hz : zs[k] < 0) : ccells n zs (k + 1) = ccells n zs k := by
  unfold ccells cntL
  congr 2
  apply List.map_congr_left
  intro j _
  rw [count_take h, if_neg (by omega)]
  rfl
theorem ccells_set {n : Nat} {zs : List Int} {k q c : Nat} (h : k < zs.length) (hz : zs[k] = (q : Int)) (hq : q < n) (hc : (zs.take k).count (q : Int) = c) : (ccells n zs k).setIfInBounds q (.int .i64 ((c : Int) + 1)) = ccells n zs (k + 1) := by
  unfold ccells
  rw [List.setIfInBounds_toArray]
  congr 1
  apply List.ext_getElem
  · simp [cntL]
  · intro i h1 h2
    rw [List.getElem_set]
    simp only [cntL, List.map_map, List.getElem_map, List.getElem_range, Function.comp]
    rw [count_take h, hz]
    by_cases e : q = i
    · subst e
      rw [if_pos rfl, if_pos rfl, hc]
      rfl
    · rw [if_neg e, if_neg (by omega)]
      rfl
theorem ccells_zero (n : Nat) (zs : List Int) : ccells n zs 0 = madeCells #[.int .i64 0] (n * 1) := by
  unfold ccells cntL madeCells
  apply Array.ext
  · simp
  · intro i h1 h2
    simp [Nat.mod_one]
theorem cntL_all {n : Nat} {zs : List Int} {k : Nat} (h : zs.length ≤ k) : cntL n zs k = cntL n zs zs.length := by
  unfold cntL
  rw [List.take_of_length_le h, List.take_length]

/-- The sum of the first ones. -/
def sumTo (l : List Int) (k : Nat) : Int := (l.take k).sum
theorem sumTo_zero (l : List Int) : sumTo l 0 = 0 := rfl
theorem sumTo_succ {l : List Int} {k : Nat} (h : k < l.length) : sumTo l (k + 1) = sumTo l k + l[k] := by
  unfold sumTo
  rw [List.take_succ_eq_append_getElem h, List.sum_append]
  simp
def negTo (zs : List Int) (k : Nat) : Nat := (zs.take k).countP (· < 0)
theorem negTo_zero (zs : List Int) : negTo zs 0 = 0 := rfl
theorem negTo_succ {zs : List Int} {k : Nat} (h : k < zs.length) : negTo zs (k + 1) = negTo zs k + if zs[k] < 0 then 1 else 0 := by
  unfold negTo
  rw [List.take_succ_eq_append_getElem h, List.countP_append, List.countP_singleton]
  congr 1
  by_cases e : zs[k] < 0 <;> simp [e]
theorem negTo_le (zs : List Int) (k : Nat) : negTo zs k ≤ k := by
  unfold negTo
  have := List.countP_le_length (p := fun z : Int => decide (z < 0)) (l := zs.take k)
  rw [List.length_take] at this
  omega
theorem sum_ind (n : Nat) (x : Int) : ((List.range n).map fun j : Nat => if x = (j : Int) then (1 : Int) else 0).sum = if 0 ≤ x ∧ x < n then 1 else 0 := by
  induction n with
  | zero => rw [if_neg (by omega)]; rfl
  | succ n ih =>
    rw [List.range_succ, List.map_append, List.sum_append, ih]
    simp only [List.map_cons, List.map_nil, List.sum_cons, List.sum_nil]
    by_cases h1 : 0 ≤ x ∧ x < n
    · rw [if_pos h1, if_neg (by omega), if_pos (by omega)]; rfl
    · rw [if_neg h1]
      by_cases h2 : x = (n : Int)
      · rw [if_pos h2, if_pos (by omega)]; rfl
      · rw [if_neg h2, if_neg (by omega)]; rfl
theorem sum_map_add (f g : Nat → Int) : ∀ l : List Nat, (l.map fun j => f j + g j).sum = (l.map f).sum + (l.map g).sum
  | [] => rfl
  | x :: l => by
    simp only [List.map_cons, List.sum_cons, sum_map_add f g l]
    omega
theorem counts_sum (n : Nat) (zs : List Int) (h : ∀ z ∈ zs, z < (n : Int)) : ∀ k, k ≤ zs.length → (cntL n zs k).sum + negTo zs k = k := by
  intro k
  induction k with
  | zero =>
    intro _
    have : ∀ l : List Nat, (l.map fun _ : Nat => (0 : Int)).sum = 0 := by
      intro l
      induction l with
      | nil => rfl
      | cons x r ih => simp [ih]
    have : (cntL n zs 0).sum = 0 := by
      unfold cntL
      simp only [List.take_zero, List.count_nil]
      exact this _
    rw [this]
    rfl
  | succ k ih =>
    intro hk
    have := ih (by omega)
    have e : cntL n zs (k + 1) = (List.range n).map fun j : Nat => (((zs.take k).count (j : Int) : Nat) : Int) + (if zs[k] = (j : Int) then (1 : Int) else 0) := by
      unfold cntL
      apply List.map_congr_left
      intro j _
      rw [count_take (by omega)]
      split <;> simp
    rw [e, sum_map_add, sum_ind, negTo_succ (by omega)]
    have hz := h _ (List.getElem_mem (show k < zs.length by omega))
    have e2 : ((List.range n).map fun j : Nat => (((zs.take k).count (j : Int) : Nat) : Int)).sum = (cntL n zs k).sum := rfl
    rw [e2]
    by_cases hneg : zs[k] < 0
    · rw [if_neg (by omega), if_pos hneg]
      omega
    · rw [if_pos (by omega), if_neg hneg]
      omega
theorem sum_le_mul (l : List Int) (b : Int) (hb : 0 ≤ b) (h : ∀ x ∈ l, 0 ≤ x ∧ x ≤ b) : ∀ k, 0 ≤ sumTo l k ∧ sumTo l k ≤ k * b := by
  intro k
  induction k with
  | zero => simp [sumTo_zero]
  | succ k ih =>
    have e : ((k + 1 : Nat) : Int) * b = k * b + b := by
      rw [Int.natCast_add, Int.add_mul]; simp
    by_cases hk : k < l.length
    · rw [sumTo_succ hk]
      have := h _ (List.getElem_mem hk)
      omega
    · have e1 : sumTo l (k + 1) = sumTo l k := by
        unfold sumTo
        rw [List.take_of_length_le (by omega), List.take_of_length_le (by omega)]
      rw [e1]
      omega

end Go.Proofs.Ytafpcpdafojgkaa
