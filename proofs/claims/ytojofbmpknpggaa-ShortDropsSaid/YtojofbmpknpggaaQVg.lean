/- Contract: the reference's sums. -/
import Derived.Test.YtojofbmpknpggaaPFg
import Derived.Test.YtojofbmpknpggaaPJg
import Derived.Test.YtojofbmpknpggaaPUg
import Derived.Test.YtojofbmpknpggaaQ6g
/- Needed steps, counts and heights of proofs (pure): KernelProofs' mathematics. -/
namespace Go.Proofs.Ytojofbmpknpggaa
open Go.RowKit

/-- The measure of a step, with those before it. -/
def mesA (f : Int → Int → Int) (pp : List Stp) (k : Nat) (L : List Int) : Int :=
  if (pp.getD k (0, 0, 0)).1 = 2 then f (L.getD (pp.getD k (0, 0, 0)).2.1.toNat 0) (L.getD (pp.getD k (0, 0, 0)).2.2.toNat 0) else 1
/-- The measures of the first k steps. -/
def mesL (f : Int → Int → Int) (pp : List Stp) : Nat → List Int
  | 0 => []
  | k + 1 => mesL f pp k ++ [mesA f pp k (mesL f pp k)]
theorem mesL_len (f : Int → Int → Int) (pp : List Stp) : ∀ k, (mesL f pp k).length = k
  | 0 => rfl
  | k + 1 => by rw [mesL, List.length_append, mesL_len f pp k]; rfl
theorem mesL_old (f : Int → Int → Int) (pp : List Stp) {k j : Nat} (h : j < k) : (mesL f pp (k + 1)).getD j 0 = (mesL f pp k).getD j 0 := by
  rw [mesL, List.getD_eq_getElem?_getD, List.getElem?_append_left (by rw [mesL_len]; exact h), ← List.getD_eq_getElem?_getD]
theorem mesL_last (f : Int → Int → Int) (pp : List Stp) (k : Nat) : (mesL f pp (k + 1)).getD k 0 = mesA f pp k (mesL f pp k) := by
  rw [mesL, List.getD_eq_getElem?_getD, List.getElem?_append_right (by rw [mesL_len]; exact Nat.le_refl _), mesL_len, Nat.sub_self]
  rfl
def cntF (a b : Int) : Int := a + b + 1
theorem cntF_is (a b : Int) : cntF a b = a + b + 1 := rfl
theorem cnt_bound {g : Int} {pp : List Stp} (hp : stepsTo g pp pp.length) : ∀ k, k ≤ pp.length → ∀ j, j < k → 1 ≤ (mesL cntF pp k).getD j 0 ∧ (mesL cntF pp k).getD j 0 + 1 ≤ (2 : Int) ^ (j + 1)
  | 0, _, j, hj => by omega
  | k + 1, hk, j, hj => by
    by_cases h : j < k
    · rw [mesL_old _ _ h]
      exact cnt_bound hp k (by omega) j h
    · obtain rfl : j = k := by omega
      rw [mesL_last]
      have ih := cnt_bound hp j (by omega)
      have hx : pp[j]? = some pp[j] := List.getElem?_eq_getElem (by omega)
      have hd : pp.getD j (0, 0, 0) = pp[j] := by rw [List.getD_eq_getElem?_getD, hx]; rfl
      have hpow : ∀ i : Nat, i < j → (2 : Int) ^ (i + 1) ≤ 2 ^ j := fun i hi => by
        have := Nat.pow_le_pow_right (n := 2) (by omega) (show i + 1 ≤ j by omega)
        exact_mod_cast this
      have hpos : (1 : Int) ≤ 2 ^ j := by
        have := Nat.one_le_two_pow (n := j)
        exact_mod_cast this
      unfold mesA
      rw [hd]
      rw [Int.pow_succ]
      rcases stepOk_num (hp j (by omega) _ hx) with ⟨a1, a2, a3, a4⟩ | ⟨a1, a2, a3, a4, a5⟩
      · rw [if_neg (by omega)]
        omega
      · rw [if_pos a1]
        have h1 := ih pp[j].2.1.toNat (by omega)
        have h2 := ih pp[j].2.2.toNat (by omega)
        have p1 := hpow pp[j].2.1.toNat (by omega)
        have p2 := hpow pp[j].2.2.toNat (by omega)
        rw [cntF_is]
        omega
theorem cnt_small {g : Int} {pp : List Stp} (hp : stepsTo g pp pp.length) {k j : Nat} (hk : k ≤ pp.length) (hj : j < k) (h60 : j < 60) : 1 ≤ (mesL cntF pp k).getD j 0 ∧ (mesL cntF pp k).getD j 0 ≤ 1152921504606846975 := by
  obtain ⟨h1, h2⟩ := cnt_bound hp k hk j hj
  have h3 : (2 : Int) ^ (j + 1) ≤ 2 ^ 60 := by
    have := Nat.pow_le_pow_right (n := 2) (by omega) (show j + 1 ≤ 60 by omega)
    exact_mod_cast this
  have h4 : (2 : Int) ^ 60 = 1152921504606846976 := by decide
  exact ⟨h1, by omega⟩
/-- The flags of needed steps. -/
def flg0 (n : Nat) : List Bool := (List.replicate n false).set (n - 1) true
def ndStep (pp : List Stp) (k : Nat) (b : List Bool) : List Bool :=
  if b.getD k false = true ∧ (pp.getD k (0, 0, 0)).1 = 2 then (b.set (pp.getD k (0, 0, 0)).2.1.toNat true).set (pp.getD k (0, 0, 0)).2.2.toNat true else b
/-- The flags when the last j steps have been looked at. -/
def needT (pp : List Stp) : Nat → List Bool
  | 0 => flg0 pp.length
  | j + 1 => ndStep pp (pp.length - (j + 1)) (needT pp j)
def needB (pp : List Stp) : List Bool := needT pp pp.length
theorem flg0_len (n : Nat) : (flg0 n).length = n := by simp [flg0]
theorem ndStep_len (pp : List Stp) (k : Nat) (b : List Bool) : (ndStep pp k b).length = b.length := by
  unfold ndStep
  split
  · simp
  · rfl
theorem needT_len (pp : List Stp) : ∀ j, (needT pp j).length = pp.length
  | 0 => flg0_len _
  | j + 1 => by rw [needT, ndStep_len, needT_len pp j]
/-- The indexes below k that are flagged. -/
def idxT (b : List Bool) : Nat → List Int
  | 0 => []
  | k + 1 => idxT b k ++ (if b.getD k false = true then [(k : Int)] else [])
theorem idxT_len (b : List Bool) : ∀ k, (idxT b k).length ≤ k
  | 0 => Nat.le_refl _
  | k + 1 => by
    rw [idxT, List.length_append]
    have := idxT_len b k
    split <;> simp <;> omega
theorem idxT_mem (b : List Bool) (z : Int) : ∀ k, z ∈ idxT b k ↔ ∃ i, i < k ∧ z = (i : Int) ∧ b.getD i false = true
  | 0 => by simp [idxT]
  | k + 1 => by
    rw [idxT, List.mem_append, idxT_mem b z k]
    constructor
    · rintro (⟨i, h1, h2, h3⟩ | h)
      · exact ⟨i, by omega, h2, h3⟩
      · split at h
        · rename_i h3
          exact ⟨k, by omega, by simpa using h, h3⟩
        · simp at h
    · rintro ⟨i, h1, h2, h3⟩
      by_cases h : i < k
      · exact .inl ⟨i, h, h2, h3⟩
      · obtain rfl : i = k := by omega
        right
        rw [if_pos h3]
        simpa using h2
/-- What Needed hands back. -/
def neeZ (g : Int) (pp : List Stp) : List Int × Int := if proofOk g pp = true then (idxT (needB pp) pp.length, 0) else ([], 1)
end Go.Proofs.Ytojofbmpknpggaa

/- Contract: kernel.measured by the count's function. -/
namespace Go.Proofs.Ytojofbmpknpggaa
open Go.RowKit

end Go.Proofs.Ytojofbmpknpggaa

namespace Go.Proofs.Ytojofbmpknpggaa
open Go.RowKit

theorem row_int_snoc {w : World} {base k : Nat} {v : Value} {zs : List Int} {z : Int} (h : w.ownsRow base 3 1 v k (zs.map (Value.int .i64) ++ [.int .i64 z])) : w.ownsRow base 3 1 v k ((zs ++ [z]).map (Value.int .i64)) := by
  rw [List.map_append]; exact h
end Go.Proofs.Ytojofbmpknpggaa
