/- A tree read back has the same count and height, and no more steps than were needed (pure): KernelTrees' mathematics. -/
import Derived.Test.YtojofbmpknpggaaTEg
/- What the reader of trees has read, its tree's text is (pure). -/
namespace Go.Proofs.Ytojofbmpknpggaa
open Go.RowKit

end Go.Proofs.Ytojofbmpknpggaa

namespace Go.Proofs.Ytojofbmpknpggaa
open Go.RowKit

theorem set_up (b : List Bool) (m i : Nat) (h : b.getD i false = true) : (b.set m true).getD i false = true := by
  rw [List.getD_eq_getElem?_getD] at h ⊢
  rw [List.getElem?_set]
  by_cases hm : m = i
  · rw [if_pos hm]
    by_cases hl : m < b.length
    · rw [if_pos hl]; rfl
    · rw [← hm, List.getElem?_eq_none (by omega)] at h
      cases h
  · rw [if_neg hm]; exact h
theorem set_new (b : List Bool) {m : Nat} (h : m < b.length) : (b.set m true).getD m false = true := by
  rw [List.getD_eq_getElem?_getD, List.getElem?_set_self h]; rfl
theorem set_off (b : List Bool) {m i : Nat} (h : m ≠ i) : (b.set m true).getD i false = b.getD i false := by
  rw [List.getD_eq_getElem?_getD, List.getElem?_set_ne h, ← List.getD_eq_getElem?_getD]
theorem nd_up (pp : List Stp) (k : Nat) (b : List Bool) (i : Nat) (h : b.getD i false = true) : (ndStep pp k b).getD i false = true := by
  unfold ndStep
  split
  · exact set_up _ _ _ (set_up _ _ _ h)
  · exact h
theorem needT_up (pp : List Stp) (i j : Nat) (h : (needT pp j).getD i false = true) : ∀ m, (needT pp (j + m)).getD i false = true
  | 0 => h
  | m + 1 => by
    rw [← Nat.add_assoc, needT]
    exact nd_up _ _ _ _ (needT_up pp i j h m)
theorem nd_off {g : Int} {pp : List Stp} (hp : stepsTo g pp pp.length) {k i : Nat} (hk : k < pp.length) (hi : k ≤ i) (b : List Bool) : (ndStep pp k b).getD i false = b.getD i false := by
  unfold ndStep
  split
  · rename_i hc
    rcases step_cases hp hk with ⟨y, e1, y1⟩ | ⟨c, d, e1, c1, d1⟩
    · have : pp.getD k (0, 0, 0) = (1, (y : Int), 0) := by rw [List.getD_eq_getElem?_getD, e1]; rfl
      rw [this] at hc
      simp at hc
    · have : pp.getD k (0, 0, 0) = (2, (c : Int), (d : Int)) := by rw [List.getD_eq_getElem?_getD, e1]; rfl
      rw [this]
      simp only [Int.toNat_natCast]
      rw [set_off _ (by omega), set_off _ (by omega)]
  · rfl
theorem needT_off {g : Int} {pp : List Stp} (hp : stepsTo g pp pp.length) {i j : Nat} (hj : pp.length ≤ i + 1 + j) (hi : i < pp.length) : ∀ m, j + m ≤ pp.length → (needT pp (j + m)).getD i false = (needT pp j).getD i false
  | 0, _ => rfl
  | m + 1, h => by
    rw [← Nat.add_assoc, needT, nd_off hp (by omega) (by omega), needT_off hp hj hi m (by omega)]
/-- The last step is needed. -/
theorem need_last {pp : List Stp} (h : 1 ≤ pp.length) : (needB pp).getD (pp.length - 1) false = true := by
  have h0 : (needT pp 0).getD (pp.length - 1) false = true := by
    unfold needT flg0
    exact set_new _ (by rw [List.length_replicate]; omega)
  have := needT_up pp _ 0 h0 pp.length
  rw [Nat.zero_add] at this
  exact this
/-- What a needed step detaches is needed. -/
theorem need_down {g : Int} {pp : List Stp} (hp : stepsTo g pp pp.length) (k a b : Nat) (hk : k < pp.length ∧ (needB pp).getD k false = true) (hx : pp[k]? = some (2, (a : Int), (b : Int))) :
    (a < pp.length ∧ (needB pp).getD a false = true) ∧ (b < pp.length ∧ (needB pp).getD b false = true) := by
  obtain ⟨hk, hn⟩ := hk
  obtain ⟨a1, b1⟩ : a < k ∧ b < k := by
    rcases stepOk_num (hp k hk _ hx) with ⟨z1, _⟩ | ⟨_, z2, z3, z4, z5⟩
    · simp at z1
    · simp only at z3 z5
      omega
  have hj : (needT pp (pp.length - 1 - k)).getD k false = true := by
    have := needT_off hp (i := k) (j := pp.length - 1 - k) (by omega) hk (k + 1) (by omega)
    rw [← this, show pp.length - 1 - k + (k + 1) = pp.length by omega]
    exact hn
  have hd : pp.getD k (0, 0, 0) = (2, (a : Int), (b : Int)) := by rw [List.getD_eq_getElem?_getD, hx]; rfl
  have hs : needT pp (pp.length - 1 - k + 1) = ((needT pp (pp.length - 1 - k)).set a true).set b true := by
    rw [needT, show pp.length - (pp.length - 1 - k + 1) = k by omega]
    unfold ndStep
    rw [hd, if_pos ⟨hj, rfl⟩]
    simp only [Int.toNat_natCast]
  have ha : (needT pp (pp.length - 1 - k + 1)).getD a false = true := by
    rw [hs]
    exact set_up _ _ _ (set_new _ (by rw [needT_len]; omega))
  have hb : (needT pp (pp.length - 1 - k + 1)).getD b false = true := by
    rw [hs]
    exact set_new _ (by rw [List.length_set, needT_len]; omega)
  refine ⟨⟨by omega, ?_⟩, by omega, ?_⟩
  · have := needT_up pp _ _ ha k
    rw [show pp.length - 1 - k + 1 + k = pp.length by omega] at this
    exact this
  · have := needT_up pp _ _ hb k
    rw [show pp.length - 1 - k + 1 + k = pp.length by omega] at this
    exact this

/-- What the reader's steps are so far, each with the tree of a step of N. -/
structure ReadAt (N : Nat → Prop) (g : Int) (pp P : List Stp) : Prop where
  ok : stepsTo g P P.length
  nd : P.Nodup
  of : ∀ i, i < P.length → ∃ k, k < pp.length ∧ N k ∧ treT pp k = treT P i
theorem ReadAt.nil (N : Nat → Prop) (g : Int) (pp : List Stp) : ReadAt N g pp [] := ⟨fun j h => by simp at h, List.nodup_nil, fun i h => by simp at h⟩
end Go.Proofs.Ytojofbmpknpggaa
