/- A tree read back says what the proof says (pure): KernelShares' mathematics. -/
import Derived.Test.YtojofbmpknpggaaQVg
import Derived.Test.YtojofbmpknpggaaPFg
import Derived.Test.YtojofbmpknpggaaQGg
/- Trees of proofs as texts (pure): what Tree writes, and how long it is. -/
namespace Go.Proofs.Ytojofbmpknpggaa
open Go.RowKit

/-- The bytes of a citation. -/
def citT (z : Int) : List UInt8 := [103, UInt8.ofNat (48 + z.toNat / 10), UInt8.ofNat (48 + z.toNat % 10)]
/-- The text of a step's tree, with those before it. -/
def treA (pp : List Stp) (k : Nat) (L : List (List UInt8)) : List UInt8 :=
  if (pp.getD k (0, 0, 0)).1 = 2 then 68 :: (L.getD (pp.getD k (0, 0, 0)).2.1.toNat [] ++ L.getD (pp.getD k (0, 0, 0)).2.2.toNat []) else citT (pp.getD k (0, 0, 0)).2.1
def treL (pp : List Stp) : Nat → List (List UInt8)
  | 0 => []
  | k + 1 => treL pp k ++ [treA pp k (treL pp k)]
theorem treL_len (pp : List Stp) : ∀ k, (treL pp k).length = k
  | 0 => rfl
  | k + 1 => by rw [treL, List.length_append, treL_len pp k]; rfl
theorem treL_old (pp : List Stp) {k j : Nat} (h : j < k) : (treL pp (k + 1)).getD j [] = (treL pp k).getD j [] := by
  rw [treL, List.getD_eq_getElem?_getD, List.getElem?_append_left (by rw [treL_len]; exact h), ← List.getD_eq_getElem?_getD]
theorem treL_last (pp : List Stp) (k : Nat) : (treL pp (k + 1)).getD k [] = treA pp k (treL pp k) := by
  rw [treL, List.getD_eq_getElem?_getD, List.getElem?_append_right (by rw [treL_len]; exact Nat.le_refl _), treL_len, Nat.sub_self]
  rfl
/-- The text of step j. -/
def treT (pp : List Stp) (j : Nat) : List UInt8 := (treL pp (j + 1)).getD j []
theorem treL_at (pp : List Stp) : ∀ {k j : Nat}, j < k → (treL pp k).getD j [] = treT pp j
  | 0, j, h => by omega
  | k + 1, j, h => by
    by_cases hj : j < k
    · rw [treL_old pp hj]; exact treL_at pp hj
    · obtain rfl : j = k := by omega
      rfl
theorem treT_cite {pp : List Stp} {j : Nat} {y z : Int} (hx : pp[j]? = some (1, y, z)) : treT pp j = citT y := by
  unfold treT
  rw [treL_last]
  unfold treA
  rw [List.getD_eq_getElem?_getD, hx]
  rfl
theorem treT_det {pp : List Stp} {j a b : Nat} (hx : pp[j]? = some (2, (a : Int), (b : Int))) (ha : a < j) (hb : b < j) : treT pp j = 68 :: (treT pp a ++ treT pp b) := by
  unfold treT
  rw [treL_last]
  unfold treA
  rw [List.getD_eq_getElem?_getD, hx]
  simp only [Option.getD_some, if_true, Int.toNat_natCast]
  rw [treL_at pp ha, treL_at pp hb]
  rfl
/-- The count of step j, as of mesL. -/
def cntT (pp : List Stp) (j : Nat) : Int := (mesL cntF pp (j + 1)).getD j 0
theorem mesL_at (f : Int → Int → Int) (pp : List Stp) : ∀ {k j : Nat}, j < k → (mesL f pp k).getD j 0 = (mesL f pp (j + 1)).getD j 0
  | 0, j, h => by omega
  | k + 1, j, h => by
    by_cases hj : j < k
    · rw [mesL_old f pp hj]; exact mesL_at f pp hj
    · obtain rfl : j = k := by omega
      rfl
theorem cntT_cite {pp : List Stp} {j : Nat} {y z : Int} (hx : pp[j]? = some (1, y, z)) : cntT pp j = 1 := by
  unfold cntT
  rw [mesL_last]
  unfold mesA
  rw [List.getD_eq_getElem?_getD, hx]
  rfl
theorem cntT_det {pp : List Stp} {j a b : Nat} (hx : pp[j]? = some (2, (a : Int), (b : Int))) (ha : a < j) (hb : b < j) : cntT pp j = cntT pp a + cntT pp b + 1 := by
  unfold cntT
  rw [mesL_last]
  unfold mesA
  rw [List.getD_eq_getElem?_getD, hx]
  simp only [Option.getD_some, if_true, Int.toNat_natCast]
  rw [mesL_at cntF pp ha, mesL_at cntF pp hb]
  rfl
/-- A tree of c parts has c / 2 detachments of a byte and one citation more of three bytes. -/
theorem tree_len {g : Int} {pp : List Stp} (hp : stepsTo g pp pp.length) (j : Nat) (hj : j < pp.length) : ∃ d : Nat, cntT pp j = 2 * (d : Int) + 1 ∧ (treT pp j).length = d + 3 * (d + 1) := by
  induction j using Nat.strongRecOn with
  | _ j ih =>
    have hx : pp[j]? = some pp[j] := List.getElem?_eq_getElem hj
    rcases stepOk_num (hp j hj _ hx) with ⟨a1, a2, a3, a4⟩ | ⟨a1, a2, a3, a4, a5⟩
    · have hx2 : pp[j]? = some (1, pp[j].2.1, pp[j].2.2) := by rw [hx, ← a1]
      refine ⟨0, by rw [cntT_cite hx2]; rfl, by rw [treT_cite hx2]; rfl⟩
    · obtain ⟨a, ha⟩ := Int.eq_ofNat_of_zero_le a2
      obtain ⟨b, hb⟩ := Int.eq_ofNat_of_zero_le a4
      have hx2 : pp[j]? = some (2, (a : Int), (b : Int)) := by rw [hx, ← a1, ← ha, ← hb]
      have ha1 : a < j := by omega
      have hb1 : b < j := by omega
      obtain ⟨da, c1, l1⟩ := ih a ha1 (by omega)
      obtain ⟨db, c2, l2⟩ := ih b hb1 (by omega)
      refine ⟨da + db + 1, by rw [cntT_det hx2 ha1 hb1, c1, c2]; omega, ?_⟩
      rw [treT_det hx2 ha1 hb1, List.length_cons, List.length_append, l1, l2]
      omega
end Go.Proofs.Ytojofbmpknpggaa

/- Trees that are read back (pure): a tree's text tells the tree; what the reader makes of a text that is a tree's. -/
namespace Go.Proofs.Ytojofbmpknpggaa
open Go.RowKit

theorem step_cases {g : Int} {pp : List Stp} (hp : stepsTo g pp pp.length) {j : Nat} (hj : j < pp.length) :
    (∃ y : Nat, pp[j]? = some (1, (y : Int), 0) ∧ (y : Int) < g) ∨ ∃ a b : Nat, pp[j]? = some (2, (a : Int), (b : Int)) ∧ a < j ∧ b < j := by
  have hx : pp[j]? = some pp[j] := List.getElem?_eq_getElem hj
  rcases stepOk_num (hp j hj _ hx) with ⟨a1, a2, a3, a4⟩ | ⟨a1, a2, a3, a4, a5⟩
  · obtain ⟨y, hy⟩ := Int.eq_ofNat_of_zero_le a2
    exact .inl ⟨y, by rw [hx, ← a1, ← hy, ← a4], by omega⟩
  · obtain ⟨a, ha⟩ := Int.eq_ofNat_of_zero_le a2
    obtain ⟨b, hb⟩ := Int.eq_ofNat_of_zero_le a4
    exact .inr ⟨a, b, by rw [hx, ← a1, ← ha, ← hb], by omega, by omega⟩
theorem u8_inj {m n : Nat} (hm : m < 256) (hn : n < 256) (h : UInt8.ofNat m = UInt8.ofNat n) : m = n := by
  have := congrArg UInt8.toNat h
  rw [UInt8.toNat_ofNat', UInt8.toNat_ofNat'] at this
  omega
theorem citT_inj {x y : Nat} (hx : x < 100) (hy : y < 100) {r r' : List UInt8} (h : citT (x : Int) ++ r = citT (y : Int) ++ r') : x = y ∧ r = r' := by
  unfold citT at h
  simp only [Int.toNat_natCast, List.cons_append, List.nil_append, List.cons.injEq, true_and] at h
  have h1 := u8_inj (by omega) (by omega) h.1
  have h2 := u8_inj (by omega) (by omega) h.2.1
  exact ⟨by omega, h.2.2⟩
/-- A tree's text tells where it ends. -/
theorem tree_pre {g g' : Int} (hg : g ≤ 60) (hg' : g' ≤ 60) {P Q : List Stp} (hP : stepsTo g P P.length) (hQ : stepsTo g' Q Q.length) (i : Nat) (hi : i < P.length) :
    ∀ (j : Nat) (_ : j < Q.length) (r r' : List UInt8), treT P i ++ r = treT Q j ++ r' → treT P i = treT Q j ∧ r = r' := by
  induction i using Nat.strongRecOn with
  | _ i ih =>
    intro j hj r r' h
    rcases step_cases hP hi with ⟨y, e1, y1⟩ | ⟨a, b, e1, a1, b1⟩
    · rcases step_cases hQ hj with ⟨z, e2, z1⟩ | ⟨c, d, e2, c1, d1⟩
      · rw [treT_cite e1, treT_cite e2] at h ⊢
        obtain ⟨rfl, h2⟩ := citT_inj (by omega) (by omega) h
        exact ⟨rfl, h2⟩
      · rw [treT_cite e1, treT_det e2 c1 d1] at h
        simp [citT] at h
    · rcases step_cases hQ hj with ⟨z, e2, z1⟩ | ⟨c, d, e2, c1, d1⟩
      · rw [treT_det e1 a1 b1, treT_cite e2] at h
        simp [citT] at h
      · rw [treT_det e1 a1 b1, treT_det e2 c1 d1] at h ⊢
        simp only [List.cons_append, List.cons.injEq, true_and, List.append_assoc] at h
        obtain ⟨h1, h2⟩ := ih a a1 (by omega) c (by omega) _ _ h
        obtain ⟨h3, h4⟩ := ih b b1 (by omega) d (by omega) _ _ h2
        exact ⟨by rw [h1, h3], h4⟩
theorem tree_two {g g' : Int} (hg : g ≤ 60) (hg' : g' ≤ 60) {P Q : List Stp} (hP : stepsTo g P P.length) (hQ : stepsTo g' Q Q.length) {a b c d : Nat} (ha : a < P.length) (_hb : b < P.length) (hc : c < Q.length) (_hd : d < Q.length)
    (h : treT P a ++ treT P b = treT Q c ++ treT Q d) : treT P a = treT Q c ∧ treT P b = treT Q d := by
  obtain ⟨h1, h2⟩ := tree_pre hg hg' hP hQ a ha c hc _ _ h
  exact ⟨h1, h2⟩
/-- What the reader's steps are so far, against the proof whose tree is read. -/
structure ReadIs (g : Int) (pp P : List Stp) : Prop where
  ok : stepsTo g P P.length
  nd : P.Nodup
  of : ∀ i, i < P.length → ∃ k, k < pp.length ∧ treT pp k = treT P i
theorem ReadIs.nil (g : Int) (pp : List Stp) : ReadIs g pp [] := ⟨fun j h => by simp at h, List.nodup_nil, fun i h => by simp at h⟩
end Go.Proofs.Ytojofbmpknpggaa

namespace Go.Proofs.Ytojofbmpknpggaa
open Go.RowKit

/-- A step has its own tree. -/
theorem tree_own {g : Int} (hg : g ≤ 60) {P : List Stp} (hP : stepsTo g P P.length) (hn : P.Nodup) (i : Nat) (hi : i < P.length) : ∀ (j : Nat) (_ : j < P.length), treT P i = treT P j → i = j := by
  induction i using Nat.strongRecOn with
  | _ i ih =>
    intro j hj h
    have same : ∀ x : Stp, P[i]? = some x → P[j]? = some x → i = j := fun x h1 h2 => by
      obtain ⟨a1, e1⟩ := List.getElem?_eq_some_iff.1 h1
      obtain ⟨a2, e2⟩ := List.getElem?_eq_some_iff.1 h2
      exact (List.getElem_inj hn).1 (e1.trans e2.symm)
    rcases step_cases hP hi with ⟨y, e1, y1⟩ | ⟨a, b, e1, a1, b1⟩
    · rcases step_cases hP hj with ⟨z, e2, z1⟩ | ⟨c, d, e2, c1, d1⟩
      · rw [treT_cite e1, treT_cite e2] at h
        obtain ⟨rfl, _⟩ := citT_inj (x := y) (y := z) (r := []) (r' := []) (by omega) (by omega) (by rw [h])
        exact same _ e1 e2
      · rw [treT_cite e1, treT_det e2 c1 d1] at h
        simp [citT] at h
    · rcases step_cases hP hj with ⟨z, e2, z1⟩ | ⟨c, d, e2, c1, d1⟩
      · rw [treT_det e1 a1 b1, treT_cite e2] at h
        simp [citT] at h
      · rw [treT_det e1 a1 b1, treT_det e2 c1 d1] at h
        simp only [List.cons.injEq, true_and] at h
        obtain ⟨h1, h2⟩ := tree_two hg hg hP hP (by omega) (by omega) (by omega) (by omega) h
        obtain rfl := ih a a1 (by omega) c (by omega) h1
        obtain rfl := ih b b1 (by omega) d (by omega) h2
        exact same _ e1 e2
theorem le_of_nodup {α : Type} [DecidableEq α] : ∀ (l m : List α), l.Nodup → (∀ x ∈ l, x ∈ m) → l.length ≤ m.length
  | [], _, _, _ => by simp
  | x :: l, m, hn, hs => by
    rw [List.nodup_cons] at hn
    have hx := hs x (by simp)
    have := le_of_nodup l (m.erase x) hn.2 (fun y hy => (List.mem_erase_of_ne (fun e => hn.1 (by rw [← e]; exact hy))).2 (hs y (by simp [hy])))
    rw [List.length_erase_of_mem hx] at this
    have := List.length_pos_of_mem hx
    rw [List.length_cons]
    omega
/-- The reader has no more steps than the proof. -/
theorem ReadIs.le {g : Int} (hg : g ≤ 60) {pp P : List Stp} (h : ReadIs g pp P) : P.length ≤ pp.length := by
  have hn : ((List.range P.length).map (treT P)).Nodup := by
    unfold List.Nodup
    rw [List.pairwise_map]
    refine List.Pairwise.imp_of_mem ?_ List.nodup_range
    intro a b ha hb hab e
    exact hab (tree_own hg h.ok h.nd a (List.mem_range.1 ha) b (List.mem_range.1 hb) e)
  have := le_of_nodup _ ((List.range pp.length).map (treT pp)) hn (fun x hx => by
    obtain ⟨i, hi, rfl⟩ := List.mem_map.1 hx
    obtain ⟨k, hk, e⟩ := h.of i (List.mem_range.1 hi)
    exact List.mem_map.2 ⟨k, List.mem_range.2 hk, e⟩)
  simpa using this
end Go.Proofs.Ytojofbmpknpggaa
