/- A tree read back says what the proof says (pure): KernelShares' mathematics. -/
import Derived.Test.YtippmpcaongolaaTCg
import Derived.Test.YtippmpcaongolaaPFg
import Derived.Test.YtippmpcaongolaaQGg
/- Trees that are read back (pure): a tree's text tells the tree; what the reader makes of a text that is a tree's. -/
namespace Go.Proofs.Ytippmpcaongolaa
open Go.RowKit

theorem step_cases {g : Int} {pp : List Stp} (hp : stepsTo g pp pp.length) {j : Nat} (hj : j < pp.length) :
    (∃ y : Nat, pp[j]? = some (1, (y : Int), 0) ∧ (y : Int) < g) ∨ ∃ a b : Nat, pp[j]? = some (2, (a : Int), (b : Int)) ∧ a < j ∧ b < j := by
  have hx : pp[j]? = some pp[j] := List.getElem?_eq_getElem hj
  rcases stepOk_num (hp j hj _ hx) with ⟨a1, a2, a3, a4⟩ | ⟨a1, a2, a3, a4, a5⟩
  · obtain ⟨y, hy⟩ := Int.eq_ofNat_of_zero_le a2
    exact .inl ⟨y, by rw [hx, ← a1, ← hy, ← a4], by omega⟩
  · obtain ⟨a, ha⟩ := Int.eq_ofNat_of_zero_le a2
    obtain ⟨b, hb⟩ := Int.eq_ofNat_of_zero_le a4
    exact .inr ⟨a, b, by rw [hx, ← a1, ← ha, ← hb], by omega, by omega⟩
theorem u8_inj {m n : Nat} (hm : m < 256) (hn : n < 256) (h : UInt8.ofNat m = UInt8.ofNat n) : m = n := by
  have := congrArg UInt8.toNat h
  rw [UInt8.toNat_ofNat', UInt8.toNat_ofNat'] at this
  omega
theorem citT_inj {x y : Nat} (hx : x < 100) (hy : y < 100) {r r' : List UInt8} (h : citT (x : Int) ++ r = citT (y : Int) ++ r') : x = y ∧ r = r' := by
  unfold citT at h
  simp only [Int.toNat_natCast, List.cons_append, List.nil_append, List.cons.injEq, true_and] at h
  have h1 := u8_inj (by omega) (by omega) h.1
  have h2 := u8_inj (by omega) (by omega) h.2.1
  exact ⟨by omega, h.2.2⟩
/-- A tree's text tells where it ends. -/
theorem tree_pre {g g' : Int} (hg : g ≤ 60) (hg' : g' ≤ 60) {P Q : List Stp} (hP : stepsTo g P P.length) (hQ : stepsTo g' Q Q.length) (i : Nat) (hi : i < P.length) :
    ∀ (j : Nat) (_ : j < Q.length) (r r' : List UInt8), treT P i ++ r = treT Q j ++ r' → treT P i = treT Q j ∧ r = r' := by
  induction i using Nat.strongRecOn with
  | _ i ih =>
    intro j hj r r' h
    rcases step_cases hP hi with ⟨y, e1, y1⟩ | ⟨a, b, e1, a1, b1⟩
    · rcases step_cases hQ hj with ⟨z, e2, z1⟩ | ⟨c, d, e2, c1, d1⟩
      · rw [treT_cite e1, treT_cite e2] at h ⊢
        obtain ⟨rfl, h2⟩ := citT_inj (by omega) (by omega) h
        exact ⟨rfl, h2⟩
      · rw [treT_cite e1, treT_det e2 c1 d1] at h
        simp [citT] at h
    · rcases step_cases hQ hj with ⟨z, e2, z1⟩ | ⟨c, d, e2, c1, d1⟩
      · rw [treT_det e1 a1 b1, treT_cite e2] at h
        simp [citT] at h
      · rw [treT_det e1 a1 b1, treT_det e2 c1 d1] at h ⊢
        simp only [List.cons_append, List.cons.injEq, true_and, List.append_assoc] at h
        obtain ⟨h1, h2⟩ := ih a a1 (by omega) c (by omega) _ _ h
        obtain ⟨h3, h4⟩ := ih b b1 (by omega) d (by omega) _ _ h2
        exact ⟨by rw [h1, h3], h4⟩
theorem tree_two {g g' : Int} (hg : g ≤ 60) (hg' : g' ≤ 60) {P Q : List Stp} (hP : stepsTo g P P.length) (hQ : stepsTo g' Q Q.length) {a b c d : Nat} (ha : a < P.length) (_hb : b < P.length) (hc : c < Q.length) (_hd : d < Q.length)
    (h : treT P a ++ treT P b = treT Q c ++ treT Q d) : treT P a = treT Q c ∧ treT P b = treT Q d := by
  obtain ⟨h1, h2⟩ := tree_pre hg hg' hP hQ a ha c hc _ _ h
  exact ⟨h1, h2⟩
theorem treL_pre (P S : List Stp) : ∀ k, k ≤ P.length → treL (P ++ S) k = treL P k
  | 0, _ => rfl
  | k + 1, h => by
    rw [treL, treL, treL_pre P S k (by omega)]
    unfold treA
    rw [show (P ++ S).getD k (0, 0, 0) = P.getD k (0, 0, 0) from by rw [List.getD_eq_getElem?_getD, List.getD_eq_getElem?_getD, List.getElem?_append_left (by omega)]]
theorem treT_pre {P : List Stp} (S : List Stp) {i : Nat} (h : i < P.length) : treT (P ++ S) i = treT P i := by
  unfold treT
  rw [treL_pre P S (i + 1) (by omega)]

/-- What the reader's steps are so far, against the proof whose tree is read. -/
structure ReadIs (g : Int) (pp P : List Stp) : Prop where
  ok : stepsTo g P P.length
  nd : P.Nodup
  of : ∀ i, i < P.length → ∃ k, k < pp.length ∧ treT pp k = treT P i
theorem ReadIs.nil (g : Int) (pp : List Stp) : ReadIs g pp [] := ⟨fun j h => by simp at h, List.nodup_nil, fun i h => by simp at h⟩
theorem stepsTo_snoc {g : Int} {P : List Stp} {x : Stp} (h : stepsTo g P P.length) (hx : stepOk g P.length x = true) : stepsTo g (P ++ [x]) (P ++ [x]).length := by
  intro j hj y hy
  rw [List.length_append, List.length_singleton] at hj
  by_cases hjl : j < P.length
  · rw [List.getElem?_append_left hjl] at hy
    exact h j hjl y hy
  · obtain rfl : j = P.length := by omega
    rw [List.getElem?_append_right (Nat.le_refl _), Nat.sub_self] at hy
    cases hy
    exact hx
/-- A step put in its place. -/
theorem place_is {g : Int} {pp P : List Stp} {x : Stp} {t : List UInt8} (h : ReadIs g pp P) (hx : stepOk g P.length x = true) (ht : ∀ Q i, Q[i]? = some x → (∃ S, Q = P ++ S) → P.length ≤ Q.length → i < Q.length → stepOk g i x = true → treT Q i = t)
    (hk : ∃ k, k < pp.length ∧ treT pp k = t) :
    ReadIs g pp (placeS P x).2 ∧ (∃ S, (placeS P x).2 = P ++ S) ∧ (placeS P x).1 < (placeS P x).2.length ∧ treT (placeS P x).2 (placeS P x).1 = t ∧ ∀ k, P.length ≤ k → k < (placeS P x).2.length → k = (placeS P x).1 ∧ k + 1 = (placeS P x).2.length := by
  unfold placeS
  by_cases hc : P.contains x = true
  · rw [if_pos hc]
    have hm := List.contains_iff_mem.1 hc
    have hl := List.idxOf_lt_length_iff.2 hm
    have hg : P[P.idxOf x]? = some x := by
      rw [List.getElem?_eq_getElem hl, List.getElem_idxOf hl]
    refine ⟨h, ⟨[], by simp⟩, hl, ?_, fun k h1 h2 => ?_⟩
    · exact ht P _ hg ⟨[], by simp⟩ (Nat.le_refl _) hl (h.ok _ hl _ hg)
    · simp only at h2; omega
  · rw [if_neg hc]
    have hnm : x ∉ P := fun hm => hc (List.contains_iff_mem.2 hm)
    have hg : (P ++ [x])[P.length]? = some x := by simp
    have htr : treT (P ++ [x]) P.length = t := ht _ _ hg ⟨[x], rfl⟩ (by simp) (by simp) hx
    refine ⟨⟨stepsTo_snoc h.ok hx, ?_, fun i hi => ?_⟩, ⟨[x], rfl⟩, by simp, htr, fun k h1 h2 => ?_⟩
    · rw [List.nodup_append]
      refine ⟨h.nd, by simp, fun a ha b hb => ?_⟩
      rw [List.mem_singleton] at hb
      rintro rfl
      exact hnm (hb ▸ ha)
    · rw [List.length_append, List.length_singleton] at hi
      by_cases hil : i < P.length
      · rw [treT_pre _ hil]
        exact h.of i hil
      · obtain rfl : i = P.length := by omega
        rw [htr]
        exact hk
    · simp only [List.length_append, List.length_singleton] at h2 ⊢
      omega
theorem citF_citT {g : Int} {y : Nat} (hy : (y : Int) < g) (h100 : y < 100) (r : List UInt8) : citF g (citT (y : Int) ++ r) = ((y : Int), true) := by
  unfold citT citF
  simp only [Int.toNat_natCast, List.cons_append, List.nil_append]
  have e : ∀ m : Nat, m < 256 → ((UInt8.ofNat m).toNat : Int) = (m : Int) := fun m hm => by
    rw [UInt8.toNat_ofNat']
    omega
  have d1 : digB (UInt8.ofNat (48 + y / 10)) = true := by
    unfold digB
    rw [e _ (by omega), decide_eq_true (by omega), decide_eq_true (by omega)]
    rfl
  have d2 : digB (UInt8.ofNat (48 + y % 10)) = true := by
    unfold digB
    rw [e _ (by omega), decide_eq_true (by omega), decide_eq_true (by omega)]
    rfl
  rw [d1, d2, e (48 + y / 10) (by omega), e (48 + y % 10) (by omega)]
  rw [if_pos (by decide)]
  have h1 : 10 * (((48 + y / 10 : Nat) : Int) - 48) + (((48 + y % 10 : Nat) : Int) - 48) = (y : Int) := by omega
  rw [h1, decide_eq_true hy]

/-- The reader reads a tree's text to its end, and knows the tree then. -/
theorem plant_tree {g : Int} (hg : g ≤ 60) {pp : List Stp} (hp : stepsTo g pp pp.length) (j : Nat) (hj : j < pp.length) :
    ∀ (f : Nat) (P : List Stp) (r : List UInt8), ReadIs g pp P → (treT pp j ++ r).length < f →
      ∃ i P', plant g f P (treT pp j ++ r) = (some i, P', r) ∧ ReadIs g pp P' ∧ (∃ S, P' = P ++ S) ∧ i < P'.length ∧ treT P' i = treT pp j ∧
        ∀ k, P.length ≤ k → k < P'.length → (treT P' k).length < (treT pp j).length ∨ k = i ∧ k + 1 = P'.length := by
  induction j using Nat.strongRecOn with
  | _ j ih =>
    intro f P r hP hf
    obtain ⟨f, rfl⟩ : ∃ f', f = f' + 1 := ⟨f - 1, by omega⟩
    rw [plant_succ]
    rcases step_cases hp hj with ⟨y, e1, y1⟩ | ⟨a, b, e1, a1, b1⟩
    · have htt := treT_cite e1
      rw [htt, if_neg (by simp [citT])]
      unfold plantC
      rw [citF_citT y1 (by omega) r]
      simp only [if_true]
      have h0 : 0 ≤ (y : Int) := by omega
      have hso : ∀ i : Int, stepOk g i (1, (y : Int), 0) = true := fun i => by
        unfold stepOk
        rw [if_pos rfl, decide_eq_true (show 0 ≤ (y : Int) ∧ (y : Int) < g from ⟨h0, y1⟩)]
        rfl
      obtain ⟨q1, q2, q3, q4, q5⟩ := place_is (t := citT (y : Int)) hP (hso _) (fun Q i hq _ _ _ _ => treT_cite hq) ⟨j, hj, htt⟩
      exact ⟨_, _, by rfl, q1, q2, q3, q4, fun k h1 h2 => .inr (q5 k h1 h2)⟩
    · have htt := treT_det e1 a1 b1
      have hlen : (treT pp j).length = (treT pp a).length + (treT pp b).length + 1 := by rw [htt]; simp
      have hpos : ∀ k, k < pp.length → 1 ≤ (treT pp k).length := fun k hk => by
        obtain ⟨d, _, h2⟩ := tree_len hp k hk
        omega
      have pa := hpos a (by omega)
      have pb := hpos b (by omega)
      rw [List.length_append] at hf
      rw [htt, if_pos (by simp), List.cons_append, List.tail_cons, List.append_assoc]
      obtain ⟨i1, P1, c1, c2, ⟨S1, c3⟩, c4, c5, c6⟩ := ih a a1 (by omega) f P (treT pp b ++ r) hP (by rw [List.length_append, List.length_append]; omega)
      obtain ⟨i2, P2, d1, d2, ⟨S2, d3⟩, d4, d5, d6⟩ := ih b b1 (by omega) f P1 r c2 (by rw [List.length_append]; omega)
      rw [c1]
      simp only [plantA]
      rw [d1]
      simp only [plantB]
      have hi1 : i1 < P2.length := by rw [d3, List.length_append]; omega
      have t1 : treT P2 i1 = treT pp a := by rw [d3, treT_pre _ c4, c5]
      have hso : stepOk g (P2.length : Int) (2, (i1 : Int), (i2 : Int)) = true := by
        unfold stepOk
        rw [if_neg (by simp), if_pos rfl, decide_eq_true (show 0 ≤ (i1 : Int) ∧ (i1 : Int) < (P2.length : Int) by omega), decide_eq_true (show 0 ≤ (i2 : Int) ∧ (i2 : Int) < (P2.length : Int) by omega)]
        rfl
      obtain ⟨q1, ⟨S3, q2⟩, q3, q4, q5⟩ := place_is (x := (2, (i1 : Int), (i2 : Int))) (t := 68 :: (treT pp a ++ treT pp b)) d2 hso (fun Q i hq hS _ _ hok => by
        obtain ⟨S, hS⟩ := hS
        rcases stepOk_num hok with ⟨z1, _⟩ | ⟨_, z2, z3, z4, z5⟩
        · simp at z1
        · simp only at z3 z5
          rw [treT_det hq (by omega) (by omega), hS, treT_pre _ hi1, treT_pre _ d4, t1, d5]) ⟨j, hj, htt⟩
      refine ⟨_, _, rfl, q1, ⟨S1 ++ S2 ++ S3, by rw [q2, d3, c3]; simp⟩, q3, q4, fun k h1 h2 => ?_⟩
      by_cases hk2 : P2.length ≤ k
      · exact .inr (q5 k hk2 h2)
      · left
        rw [q2, treT_pre _ (by omega)]
        by_cases hk1 : P1.length ≤ k
        · rcases d6 k hk1 (by omega) with h | ⟨h, _⟩
          · simp only [List.length_cons, List.length_append]; omega
          · rw [h, d5]; simp only [List.length_cons, List.length_append]; omega
        · rw [d3, treT_pre _ (by omega)]
          rcases c6 k h1 (by omega) with h | ⟨h, _⟩
          · simp only [List.length_cons, List.length_append]; omega
          · rw [h, c5]; simp only [List.length_cons, List.length_append]; omega

end Go.Proofs.Ytippmpcaongolaa

namespace Go.Proofs.Ytippmpcaongolaa
open Go.RowKit

/-- A step has its own tree. -/
theorem tree_own {g : Int} (hg : g ≤ 60) {P : List Stp} (hP : stepsTo g P P.length) (hn : P.Nodup) (i : Nat) (hi : i < P.length) : ∀ (j : Nat) (_ : j < P.length), treT P i = treT P j → i = j := by
  induction i using Nat.strongRecOn with
  | _ i ih =>
    intro j hj h
    have same : ∀ x : Stp, P[i]? = some x → P[j]? = some x → i = j := fun x h1 h2 => by
      obtain ⟨a1, e1⟩ := List.getElem?_eq_some_iff.1 h1
      obtain ⟨a2, e2⟩ := List.getElem?_eq_some_iff.1 h2
      exact (List.getElem_inj hn).1 (e1.trans e2.symm)
    rcases step_cases hP hi with ⟨y, e1, y1⟩ | ⟨a, b, e1, a1, b1⟩
    · rcases step_cases hP hj with ⟨z, e2, z1⟩ | ⟨c, d, e2, c1, d1⟩
      · rw [treT_cite e1, treT_cite e2] at h
        obtain ⟨rfl, _⟩ := citT_inj (x := y) (y := z) (r := []) (r' := []) (by omega) (by omega) (by rw [h])
        exact same _ e1 e2
      · rw [treT_cite e1, treT_det e2 c1 d1] at h
        simp [citT] at h
    · rcases step_cases hP hj with ⟨z, e2, z1⟩ | ⟨c, d, e2, c1, d1⟩
      · rw [treT_det e1 a1 b1, treT_cite e2] at h
        simp [citT] at h
      · rw [treT_det e1 a1 b1, treT_det e2 c1 d1] at h
        simp only [List.cons.injEq, true_and] at h
        obtain ⟨h1, h2⟩ := tree_two hg hg hP hP (by omega) (by omega) (by omega) (by omega) h
        obtain rfl := ih a a1 (by omega) c (by omega) h1
        obtain rfl := ih b b1 (by omega) d (by omega) h2
        exact same _ e1 e2
theorem le_of_nodup {α : Type} [DecidableEq α] : ∀ (l m : List α), l.Nodup → (∀ x ∈ l, x ∈ m) → l.length ≤ m.length
  | [], _, _, _ => by simp
  | x :: l, m, hn, hs => by
    rw [List.nodup_cons] at hn
    have hx := hs x (by simp)
    have := le_of_nodup l (m.erase x) hn.2 (fun y hy => (List.mem_erase_of_ne (fun e => hn.1 (by rw [← e]; exact hy))).2 (hs y (by simp [hy])))
    rw [List.length_erase_of_mem hx] at this
    have := List.length_pos_of_mem hx
    rw [List.length_cons]
    omega
/-- The reader has no more steps than the proof. -/
theorem ReadIs.le {g : Int} (hg : g ≤ 60) {pp P : List Stp} (h : ReadIs g pp P) : P.length ≤ pp.length := by
  have hn : ((List.range P.length).map (treT P)).Nodup := by
    unfold List.Nodup
    rw [List.pairwise_map]
    refine List.Pairwise.imp_of_mem ?_ List.nodup_range
    intro a b ha hb hab e
    exact hab (tree_own hg h.ok h.nd a (List.mem_range.1 ha) b (List.mem_range.1 hb) e)
  have := le_of_nodup _ ((List.range pp.length).map (treT pp)) hn (fun x hx => by
    obtain ⟨i, hi, rfl⟩ := List.mem_map.1 hx
    obtain ⟨k, hk, e⟩ := h.of i (List.mem_range.1 hi)
    exact List.mem_map.2 ⟨k, List.mem_range.2 hk, e⟩)
  simpa using this
/-- What Untree makes of a proof's tree. -/
theorem untree_tree {g : Int} {pp : List Stp} (hok : proofOk g pp = true) (hl : (treT pp (pp.length - 1)).length ≤ 65536) :
    ∃ q, untreeZ g (treT pp (pp.length - 1)) = (q, 0) ∧ ReadIs g pp q ∧ 1 ≤ q.length ∧ q.length ≤ pp.length ∧ treT q (q.length - 1) = treT pp (pp.length - 1) := by
  obtain ⟨hg, hl60, hp⟩ := proofOk_to hok
  obtain ⟨i, q, h1, h2, ⟨S, h3⟩, h4, h5, h6⟩ := plant_tree hg.2 hp (pp.length - 1) (by omega) ((treT pp (pp.length - 1)).length + 1) [] [] (ReadIs.nil g pp) (by simp)
  rw [List.append_nil] at h1
  have hle := h2.le hg.2
  have hi : i + 1 = q.length := by
    rcases h6 i (by simp) h4 with h | ⟨_, h⟩
    · rw [h5] at h; omega
    · exact h
  refine ⟨q, ?_, h2, by omega, hle, by rw [show q.length - 1 = i by omega]; exact h5⟩
  unfold untreeZ
  rw [h1, if_neg (by omega), if_neg (by omega), if_neg (by simp), if_neg (by simp only; omega)]
theorem read_ok {g : Int} {pp q : List Stp} (hok : proofOk g pp = true) (h : ReadIs g pp q) (h1 : 1 ≤ q.length) (h2 : q.length ≤ pp.length) : proofOk g q = true := by
  obtain ⟨hg, hl60, _⟩ := proofOk_to hok
  exact proofOk_all hg (by omega) h.ok

end Go.Proofs.Ytippmpcaongolaa
