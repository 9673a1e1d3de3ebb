/- The walk of KernelTrees. -/
import Derived.Test.YtippmpcaongolaaTEg
import Derived.Test.YtippmpcaongolaaUDg
import Derived.Test.YtippmpcaongolaaTCg
import Derived.Test.YtippmpcaongolaaQWg
import Derived.Deep.RegionLaw
import Derived.Deep.AppendLies
import Derived.Deep.RegionHeld3
import Derived.Test.YtippmpcaongolaaQGg
import Derived.Test.YtippmpcaongolaaQZg
import Derived.Test.YtippmpcaongolaaPZg
/- A tree read back has the same count and height, and no more steps than were needed (pure): KernelTrees' mathematics. -/
namespace Go.Proofs.Ytippmpcaongolaa
open Go.RowKit

/-- The measure of step j. -/
def mesT (f : Int → Int → Int) (pp : List Stp) (j : Nat) : Int := (mesL f pp (j + 1)).getD j 0
theorem mesT_cite {f : Int → Int → Int} {pp : List Stp} {j : Nat} {y z : Int} (hx : pp[j]? = some (1, y, z)) : mesT f pp j = 1 := by
  unfold mesT
  rw [mesL_last]
  unfold mesA
  rw [List.getD_eq_getElem?_getD, hx]
  rfl
theorem mesT_det {f : Int → Int → Int} {pp : List Stp} {j a b : Nat} (hx : pp[j]? = some (2, (a : Int), (b : Int))) (ha : a < j) (hb : b < j) : mesT f pp j = f (mesT f pp a) (mesT f pp b) := by
  unfold mesT
  rw [mesL_last]
  unfold mesA
  rw [List.getD_eq_getElem?_getD, hx]
  simp only [Option.getD_some, if_true, Int.toNat_natCast]
  rw [mesL_at f pp ha, mesL_at f pp hb]
/-- Steps with the same tree have the same measure. -/
theorem same_mes {f : Int → Int → Int} {g : Int} (hg : g ≤ 60) {P Q : List Stp} (hP : stepsTo g P P.length) (hQ : stepsTo g Q Q.length) (i : Nat) (hi : i < P.length) :
    ∀ (j : Nat) (_ : j < Q.length), treT P i = treT Q j → mesT f P i = mesT f Q j := by
  induction i using Nat.strongRecOn with
  | _ i ih =>
    intro j hj h
    rcases step_cases hP hi with ⟨y, e1, y1⟩ | ⟨a, b, e1, a1, b1⟩
    · rcases step_cases hQ hj with ⟨z, e2, z1⟩ | ⟨c, d, e2, c1, d1⟩
      · rw [mesT_cite e1, mesT_cite e2]
      · rw [treT_cite e1, treT_det e2 c1 d1] at h
        simp [citT] at h
    · rcases step_cases hQ hj with ⟨z, e2, z1⟩ | ⟨c, d, e2, c1, d1⟩
      · rw [treT_det e1 a1 b1, treT_cite e2] at h
        simp [citT] at h
      · rw [treT_det e1 a1 b1, treT_det e2 c1 d1] at h
        simp only [List.cons.injEq, true_and] at h
        obtain ⟨h1, h2⟩ := tree_two hg hg hP hQ (by omega) (by omega) (by omega) (by omega) h
        rw [mesT_det e1 a1 b1, mesT_det e2 c1 d1, ih a a1 (by omega) c (by omega) h1, ih b b1 (by omega) d (by omega) h2]

theorem set_up (b : List Bool) (m i : Nat) (h : b.getD i false = true) : (b.set m true).getD i false = true := by
  rw [List.getD_eq_getElem?_getD] at h ⊢
  rw [List.getElem?_set]
  by_cases hm : m = i
  · rw [if_pos hm]
    by_cases hl : m < b.length
    · rw [if_pos hl]; rfl
    · rw [← hm, List.getElem?_eq_none (by omega)] at h
      cases h
  · rw [if_neg hm]; exact h
theorem set_new (b : List Bool) {m : Nat} (h : m < b.length) : (b.set m true).getD m false = true := by
  rw [List.getD_eq_getElem?_getD, List.getElem?_set_self h]; rfl
theorem set_off (b : List Bool) {m i : Nat} (h : m ≠ i) : (b.set m true).getD i false = b.getD i false := by
  rw [List.getD_eq_getElem?_getD, List.getElem?_set_ne h, ← List.getD_eq_getElem?_getD]
theorem nd_up (pp : List Stp) (k : Nat) (b : List Bool) (i : Nat) (h : b.getD i false = true) : (ndStep pp k b).getD i false = true := by
  unfold ndStep
  split
  · exact set_up _ _ _ (set_up _ _ _ h)
  · exact h
theorem needT_up (pp : List Stp) (i j : Nat) (h : (needT pp j).getD i false = true) : ∀ m, (needT pp (j + m)).getD i false = true
  | 0 => h
  | m + 1 => by
    rw [← Nat.add_assoc, needT]
    exact nd_up _ _ _ _ (needT_up pp i j h m)
theorem nd_off {g : Int} {pp : List Stp} (hp : stepsTo g pp pp.length) {k i : Nat} (hk : k < pp.length) (hi : k ≤ i) (b : List Bool) : (ndStep pp k b).getD i false = b.getD i false := by
  unfold ndStep
  split
  · rename_i hc
    rcases step_cases hp hk with ⟨y, e1, y1⟩ | ⟨c, d, e1, c1, d1⟩
    · have : pp.getD k (0, 0, 0) = (1, (y : Int), 0) := by rw [List.getD_eq_getElem?_getD, e1]; rfl
      rw [this] at hc
      simp at hc
    · have : pp.getD k (0, 0, 0) = (2, (c : Int), (d : Int)) := by rw [List.getD_eq_getElem?_getD, e1]; rfl
      rw [this]
      simp only [Int.toNat_natCast]
      rw [set_off _ (by omega), set_off _ (by omega)]
  · rfl
theorem needT_off {g : Int} {pp : List Stp} (hp : stepsTo g pp pp.length) {i j : Nat} (hj : pp.length ≤ i + 1 + j) (hi : i < pp.length) : ∀ m, j + m ≤ pp.length → (needT pp (j + m)).getD i false = (needT pp j).getD i false
  | 0, _ => rfl
  | m + 1, h => by
    rw [← Nat.add_assoc, needT, nd_off hp (by omega) (by omega), needT_off hp hj hi m (by omega)]
/-- The last step is needed. -/
theorem need_last {pp : List Stp} (h : 1 ≤ pp.length) : (needB pp).getD (pp.length - 1) false = true := by
  have h0 : (needT pp 0).getD (pp.length - 1) false = true := by
    unfold needT flg0
    exact set_new _ (by rw [List.length_replicate]; omega)
  have := needT_up pp _ 0 h0 pp.length
  rw [Nat.zero_add] at this
  exact this
/-- What a needed step detaches is needed. -/
theorem need_down {g : Int} {pp : List Stp} (hp : stepsTo g pp pp.length) (k a b : Nat) (hk : k < pp.length ∧ (needB pp).getD k false = true) (hx : pp[k]? = some (2, (a : Int), (b : Int))) :
    (a < pp.length ∧ (needB pp).getD a false = true) ∧ (b < pp.length ∧ (needB pp).getD b false = true) := by
  obtain ⟨hk, hn⟩ := hk
  obtain ⟨a1, b1⟩ : a < k ∧ b < k := by
    rcases stepOk_num (hp k hk _ hx) with ⟨z1, _⟩ | ⟨_, z2, z3, z4, z5⟩
    · simp at z1
    · simp only at z3 z5
      omega
  have hj : (needT pp (pp.length - 1 - k)).getD k false = true := by
    have := needT_off hp (i := k) (j := pp.length - 1 - k) (by omega) hk (k + 1) (by omega)
    rw [← this, show pp.length - 1 - k + (k + 1) = pp.length by omega]
    exact hn
  have hd : pp.getD k (0, 0, 0) = (2, (a : Int), (b : Int)) := by rw [List.getD_eq_getElem?_getD, hx]; rfl
  have hs : needT pp (pp.length - 1 - k + 1) = ((needT pp (pp.length - 1 - k)).set a true).set b true := by
    rw [needT, show pp.length - (pp.length - 1 - k + 1) = k by omega]
    unfold ndStep
    rw [hd, if_pos ⟨hj, rfl⟩]
    simp only [Int.toNat_natCast]
  have ha : (needT pp (pp.length - 1 - k + 1)).getD a false = true := by
    rw [hs]
    exact set_up _ _ _ (set_new _ (by rw [needT_len]; omega))
  have hb : (needT pp (pp.length - 1 - k + 1)).getD b false = true := by
    rw [hs]
    exact set_new _ (by rw [List.length_set, needT_len]; omega)
  refine ⟨⟨by omega, ?_⟩, by omega, ?_⟩
  · have := needT_up pp _ _ ha k
    rw [show pp.length - 1 - k + 1 + k = pp.length by omega] at this
    exact this
  · have := needT_up pp _ _ hb k
    rw [show pp.length - 1 - k + 1 + k = pp.length by omega] at this
    exact this

/-- What the reader's steps are so far, each with the tree of a step of N. -/
structure ReadAt (N : Nat → Prop) (g : Int) (pp P : List Stp) : Prop where
  ok : stepsTo g P P.length
  nd : P.Nodup
  of : ∀ i, i < P.length → ∃ k, k < pp.length ∧ N k ∧ treT pp k = treT P i
theorem ReadAt.nil (N : Nat → Prop) (g : Int) (pp : List Stp) : ReadAt N g pp [] := ⟨fun j h => by simp at h, List.nodup_nil, fun i h => by simp at h⟩
/-- A step put in its place. -/
theorem place_at {N : Nat → Prop} {g : Int} {pp P : List Stp} {x : Stp} {t : List UInt8} (h : ReadAt N g pp P) (hx : stepOk g P.length x = true) (ht : ∀ Q i, Q[i]? = some x → (∃ S, Q = P ++ S) → P.length ≤ Q.length → i < Q.length → stepOk g i x = true → treT Q i = t)
    (hk : ∃ k, k < pp.length ∧ N k ∧ treT pp k = t) :
    ReadAt N g pp (placeS P x).2 ∧ (∃ S, (placeS P x).2 = P ++ S) ∧ (placeS P x).1 < (placeS P x).2.length ∧ treT (placeS P x).2 (placeS P x).1 = t ∧ ∀ k, P.length ≤ k → k < (placeS P x).2.length → k = (placeS P x).1 ∧ k + 1 = (placeS P x).2.length := by
  unfold placeS
  by_cases hc : P.contains x = true
  · rw [if_pos hc]
    have hm := List.contains_iff_mem.1 hc
    have hl := List.idxOf_lt_length_iff.2 hm
    have hg : P[P.idxOf x]? = some x := by
      rw [List.getElem?_eq_getElem hl, List.getElem_idxOf hl]
    refine ⟨h, ⟨[], by simp⟩, hl, ?_, fun k h1 h2 => ?_⟩
    · exact ht P _ hg ⟨[], by simp⟩ (Nat.le_refl _) hl (h.ok _ hl _ hg)
    · simp only at h2; omega
  · rw [if_neg hc]
    have hnm : x ∉ P := fun hm => hc (List.contains_iff_mem.2 hm)
    have hg : (P ++ [x])[P.length]? = some x := by simp
    have htr : treT (P ++ [x]) P.length = t := ht _ _ hg ⟨[x], rfl⟩ (by simp) (by simp) hx
    refine ⟨⟨stepsTo_snoc h.ok hx, ?_, fun i hi => ?_⟩, ⟨[x], rfl⟩, by simp, htr, fun k h1 h2 => ?_⟩
    · rw [List.nodup_append]
      refine ⟨h.nd, by simp, fun a ha b hb => ?_⟩
      rw [List.mem_singleton] at hb
      rintro rfl
      exact hnm (hb ▸ ha)
    · rw [List.length_append, List.length_singleton] at hi
      by_cases hil : i < P.length
      · rw [treT_pre _ hil]
        exact h.of i hil
      · obtain rfl : i = P.length := by omega
        rw [htr]
        exact hk
    · simp only [List.length_append, List.length_singleton] at h2 ⊢
      omega
/-- The reader reads a tree's text to its end; each of its steps has the tree of a step that is reached from there. -/
theorem plant_at {N : Nat → Prop} {g : Int} (hg : g ≤ 60) {pp : List Stp} (hp : stepsTo g pp pp.length) (hN : ∀ k a b : Nat, N k → pp[k]? = some (2, (a : Int), (b : Int)) → N a ∧ N b) (j : Nat) (hj : j < pp.length) (hNj : N j) :
    ∀ (f : Nat) (P : List Stp) (r : List UInt8), ReadAt N g pp P → (treT pp j ++ r).length < f →
      ∃ i P', plant g f P (treT pp j ++ r) = (some i, P', r) ∧ ReadAt N g pp P' ∧ (∃ S, P' = P ++ S) ∧ i < P'.length ∧ treT P' i = treT pp j ∧
        ∀ k, P.length ≤ k → k < P'.length → (treT P' k).length < (treT pp j).length ∨ k = i ∧ k + 1 = P'.length := by
  induction j using Nat.strongRecOn with
  | _ j ih =>
    intro f P r hP hf
    obtain ⟨f, rfl⟩ : ∃ f', f = f' + 1 := ⟨f - 1, by omega⟩
    rw [plant_succ]
    rcases step_cases hp hj with ⟨y, e1, y1⟩ | ⟨a, b, e1, a1, b1⟩
    · have htt := treT_cite e1
      rw [htt, if_neg (by simp [citT])]
      unfold plantC
      rw [citF_citT y1 (by omega) r]
      simp only [if_true]
      have h0 : 0 ≤ (y : Int) := by omega
      have hso : ∀ i : Int, stepOk g i (1, (y : Int), 0) = true := fun i => by
        unfold stepOk
        rw [if_pos rfl, decide_eq_true (show 0 ≤ (y : Int) ∧ (y : Int) < g from ⟨h0, y1⟩)]
        rfl
      obtain ⟨q1, q2, q3, q4, q5⟩ := place_at (t := citT (y : Int)) hP (hso _) (fun Q i hq _ _ _ _ => treT_cite hq) ⟨j, hj, hNj, htt⟩
      exact ⟨_, _, by rfl, q1, q2, q3, q4, fun k h1 h2 => .inr (q5 k h1 h2)⟩
    · have htt := treT_det e1 a1 b1
      have hlen : (treT pp j).length = (treT pp a).length + (treT pp b).length + 1 := by rw [htt]; simp
      have hpos : ∀ k, k < pp.length → 1 ≤ (treT pp k).length := fun k hk => by
        obtain ⟨d, _, h2⟩ := tree_len hp k hk
        omega
      have pa := hpos a (by omega)
      have pb := hpos b (by omega)
      rw [List.length_append] at hf
      rw [htt, if_pos (by simp), List.cons_append, List.tail_cons, List.append_assoc]
      obtain ⟨i1, P1, c1, c2, ⟨S1, c3⟩, c4, c5, c6⟩ := ih a a1 (by omega) (hN j a b hNj e1).1 f P (treT pp b ++ r) hP (by rw [List.length_append, List.length_append]; omega)
      obtain ⟨i2, P2, d1, d2, ⟨S2, d3⟩, d4, d5, d6⟩ := ih b b1 (by omega) (hN j a b hNj e1).2 f P1 r c2 (by rw [List.length_append]; omega)
      rw [c1]
      simp only [plantA]
      rw [d1]
      simp only [plantB]
      have hi1 : i1 < P2.length := by rw [d3, List.length_append]; omega
      have t1 : treT P2 i1 = treT pp a := by rw [d3, treT_pre _ c4, c5]
      have hso : stepOk g (P2.length : Int) (2, (i1 : Int), (i2 : Int)) = true := by
        unfold stepOk
        rw [if_neg (by simp), if_pos rfl, decide_eq_true (show 0 ≤ (i1 : Int) ∧ (i1 : Int) < (P2.length : Int) by omega), decide_eq_true (show 0 ≤ (i2 : Int) ∧ (i2 : Int) < (P2.length : Int) by omega)]
        rfl
      obtain ⟨q1, ⟨S3, q2⟩, q3, q4, q5⟩ := place_at (x := (2, (i1 : Int), (i2 : Int))) (t := 68 :: (treT pp a ++ treT pp b)) d2 hso (fun Q i hq hS _ _ hok => by
        obtain ⟨S, hS⟩ := hS
        rcases stepOk_num hok with ⟨z1, _⟩ | ⟨_, z2, z3, z4, z5⟩
        · simp at z1
        · simp only at z3 z5
          rw [treT_det hq (by omega) (by omega), hS, treT_pre _ hi1, treT_pre _ d4, t1, d5]) ⟨j, hj, hNj, htt⟩
      refine ⟨_, _, rfl, q1, ⟨S1 ++ S2 ++ S3, by rw [q2, d3, c3]; simp⟩, q3, q4, fun k h1 h2 => ?_⟩
      by_cases hk2 : P2.length ≤ k
      · exact .inr (q5 k hk2 h2)
      · left
        rw [q2, treT_pre _ (by omega)]
        by_cases hk1 : P1.length ≤ k
        · rcases d6 k hk1 (by omega) with h | ⟨h, _⟩
          · simp only [List.length_cons, List.length_append]; omega
          · rw [h, d5]; simp only [List.length_cons, List.length_append]; omega
        · rw [d3, treT_pre _ (by omega)]
          rcases c6 k h1 (by omega) with h | ⟨h, _⟩
          · simp only [List.length_cons, List.length_append]; omega
          · rw [h, c5]; simp only [List.length_cons, List.length_append]; omega

/-- The reader has no more steps than were needed. -/
theorem read_needed {g : Int} {pp q : List Stp} (hok : proofOk g pp = true) (hl : (treT pp (pp.length - 1)).length ≤ 65536) (hq : untreeZ g (treT pp (pp.length - 1)) = (q, 0)) :
    q.length ≤ (idxT (needB pp) pp.length).length := by
  obtain ⟨hg, hl60, hp⟩ := proofOk_to hok
  obtain ⟨i, P, h1, h2, ⟨S, h3⟩, h4, h5, h6⟩ := plant_at (N := fun k => k < pp.length ∧ (needB pp).getD k false = true) hg.2 hp (need_down hp) (pp.length - 1) (by omega) ⟨by omega, need_last (by omega)⟩ ((treT pp (pp.length - 1)).length + 1) [] [] (ReadAt.nil _ g pp) (by simp)
  rw [List.append_nil] at h1
  have hPq : P = q := by
    unfold untreeZ at hq
    rw [h1, if_neg (by omega), if_neg (by omega), if_neg (by simp)] at hq
    split at hq
    · simp at hq
    · simpa using hq
  subst hPq
  have hn : ((List.range P.length).map (treT P)).Nodup := by
    unfold List.Nodup
    rw [List.pairwise_map]
    refine List.Pairwise.imp_of_mem ?_ List.nodup_range
    intro a b ha hb hab e
    exact hab (tree_own hg.2 h2.ok h2.nd a (List.mem_range.1 ha) b (List.mem_range.1 hb) e)
  have := le_of_nodup _ ((idxT (needB pp) pp.length).map fun z => treT pp z.toNat) hn (fun x hx => by
    obtain ⟨i, hi, rfl⟩ := List.mem_map.1 hx
    obtain ⟨k, hk, hN, e⟩ := h2.of i (List.mem_range.1 hi)
    exact List.mem_map.2 ⟨(k : Int), (idxT_mem _ _ _).2 ⟨k, hk, rfl, hN.2⟩, by rw [Int.toNat_natCast]; exact e⟩)
  simpa using this
theorem cntT_mes (pp : List Stp) (j : Nat) : cntT pp j = mesT cntF pp j := rfl
theorem mes_end (f : Int → Int → Int) {pp : List Stp} (h : 1 ≤ pp.length) : (mesL f pp pp.length).getD (pp.length - 1) 0 = mesT f pp (pp.length - 1) := by
  unfold mesT
  exact mesL_at f pp (by omega)
/-- All that KernelTrees says of a proof whose tree is short enough. -/
theorem trees_all {g : Int} {pp : List Stp} (hok : proofOk g pp = true) (hl : (treT pp (pp.length - 1)).length ≤ 65536) :
    ∃ q N H, untreeZ g (treT pp (pp.length - 1)) = (q, 0) ∧ proofOk g q = true ∧ neeZ g pp = (idxT (needB pp) pp.length, 0) ∧ q.length ≤ (idxT (needB pp) pp.length).length ∧ treZ g q = (treT pp (pp.length - 1), 0) ∧
      cntZ g pp = (N, 0) ∧ cntZ g q = (N, 0) ∧ hgtZ g pp = (H, 0) ∧ hgtZ g q = (H, 0) := by
  obtain ⟨hg, hl60, hp⟩ := proofOk_to hok
  obtain ⟨q, q1, q2, q3, q4, q5⟩ := untree_tree hok hl
  have hqok := read_ok hok q2 q3 q4
  have hle := read_needed hok hl q1
  have hc := same_mes (f := cntF) hg.2 q2.ok hp (q.length - 1) (by omega) (pp.length - 1) (by omega) q5
  have hh := same_mes (f := hgtF) hg.2 q2.ok hp (q.length - 1) (by omega) (pp.length - 1) (by omega) q5
  have hcl : mesT cntF pp (pp.length - 1) ≤ 1000000000000000 := by
    obtain ⟨d, d1, d2⟩ := tree_len hp (pp.length - 1) (by omega)
    rw [cntT_mes] at d1
    omega
  refine ⟨q, mesT cntF pp (pp.length - 1), mesT hgtF pp (pp.length - 1), q1, hqok, ?_, hle, ?_, ?_, ?_, ?_, ?_⟩
  · unfold neeZ; rw [if_pos hok]
  · unfold treZ; rw [if_pos hqok, q5, if_neg (by omega)]
  · unfold cntZ; rw [if_pos hok, mes_end _ (by omega), if_neg (by omega)]
  · unfold cntZ; rw [if_pos hqok, mes_end _ q3, hc, if_neg (by omega)]
  · unfold hgtZ; rw [if_pos hok, mes_end _ (by omega)]
  · unfold hgtZ; rw [if_pos hqok, mes_end _ q3, hh]

end Go.Proofs.Ytippmpcaongolaa

/- Contract: the reference's Tree. -/
namespace Go.Proofs.Ytippmpcaongolaa
open Go.RowKit

/-- The reference's sums for trees are how long they are, as far as they go. -/
theorem sum_tre {g : Int} {pp : List Stp} (hp : stepsTo g pp pp.length) : ∀ k, k ≤ pp.length → ∀ j, j < k → (sumL 3 65536 pp k).getD j 0 = capM 65536 ((treT pp j).length : Int)
  | 0, _, j, hj => by omega
  | k + 1, hk, j, hj => by
    by_cases h : j < k
    · rw [sumL_old _ _ _ h]
      exact sum_tre hp k (by omega) j h
    · obtain rfl : j = k := by omega
      rw [sumL_last]
      have ih := sum_tre hp j (by omega)
      unfold sumA
      rcases step_cases hp (show j < pp.length by omega) with ⟨y, e1, y1⟩ | ⟨a, b, e1, a1, b1⟩
      · rw [show pp.getD j (0, 0, 0) = (1, (y : Int), 0) from by rw [List.getD_eq_getElem?_getD, e1]; rfl, treT_cite e1]
        rfl
      · rw [show pp.getD j (0, 0, 0) = (2, (a : Int), (b : Int)) from by rw [List.getD_eq_getElem?_getD, e1]; rfl]
        simp only [Int.toNat_natCast, if_true]
        rw [ih a a1, ih b b1, treT_det e1 a1 b1]
        obtain ⟨da, _, la⟩ := tree_len hp a (by omega)
        obtain ⟨db, _, lb⟩ := tree_len hp b (by omega)
        rw [capM_add (by omega) (by omega) (by omega)]
        unfold cntF
        congr 1
        simp only [List.length_cons, List.length_append]
        omega
/-- What the reference writes of step j: nothing where it is too long. -/
def refTx (pp : List Stp) (j : Nat) : ByteArray := if (treT pp j).length > 65536 then ⟨#[]⟩ else ⟨(treT pp j).toArray⟩
def refTL (pp : List Stp) (k : Nat) : List Value := (List.range k).map fun j => .string (refTx pp j)
theorem refTL_snoc (pp : List Stp) (k : Nat) : refTL pp (k + 1) = refTL pp k ++ [.string (refTx pp k)] := by
  unfold refTL
  rw [List.range_succ, List.map_append]
  rfl
theorem refTx_size (pp : List Stp) (j : Nat) : (refTx pp j).size ≤ 65536 := by
  unfold refTx
  split
  · exact Nat.zero_le _
  · show (treT pp j).toArray.size ≤ 65536
    rw [List.size_toArray]
    omega
theorem refTx_det {pp : List Stp} {j a b : Nat} (hx : pp[j]? = some (2, (a : Int), (b : Int))) (ha : a < j) (hb : b < j) (h : (treT pp j).length ≤ 65536) : refTx pp j = (⟨#[68]⟩ : ByteArray) ++ refTx pp a ++ refTx pp b := by
  have e := treT_det hx ha hb
  have hl : (treT pp j).length = (treT pp a).length + (treT pp b).length + 1 := by rw [e]; simp
  unfold refTx
  rw [if_neg (by omega), if_neg (by omega), if_neg (by omega), e]
  rw [show (⟨#[68]⟩ : ByteArray) = ⟨([68] : List UInt8).toArray⟩ from rfl, ByteArray.mk_append_mk, ByteArray.mk_append_mk]
  rfl
theorem info_str4 : (Try.prog.info? 9).map (fun i => (i.zero, i.size, i.bytes)) = some (some (.string ⟨#[]⟩), 1, 16) := by kernel_rfl
theorem row_str_at {w : World} {base n : Nat} {v : Value} {pp : List Stp} (h : w.ownsRow base 9 1 v n (refTL pp n)) (h1 : 0 < n) :
    ∃ g c, v = .slice (some ⟨g, 0, none⟩) n c ∧ base ≤ g ∧ g < w.heap.size ∧ ∀ j, j < n → w.cell? ⟨g, j, none⟩ = some (.string (refTx pp j)) := by
  obtain ⟨hl, ⟨rfl, rfl⟩ | ⟨g, cap, cur, rfl, hbg, hcur, hn1, hn2, hsz, htk⟩⟩ := h
  · omega
  · refine ⟨g, cap, rfl, hbg, Blk.lt (t := 9) hcur, fun j hj => ?_⟩
    have hj' : j < n * 1 := by omega
    rw [Blk.cell (t := 9) hcur]
    have e1 : cur.toList[j]? = (cur.toList.take (n * 1))[j]? := by rw [List.getElem?_take, if_pos hj']
    rw [← Array.getElem?_toList, e1, htk]
    unfold refTL
    rw [List.getElem?_map, List.getElem?_range hj]
    rfl
theorem digs_cut : ∀ d, d < 10 → (⟨#[48, 49, 50, 51, 52, 53, 54, 55, 56, 57]⟩ : ByteArray).extract d (d + 1) = ⟨#[UInt8.ofNat (48 + d)]⟩ := by decide +kernel

set_option maxRecDepth 100000 in
theorem two_any (y : Nat) (hy : y < 100) (w : World) :
    Calls Try.prog 105 #[.int .i64 (y : Int)] w fun e w' => e = .returned (.string ⟨#[UInt8.ofNat (48 + y / 10), UInt8.ofNat (48 + y % 10)]⟩) ∧ ∃ j, w' = w.drewN j := by
  go_enter Try.func105, Try.ntmps105
  go_wp2_with fail
  go_quiet (fail)
  go_wp2_with fail
  go_ret
  exact ⟨by rw [digs_cut _ (by omega), digs_cut _ (by omega)]; rfl, _, rfl⟩

set_option maxRecDepth 100000 in
set_option maxHeartbeats 2000000 in
theorem refTree_any (g : Int) (A : Option Addr) (n c : Nat) (pp : List Stp) (w : World) (hp : StepsAt w w.heap.size A n pp) :
    Calls Try.prog 52 #[.int .i64 g, .slice A n c] w (RetX w (treZ g pp)) := by
  have CV := Lib.hid (refValidProof_any g A n c pp w hp)
  cases hv : proofOk g pp
  · rw [hv] at CV
    rw [show treZ g pp = ([], 1) from by unfold treZ; rw [hv]; rfl]
    clear hv hp
    go_enter Try.func52, Try.ntmps52
    go_wp2_with (go_at_call 103; ((with_reducible refine CV.out.mono ?_); rintro e w1 ⟨rfl, hB1⟩; have HB1 := Lib.hid hB1; clear hB1))
    go_ret2
    exact ⟨rfl, HB1.out⟩
  · rw [hv] at CV
    obtain ⟨hg0, hl60, hto⟩ := proofOk_to hv
    have hlp := hp.len
    obtain ⟨m, rfl⟩ : ∃ m, n = m + 1 := ⟨n - 1, by omega⟩
    have hm60 : m + 1 ≤ 60 := by omega
    have hg60 := hg0.2
    obtain ⟨i0, hi, hz0, hz1, hz2⟩ := info_parts info_str4
    have CS := Lib.hid (fun V (h : Below w.heap.size w V) => (sums_any 3 65536 g A (m + 1) c pp V (hp.up h) hv (by omega) (by omega) (by omega) (by omega)).mono (R' := fun e w' => ∃ b off c', e = .returned (.slice (some ⟨b, off, none⟩) (m + 1) c') ∧ b < w'.heap.size ∧ (∀ j : Nat, j < m + 1 → w'.cell? ⟨b, off + j, none⟩ = some (.int .i64 (capM 65536 ((treT pp j).length : Int)))) ∧ Below V.heap.size V w') fun e w' ⟨A', c', h1, h2, h3⟩ => by
      obtain ⟨b, off, rfl, hb, hc⟩ := h2.mem (by omega)
      refine ⟨b, off, c', h1, hb, fun j hj => ?_, h3⟩
      have hjl : j < (sumL 3 65536 pp (m + 1)).length := by rw [sumL_len]; exact hj
      rw [hc j hjl, ← sum_tre hto (m + 1) (by omega) j hj, List.getD_eq_getElem?_getD, List.getElem?_eq_getElem hjl]
      rfl)
    have HTO := Lib.hid (fun k (hk : k < m + 1) (x : Stp) (hx : pp[k]? = some x) => show (x.1 = 1 ∧ 0 ≤ x.2.1 ∧ x.2.1 < g ∧ x.2.2 = 0) ∨ (x.1 = 2 ∧ 0 ≤ x.2.1 ∧ x.2.1 < (k : Int) ∧ 0 ≤ x.2.2 ∧ x.2.2 < (k : Int)) from stepOk_num (hto k (by omega) x hx))
    have hz : treZ g pp = if (treT pp m).length > 65536 then ([], 3) else (treT pp m, 0) := by unfold treZ; rw [if_pos hv, ← hlp, Nat.add_sub_cancel]
    rw [hz]
    have HP := Lib.hid hp
    have hm0 : (0 : Int) ≤ (m : Int) := by omega
    have hm1 : (m : Int) < ((m + 1 : Nat) : Int) := by omega
    by_cases hlong : (treT pp m).length > 65536
    · rw [if_pos hlong]
      have HC := Lib.hid (show capM 65536 ((treT pp m).length : Int) = 65537 from by unfold capM; rw [if_pos (by omega)]; rfl)
      clear hv hp hg0 hl60 hto hlp hz hlong HTO hi hz0 hz1 hz2
      go_enter Try.func52, Try.ntmps52
      go_wp2_with (first
        | (go_at_call 103; ((with_reducible refine CV.out.mono ?_); rintro e w1 ⟨rfl, hB1⟩; have HB1 := Lib.hid hB1; clear hB1))
        | (go_at_call 104
           (with_reducible refine (CS.out _ HB1.out).mono ?_)
           rintro e w2 ⟨b2, o2, c2, rfl, _, hcell, hB2⟩
           have hcm := hcell m (by omega)
           rw [HC.out] at hcm
           have HB2 := Lib.hid (below_then HB1.out hB2)
           clear hB2 hcell))
      go_ret2
      exact ⟨rfl, HB2.out⟩
    · rw [if_neg hlong]
      have HC := Lib.hid (show capM 65536 ((treT pp m).length : Int) = ((treT pp m).length : Int) from by unfold capM; rw [if_neg (by omega)])
      have HRX := Lib.hid (show refTx pp m = ⟨(treT pp m).toArray⟩ from by unfold refTx; rw [if_neg hlong])
      obtain ⟨TL, hTL⟩ : ∃ TL : Int, ((treT pp m).length : Int) = TL := ⟨_, rfl⟩
      have hTL1 : TL ≤ 65536 := by omega
      rw [hTL] at HC
      have HTL := Lib.hid hTL
      clear hv hp hg0 hl60 hto hlp hz hlong hTL
      go_enter Try.func52, Try.ntmps52
      go_wp2_with (first
        | (go_at_call 103; ((with_reducible refine CV.out.mono ?_); rintro e w1 ⟨rfl, hB1⟩; have HB1 := Lib.hid hB1; clear hB1))
        | (go_at_call 104
           (with_reducible refine (CS.out _ HB1.out).mono ?_)
           rintro e W2 ⟨b2, o2, c2, rfl, hb2, hcell, hB2⟩
           have hcm := hcell m (by omega)
           rw [HTL.out, HC.out] at hcm
           have HCELL := Lib.hid hcell
           have HB12 := Lib.hid (below_then HB1.out hB2)
           clear hB2 hcell))
      go_loopw [7, 8] (fun v i wr => ∃ (k : Nat) (Av : Option Addr) (cv : Nat), k ≤ m + 1 ∧ i = .int .i64 k ∧ v = .slice Av k cv ∧ wr.ownsRow W2.heap.size 9 1 (.slice Av k cv) k (refTL pp k) ∧ Below W2.heap.size W2 wr) (fun _ i _ => m + 1 - (intOf i).toNat)
      case atStart => exact ⟨0, none, 0, Nat.zero_le _, rfl, rfl, World.ownsRow_nil _ _ _ _, Below.refl _ _⟩
      case round =>
        obtain ⟨k, Av, cv, hk, rfl, rfl, hrow, hB⟩ := hrel
        have HB := Lib.hid hB
        have HR := Lib.hid hrow
        by_cases hlt : k < m + 1
        · obtain ⟨b, off, x, y, z, rfl, hb', q1, q2, q3, q4⟩ := HP.out.cellAt hlt
          have hBw : Below w.heap.size w wr := below_then HB12.out hB
          have r1 := (hBw.cell (p := ⟨b, off + k * 3, none⟩) hb').trans q1
          have r2 := (hBw.cell (p := ⟨b, off + k * 3 + 1, none⟩) hb').trans q2
          have r3 := (hBw.cell (p := ⟨b, off + k * 3 + 2, none⟩) hb').trans q3
          have hk0 : (0 : Int) ≤ (k : Int) := by omega
          have hk1 : (k : Int) < ((m + 1 : Nat) : Int) := by omega
          have hck := (hB.cell (p := ⟨b2, o2 + k, none⟩) hb2).trans (HCELL.out k hlt)
          rcases HTO.out k hlt _ q4 with ⟨h1, h2, h3, h4⟩ | ⟨h1, h2, h3, h4, h5⟩
          · simp only at h1 h2 h3 h4
            subst h1
            subst h4
            obtain ⟨yn, rfl⟩ := Int.eq_ofNat_of_zero_le h2
            have hyn : yn < 100 := by omega
            have HN := Lib.hid (show refTL pp (k + 1) = refTL pp k ++ [.string ((⟨#[103]⟩ : ByteArray) ++ ⟨#[UInt8.ofNat (48 + yn / 10), UInt8.ofNat (48 + yn % 10)]⟩)] from by
              rw [refTL_snoc]
              congr 2
              unfold refTx
              rw [treT_cite q4, if_neg (by simp [citT])]
              rfl)
            have C2 := Lib.hid (fun V => two_any yn hyn V)
            obtain ⟨D, hD⟩ : ∃ D, (⟨#[UInt8.ofNat (48 + yn / 10), UInt8.ofNat (48 + yn % 10)]⟩ : ByteArray) = D := ⟨_, rfl⟩
            have hDs : D.size = 2 := by rw [← hD]; rfl
            have h103 : (⟨#[103]⟩ : ByteArray).size = 1 := rfl
            simp only [hD] at C2
            rw [hD] at HN
            clear hrow hB hBw q1 q2 q3 q4 h2 h3 hck hD r3
            go_wp2_with (first
              | (go_at_call 105
                 (with_reducible refine (C2.out _).mono ?_)
                 rintro e w3 ⟨rfl, j3, hw3⟩
                 have HR3 := Lib.hid (show w3.ownsRow W2.heap.size 9 1 (.slice Av k cv) k (refTL pp k) from by rw [hw3]; exact row_below HR.out (below_drewN (Below.refl _ _) j3))
                 have HB3 := Lib.hid (show Below W2.heap.size W2 w3 from by rw [hw3]; exact below_drewN HB.out j3)
                 clear hw3)
              | (at_builtin
                 refine wpList_append_own_at _ rfl _ _ 131 rfl W2.heap.size 9 i0 _ 1 16 Try.underlying131 hi hz0 hz1 hz2 rfl (by omega) (.slice Av k cv) k (refTL pp k) rfl (row_below HR3.out (bel_al (Below.refl _ _) _)) ⟨w3.heap.size, 0, none⟩ 1 1 [.string ((⟨#[103]⟩ : ByteArray) ++ D)] rfl rfl
                   (World.news_of_block (cs := #[.string ((⟨#[103]⟩ : ByteArray) ++ D)]) (t := 9) (fr := (0, 0)) (heap_alloc_new w3 _)) (by simp [Value.oneCell']) (by unfold maxLen; omega) (by omega) (by have := HB3.out.size; simp only [World.size_alloc]; (first | omega | (show W2.heap.size ≤ w3.heap.size + 1; omega))) ?_
                 intro v5 w5 hown5 hg5 _ _
                 have HO5 := Lib.hid hown5
                 obtain ⟨g5, cap5, rfl, _⟩ := hown5.form (by omega)
                 have HB5 := Lib.hid ((bel_al HB3.out _).grown hg5 (by have := HB3.out.size; simp only [World.size_alloc]; (first | omega | (show W2.heap.size ≤ w3.heap.size + 1; omega))) (fun j e => (HR3.out.lt j e).1))
                 clear hown5 hg5))
            go_roundw
            case rel => exact ⟨k + 1, _, _, by omega, by go_num, rfl, by rw [HN.out]; exact HO5.out, HB5.out⟩
            case measure => simp [intOf]; omega
          · simp only at h1 h2 h3 h4 h5
            subst h1
            obtain ⟨yn, rfl⟩ := Int.eq_ofNat_of_zero_le h2
            obtain ⟨zn, rfl⟩ := Int.eq_ofNat_of_zero_le h4
            have hyn : yn < k := by omega
            have hzn : zn < k := by omega
            by_cases hkl : (treT pp k).length > 65536
            · have HN := Lib.hid (show refTL pp (k + 1) = refTL pp k ++ [.string ⟨#[]⟩] from by
                rw [refTL_snoc]
                congr 2
                unfold refTx
                rw [if_pos hkl])
              rw [show capM 65536 ((treT pp k).length : Int) = 65537 from by unfold capM; rw [if_pos (by omega)]; rfl] at hck
              clear hrow hB hBw q1 q2 q3 q4 h2 h3 h4 h5 r2 r3 hkl
              go_wp2_with (first
                | (at_builtin
                   refine wpList_append_own_at _ rfl _ _ 131 rfl W2.heap.size 9 i0 _ 1 16 Try.underlying131 hi hz0 hz1 hz2 rfl (by omega) (.slice Av k cv) k (refTL pp k) rfl (row_below HR.out (bel_al (Below.refl _ _) _)) ⟨wr.heap.size, 0, none⟩ 1 1 [.string ⟨#[]⟩] rfl rfl
                     (World.news_of_block (cs := #[.string ⟨#[]⟩]) (t := 9) (fr := (0, 0)) (heap_alloc_new wr _)) (by simp [Value.oneCell']) (by unfold maxLen; omega) (by omega) (by have := HB.out.size; simp only [World.size_alloc]; (first | omega | (show W2.heap.size ≤ wr.heap.size + 1; omega))) ?_
                   intro v5 w5 hown5 hg5 _ _
                   have HO5 := Lib.hid hown5
                   obtain ⟨g5, cap5, rfl, _⟩ := hown5.form (by omega)
                   have HB5 := Lib.hid ((bel_al HB.out _).grown hg5 (by have := HB.out.size; simp only [World.size_alloc]; (first | omega | (show W2.heap.size ≤ wr.heap.size + 1; omega))) (fun j e => (HR.out.lt j e).1))
                   clear hown5 hg5))
              go_roundw
              case rel => exact ⟨k + 1, _, _, by omega, by go_num, rfl, by rw [HN.out]; exact HO5.out, HB5.out⟩
              case measure => simp [intOf]; omega
            · have HN := Lib.hid (show refTL pp (k + 1) = refTL pp k ++ [.string ((⟨#[68]⟩ : ByteArray) ++ refTx pp yn ++ refTx pp zn)] from by rw [refTL_snoc, refTx_det q4 hyn hzn (by omega)])
              rw [show capM 65536 ((treT pp k).length : Int) = ((treT pp k).length : Int) from by unfold capM; rw [if_neg (by omega)]] at hck
              obtain ⟨KL, hKL⟩ : ∃ KL : Int, ((treT pp k).length : Int) = KL := ⟨_, rfl⟩
              have hKL1 : KL ≤ 65536 := by omega
              rw [hKL] at hck
              obtain ⟨gr, cr, er, hgr1, hgr2, hcl⟩ := row_str_at hrow (by omega)
              cases er
              have cy := hcl yn hyn
              have cz := hcl zn hzn
              have sy := refTx_size pp yn
              have sz := refTx_size pp zn
              obtain ⟨Y, hY⟩ : ∃ Y, refTx pp yn = Y := ⟨_, rfl⟩
              obtain ⟨Z, hZ⟩ : ∃ Z, refTx pp zn = Z := ⟨_, rfl⟩
              rw [hY] at cy sy HN
              rw [hZ] at cz sz HN
              have h68 : (⟨#[68]⟩ : ByteArray).size = 1 := rfl
              have h69 : ((⟨#[68]⟩ : ByteArray) ++ Y).size = 1 + Y.size := by rw [ByteArray.size_append]; rfl
              have y0 : (0 : Int) ≤ (yn : Int) := by omega
              have z0 : (0 : Int) ≤ (zn : Int) := by omega
              have y1 : (yn : Int) < (k : Int) := by omega
              have z1 : (zn : Int) < (k : Int) := by omega
              clear hrow hB hBw q1 q2 q3 q4 h2 h3 h4 h5 hkl hKL hcl hY hZ
              go_wp2_with fail
              have hc1 : ¬ 9223372036854775807 < 1 + Y.size := by omega
              have hc2 : ¬ 9223372036854775807 < 1 + Y.size + Z.size := by omega
              have hBD : Below W2.heap.size W2 (wr.drew.alloc (.cells #[.string ((⟨#[68]⟩ : ByteArray) ++ Y ++ Z)] 9)) := (HB.out.drew).alloc HB.out.size _
              have HBD := Lib.hid hBD
              have HRD := Lib.hid (show (wr.drew.alloc (.cells #[.string ((⟨#[68]⟩ : ByteArray) ++ Y ++ Z)] 9)).ownsRow W2.heap.size 9 1 (.slice (some ⟨gr, 0, none⟩) k cv) k (refTL pp k) from row_below HR.out (((Below.refl _ _).drew).alloc (Nat.le_refl _) _))
              clear hBD
              go_region_law ((refine step_append_lies _ (by rfl) _ _ _ (by rfl) W2.heap.size 9 i0 _ 1 16 Try.underlying131 hi hz0 hz1 hz2 (by rfl) (by omega) (.slice (some ⟨gr, 0, none⟩) k cv) k (refTL pp k) (by rfl) HRD.out ⟨wr.heap.size, 0, none⟩ 1 1 [.string ((⟨#[68]⟩ : ByteArray) ++ Y ++ Z)] (by rfl) (by rfl) (World.news_of_block (cs := #[.string ((⟨#[68]⟩ : ByteArray) ++ Y ++ Z)]) (t := 9) (fr := (0, 0)) (heap_alloc_new wr.drew _)) (by simp [Value.oneCell']) (by omega) (by unfold maxLen; omega) (by omega) HBD.out.size _ rfl ?_); intro g5 cap5 w5 hrow5 hg5 _ _; have HO5 := Lib.hid hrow5; have HB5 := Lib.hid (HBD.out.grown hg5 HBD.out.size (fun j e => (HRD.out.lt j e).1)); clear hrow5 hg5)
              all_goals
                go_wp2_with fail
                go_roundw
                case rel => exact ⟨k + 1, _, _, by omega, by go_num, rfl, by rw [HN.out]; exact HO5.out, HB5.out⟩
                case measure => simp [intOf]; omega
        · obtain rfl : m + 1 = k := by omega
          obtain ⟨gr, cr, er, hgr1, hgr2, hcl⟩ := row_str_at hrow (by omega)
          cases er
          have cy := hcl m (by omega)
          rw [HRX.out] at cy
          clear hB hrow hcl
          go_wp2
          go_ret2
          exact ⟨rfl, below_then HB12.out HB.out⟩

end Go.Proofs.Ytippmpcaongolaa

namespace Go.Proofs.Ytippmpcaongolaa
open Go.RowKit

set_option maxRecDepth 100000 in
set_option maxHeartbeats 4000000 in
theorem kt_light (g : Int) (A : Option Addr) (n c : Nat) (pp : List Stp) (w : World) (_hp : StepsAt w w.heap.size A n pp) (h2 : ¬ n ≤ 100) :
    Calls Try.prog 9 #[.int .i64 g, .slice A n c] w fun e w' => e = .returned (.bool true) ∧ Below w.heap.size w w' := by
  have HL := Lib.hid (light_any A n c w)
  rw [decide_eq_false h2] at HL
  clear _hp h2
  go_enter Try.func9, Try.ntmps9
  go_wp2_with (first
    | (go_at_call 43; ((with_reducible refine HL.out.mono ?_); rintro e V1 ⟨rfl, rfl⟩))
    | (go_at_call 35; refine (awake4_any _).mono ?_; rintro e Vz ⟨rfl, hBz⟩; have HBz := Lib.hid (hBz); clear hBz))
  go_ret
  exact ⟨rfl, HBz.out⟩

set_option maxRecDepth 100000 in
set_option maxHeartbeats 4000000 in
theorem kt_bad (g : Int) (A : Option Addr) (n c : Nat) (pp : List Stp) (w : World) (hp : StepsAt w w.heap.size A n pp) (h2 : n ≤ 100) (h3 : (treZ g pp).2 ≠ 0) :
    Calls Try.prog 9 #[.int .i64 g, .slice A n c] w fun e w' => e = .returned (.bool true) ∧ Below w.heap.size w w' := by
  have HL := Lib.hid (light_any A n c w)
  rw [decide_eq_true h2] at HL
  have HT1 := Lib.hid (tree_any g A n c pp w hp)
  have HT2 := Lib.hid (fun (V : World) (hb : Below w.heap.size w V) => refTree_any g A n c pp V (hp.up hb))
  obtain ⟨Z, hZ⟩ : ∃ Z, treZ g pp = Z := ⟨_, rfl⟩
  rw [hZ] at HT1 HT2 h3
  obtain ⟨T, es⟩ := Z
  simp only at h3
  unfold RetX at HT1 HT2
  simp only at HT1 HT2
  obtain ⟨r, hr⟩ : ∃ r : ByteArray, (⟨T.toArray⟩ : ByteArray) = r := ⟨_, rfl⟩
  rw [hr] at HT1 HT2
  have hx0 : (es != 0) = true := by simp [h3]
  have hx1 : (es != es) = false := by simp
  clear hp h2 hZ hr h3
  go_enter Try.func9, Try.ntmps9
  go_wp2_with (first
    | (go_at_call 43; ((with_reducible refine HL.out.mono ?_); rintro e V1 ⟨rfl, rfl⟩))
    | (go_at_call 51
       (with_reducible refine HT1.out.mono ?_)
       rintro e V2 ⟨rfl, hB2⟩
       have HB2 := Lib.hid hB2
       clear hB2)
    | (go_at_call 52
       (with_reducible refine (HT2.out _ HB2.out).mono ?_)
       rintro e V3 ⟨rfl, hB3⟩
       have HB3 := Lib.hid (below_then HB2.out hB3)
       clear hB3)
    | (go_at_call 35; refine (awake4_any _).mono ?_; rintro e Vz ⟨rfl, hBz⟩; have HBz := Lib.hid (below_then HB3.out hBz); clear hBz))
  go_ret
  exact ⟨rfl, HBz.out⟩

set_option maxRecDepth 100000 in
set_option maxHeartbeats 4000000 in
theorem kt_good (g : Int) (A : Option Addr) (n c : Nat) (pp : List Stp) (w : World) (hp : StepsAt w w.heap.size A n pp) (h2 : n ≤ 100) (hok : proofOk g pp = true) (hl : (treT pp (pp.length - 1)).length ≤ 65536) :
    Calls Try.prog 9 #[.int .i64 g, .slice A n c] w fun e w' => e = .returned (.bool true) ∧ Below w.heap.size w w' := by
  have HL := Lib.hid (light_any A n c w)
  rw [decide_eq_true h2] at HL
  obtain ⟨q, N, H, a1, a2, a3, a4, a5, a6, a7, a8, a9⟩ := trees_all hok hl
  have hz : treZ g pp = (treT pp (pp.length - 1), 0) := by unfold treZ; rw [if_pos hok, if_neg (by omega)]
  obtain ⟨T, hT⟩ : ∃ T, treT pp (pp.length - 1) = T := ⟨_, rfl⟩
  obtain ⟨L, hL⟩ : ∃ L, idxT (needB pp) pp.length = L := ⟨_, rfl⟩
  rw [hT] at hz hl a1 a5
  rw [hL] at a3 a4
  obtain ⟨r, hr⟩ : ∃ r : ByteArray, (⟨T.toArray⟩ : ByteArray) = r := ⟨_, rfl⟩
  have hrl : r.data.toList = T := by rw [← hr]
  have hrs : r.size ≤ maxLen := by
    have : r.size = T.length := by rw [← hr]; simp [ByteArray.size]
    unfold maxLen
    omega
  have HT1 := Lib.hid (show Calls Try.prog 51 #[.int .i64 g, .slice A n c] w (fun e w' => e = .returned (.tuple #[.string r, .int .i64 0]) ∧ Below w.heap.size w w') from by
    have h := tree_any g A n c pp w hp
    unfold RetX at h
    rw [hz] at h
    simp only at h
    rw [hr] at h
    exact h)
  have HT2 := Lib.hid (fun (V : World) (hb : Below w.heap.size w V) => show Calls Try.prog 52 #[.int .i64 g, .slice A n c] V (fun e w' => e = .returned (.tuple #[.string r, .int .i64 0]) ∧ Below V.heap.size V w') from by
    have h := refTree_any g A n c pp V (hp.up hb)
    unfold RetX at h
    rw [hz] at h
    simp only at h
    rw [hr] at h
    exact h)
  have HT3 := Lib.hid (fun (V : World) A2 n2 c2 (hq : StepsAt V V.heap.size A2 n2 q) => show Calls Try.prog 51 #[.int .i64 g, .slice A2 n2 c2] V (fun e w' => e = .returned (.tuple #[.string r, .int .i64 0]) ∧ Below V.heap.size V w') from by
    have h := tree_any g A2 n2 c2 q V hq
    unfold RetX at h
    rw [a5] at h
    simp only at h
    rw [hr] at h
    exact h)
  have HU := Lib.hid (fun (V : World) => show Calls Try.prog 53 #[.int .i64 g, .string r] V (RetS V q 0) from by
    have h := untree_any g r V hrs
    rw [hrl, a1] at h
    exact h)
  have HN := Lib.hid (fun (V : World) (hb : Below w.heap.size w V) => show Calls Try.prog 54 #[.int .i64 g, .slice A n c] V (RetT V L 0) from by
    have h := knNeeded_any g A n c pp V (hp.up hb)
    rw [a3] at h
    exact h)
  have HC1 := Lib.hid (fun (V : World) (hb : Below w.heap.size w V) => show Calls Try.prog 55 #[.int .i64 g, .slice A n c] V (RetI V (N, 0)) from by
    have h := count_any g A n c pp V (hp.up hb)
    rw [a6] at h
    exact h)
  have HC2 := Lib.hid (fun (V : World) A2 n2 c2 (hq : StepsAt V V.heap.size A2 n2 q) => show Calls Try.prog 55 #[.int .i64 g, .slice A2 n2 c2] V (RetI V (N, 0)) from by
    have h := count_any g A2 n2 c2 q V hq
    rw [a7] at h
    exact h)
  have HH1 := Lib.hid (fun (V : World) (hb : Below w.heap.size w V) => show Calls Try.prog 56 #[.int .i64 g, .slice A n c] V (RetI V (H, 0)) from by
    have h := height_any g A n c pp V (hp.up hb)
    rw [a8] at h
    exact h)
  have HH2 := Lib.hid (fun (V : World) A2 n2 c2 (hq : StepsAt V V.heap.size A2 n2 q) => show Calls Try.prog 56 #[.int .i64 g, .slice A2 n2 c2] V (RetI V (H, 0)) from by
    have h := height_any g A2 n2 c2 q V hq
    rw [a9] at h
    exact h)
  have HLE := Lib.hid a4
  have hxN : (N == N) = true := by simp
  have hxH : (H == H) = true := by simp
  clear hp h2 hok hl hz hT hL hr hrl hrs a1 a2 a3 a4 a5 a6 a7 a8 a9
  go_enter Try.func9, Try.ntmps9
  go_wp2_with (first
    | (go_at_call 43; ((with_reducible refine HL.out.mono ?_); rintro e V1 ⟨rfl, rfl⟩))
    | (go_at_call 51
       (with_reducible refine (HT3.out _ _ _ _ HS5.out).mono ?_)
       rintro e V6 ⟨rfl, hB6⟩
       have HS6 := Lib.hid (HS5.out.up hB6)
       have HB6 := Lib.hid (below_then HB5.out hB6)
       clear hB6)
    | (go_at_call 51
       (with_reducible refine HT1.out.mono ?_)
       rintro e V2 ⟨rfl, hB2⟩
       have HB2 := Lib.hid hB2
       clear hB2)
    | (go_at_call 52
       (with_reducible refine (HT2.out _ HB2.out).mono ?_)
       rintro e V3 ⟨rfl, hB3⟩
       have HB3 := Lib.hid (below_then HB2.out hB3)
       clear hB3)
    | (go_at_call 53
       (with_reducible refine (HU.out _).mono ?_)
       rintro e V4 ⟨A4, n4, c4, rfl, hS4, hB4⟩
       have HS4 := Lib.hid hS4
       have HB4 := Lib.hid (below_then HB3.out hB4)
       clear hS4 hB4)
    | (go_at_call 54
       (with_reducible refine (HN.out _ HB4.out).mono ?_)
       rintro e V5 ⟨A5, n5, c5, rfl, hI5, hB5⟩
       have hle : (n4 : Int) ≤ (n5 : Int) := by
         have h1 := HS4.out.len
         have h2 := hI5.len
         have h3 := HLE.out
         omega
       have HS5 := Lib.hid (HS4.out.up hB5)
       have HB5 := Lib.hid (below_then HB4.out hB5)
       clear hI5 hB5)
    | (go_at_call 55
       (with_reducible refine (HC2.out _ _ _ _ HS7.out).mono ?_)
       rintro e V8 ⟨rfl, hB8⟩
       have HS8 := Lib.hid (HS7.out.up hB8)
       have HB8 := Lib.hid (below_then HB7.out hB8)
       clear hB8)
    | (go_at_call 55
       (with_reducible refine (HC1.out _ HB6.out).mono ?_)
       rintro e V7 ⟨rfl, hB7⟩
       have HS7 := Lib.hid (HS6.out.up hB7)
       have HB7 := Lib.hid (below_then HB6.out hB7)
       clear hB7)
    | (go_at_call 56
       (with_reducible refine (HH2.out _ _ _ _ HS9.out).mono ?_)
       rintro e V10 ⟨rfl, hB10⟩
       have HB10 := Lib.hid (below_then HB9.out hB10)
       clear hB10)
    | (go_at_call 56
       (with_reducible refine (HH1.out _ HB8.out).mono ?_)
       rintro e V9 ⟨rfl, hB9⟩
       have HS9 := Lib.hid (HS8.out.up hB9)
       have HB9 := Lib.hid (below_then HB8.out hB9)
       clear hB9)
    | (go_at_call 35; refine (awake4_any _).mono ?_; rintro e Vz ⟨rfl, hBz⟩; have HBz := Lib.hid (below_then HB10.out hBz); clear hBz))
  go_ret
  exact ⟨rfl, HBz.out⟩

theorem kt_walk (g : Int) (A : Option Addr) (n c : Nat) (pp : List Stp) (w : World) (hp : StepsAt w w.heap.size A n pp) :
    Calls Try.prog 9 #[.int .i64 g, .slice A n c] w fun e w' => e = .returned (.bool true) ∧ Below w.heap.size w w' := by
  by_cases h2 : n ≤ 100
  · by_cases h3 : (treZ g pp).2 = 0
    · unfold treZ at h3
      split at h3
      · rename_i hok
        split at h3
        · simp at h3
        · exact kt_good g A n c pp w hp h2 hok (by omega)
      · simp at h3
    · exact kt_bad g A n c pp w hp h2 h3
  · exact kt_light g A n c pp w hp h2

end Go.Proofs.Ytippmpcaongolaa
