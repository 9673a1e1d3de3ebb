/- Contract: timed (how often each step comes). -/
import Derived.Test.YtojofbmpknpggaaTEg
import Derived.Test.YtojofbmpknpggaaVHg
import Derived.Test.YtojofbmpknpggaaQZg
import Derived.Test.YtojofbmpknpggaaQVg
import Derived.Test.YtojofbmpknpggaaRRg
import Derived.Test.YtojofbmpknpggaaN13g
import Derived.Test.YtojofbmpknpggaaG1g
import Derived.RangeFuncLeaves
import Derived.RangeFuncCalls
import Derived.RangeFuncBound
import Derived.Shelf.Abstract
import Derived.Shelf.RegionOpen
import Derived.OwnWalkIn
import Derived.TacticsInMore
import Derived.IntWalk
/- How often steps come in the last one's tree (pure). -/
namespace Go.Proofs.Ytojofbmpknpggaa
open Go.RowKit

def tm0 (n : Nat) : List Int := (List.replicate n 0).set (n - 1) 1
def tmStep (pp : List Stp) (k : Nat) (b : List Int) : List Int :=
  if (pp.getD k (0, 0, 0)).1 = 2 then
    (b.set (pp.getD k (0, 0, 0)).2.1.toNat (b.getD (pp.getD k (0, 0, 0)).2.1.toNat 0 + b.getD k 0)).set (pp.getD k (0, 0, 0)).2.2.toNat ((b.set (pp.getD k (0, 0, 0)).2.1.toNat (b.getD (pp.getD k (0, 0, 0)).2.1.toNat 0 + b.getD k 0)).getD (pp.getD k (0, 0, 0)).2.2.toNat 0 + b.getD k 0)
  else b
/-- The times when the last j steps have been looked at. -/
def tmT (pp : List Stp) : Nat → List Int
  | 0 => tm0 pp.length
  | j + 1 => tmStep pp (pp.length - (j + 1)) (tmT pp j)
theorem tm0_len (n : Nat) : (tm0 n).length = n := by simp [tm0]
theorem tmStep_len (pp : List Stp) (k : Nat) (b : List Int) : (tmStep pp k b).length = b.length := by
  unfold tmStep
  split
  · simp
  · rfl
theorem tmT_len (pp : List Stp) : ∀ j, (tmT pp j).length = pp.length
  | 0 => tm0_len _
  | j + 1 => by rw [tmT, tmStep_len, tmT_len pp j]
theorem tmStep_no {pp : List Stp} {k : Nat} {b : List Int} (h : (pp.getD k (0, 0, 0)).1 ≠ 2) : tmStep pp k b = b := by unfold tmStep; rw [if_neg h]
theorem tmStep_yes {pp : List Stp} {k a d : Nat} {b : List Int} (h : pp.getD k (0, 0, 0) = (2, (a : Int), (d : Int))) :
    tmStep pp k b = (b.set a (b.getD a 0 + b.getD k 0)).set d ((b.set a (b.getD a 0 + b.getD k 0)).getD d 0 + b.getD k 0) := by
  unfold tmStep
  rw [h, if_pos rfl]
  simp only [Int.toNat_natCast]
/-- The times of the first m steps, each with the count of its tree. -/
def wS (pp : List Stp) (b : List Int) : Nat → Int
  | 0 => 0
  | m + 1 => wS pp b m + b.getD m 0 * cntT pp m
theorem getD_set_same {b : List Int} {a : Nat} (v : Int) (h : a < b.length) : (b.set a v).getD a 0 = v := by
  rw [List.getD_eq_getElem?_getD, List.getElem?_set_self h]; rfl
theorem getD_set_off (b : List Int) {a i : Nat} (v : Int) (h : a ≠ i) : (b.set a v).getD i 0 = b.getD i 0 := by
  rw [List.getD_eq_getElem?_getD, List.getElem?_set_ne h, ← List.getD_eq_getElem?_getD]
theorem wS_out (pp : List Stp) (b : List Int) (a : Nat) (v : Int) : ∀ m, m ≤ a → wS pp (b.set a v) m = wS pp b m
  | 0, _ => rfl
  | m + 1, h => by rw [wS, wS, wS_out pp b a v m (by omega), getD_set_off _ _ (by omega)]
theorem wS_set (pp : List Stp) (b : List Int) (a : Nat) (v : Int) (ha : a < b.length) : ∀ m, a < m → wS pp (b.set a (b.getD a 0 + v)) m = wS pp b m + v * cntT pp a
  | 0, h => by omega
  | m + 1, h => by
    rw [wS, wS]
    by_cases e : a = m
    · subst e
      rw [wS_out _ _ _ _ a (Nat.le_refl _), getD_set_same _ ha, Int.add_mul]
      omega
    · rw [wS_set pp b a v ha m (by omega), getD_set_off _ _ e]
      omega
theorem cntT_pos {g : Int} {pp : List Stp} (hp : stepsTo g pp pp.length) {j : Nat} (hj : j < pp.length) : 1 ≤ cntT pp j := by
  obtain ⟨d, h, _⟩ := tree_len hp j hj
  omega
theorem wS_nonneg {g : Int} {pp : List Stp} (hp : stepsTo g pp pp.length) {b : List Int} (hb : ∀ i, i < pp.length → 0 ≤ b.getD i 0) : ∀ m, m ≤ pp.length → 0 ≤ wS pp b m
  | 0, _ => by unfold wS; omega
  | m + 1, h => by
    rw [wS]
    have h1 := wS_nonneg hp hb m (by omega)
    have h2 := Int.mul_nonneg (hb m (by omega)) (show 0 ≤ cntT pp m by have := cntT_pos hp (show m < pp.length by omega); omega)
    omega
theorem wS_le {g : Int} {pp : List Stp} (hp : stepsTo g pp pp.length) {b : List Int} (hb : ∀ i, i < pp.length → 0 ≤ b.getD i 0) {i : Nat} : ∀ m, m ≤ pp.length → i < m → b.getD i 0 ≤ wS pp b m
  | 0, _, h => by omega
  | m + 1, hm, h => by
    rw [wS]
    have hc := cntT_pos hp (show m < pp.length by omega)
    have hbm := hb m (by omega)
    by_cases e : i = m
    · subst e
      have h1 := wS_nonneg hp hb i (by omega)
      have h2 := Int.mul_le_mul_of_nonneg_left hc hbm
      omega
    · have h1 := wS_le hp hb (i := i) m (by omega) (by omega)
      have h2 := Int.mul_nonneg hbm (show 0 ≤ cntT pp m by omega)
      omega
/-- What the rounds keep: all times are told, and none is above the last count. -/
theorem tmT_ok {g : Int} {pp : List Stp} (hp : stepsTo g pp pp.length) (hl : 1 ≤ pp.length) : ∀ j, j ≤ pp.length →
    (∀ i, i < pp.length → 0 ≤ (tmT pp j).getD i 0 ∧ (tmT pp j).getD i 0 ≤ cntT pp (pp.length - 1)) ∧ wS pp (tmT pp j) (pp.length - j) ≤ cntT pp (pp.length - 1)
  | 0, _ => by
    have hc := cntT_pos hp (show pp.length - 1 < pp.length by omega)
    have hz : ∀ i, (tm0 pp.length).getD i 0 = if i = pp.length - 1 then 1 else 0 := fun i => by
      unfold tm0
      by_cases e : i = pp.length - 1
      · rw [e, getD_set_same _ (by simp; omega), if_pos rfl]
      · rw [getD_set_off _ _ (Ne.symm e), if_neg e, List.getD_eq_getElem?_getD, List.getElem?_replicate]
        split <;> rfl
    have hw : ∀ m, m ≤ pp.length - 1 → wS pp (tm0 pp.length) m = 0 := by
      intro m
      induction m with
      | zero => intro _; rfl
      | succ m ih => intro h; rw [wS, ih (by omega), hz, if_neg (by omega)]; omega
    refine ⟨fun i hi => ?_, ?_⟩
    · show 0 ≤ (tm0 pp.length).getD i 0 ∧ (tm0 pp.length).getD i 0 ≤ _
      rw [hz]
      split <;> omega
    · show wS pp (tm0 pp.length) (pp.length - 0) ≤ _
      rw [show pp.length - 0 = (pp.length - 1) + 1 by omega, wS, hw _ (Nat.le_refl _), hz, if_pos rfl]
      omega
  | j + 1, hj => by
    obtain ⟨h1, h2⟩ := tmT_ok hp hl j (by omega)
    have hlen := tmT_len pp j
    rw [tmT]
    obtain ⟨k, hk⟩ : ∃ k, pp.length - (j + 1) = k := ⟨_, rfl⟩
    have hkl : k < pp.length := by omega
    rw [hk]
    rw [show pp.length - j = k + 1 by omega, wS] at h2
    obtain ⟨b, hb⟩ : ∃ b, tmT pp j = b := ⟨_, rfl⟩
    rw [hb] at h1 h2 hlen ⊢
    have hc := cntT_pos hp hkl
    have hbk := (h1 k hkl).1
    rcases step_cases hp hkl with ⟨y, e1, y1⟩ | ⟨a, d, e1, a1, d1⟩
    · rw [tmStep_no (by rw [List.getD_eq_getElem?_getD, e1]; simp)]
      have := Int.mul_nonneg hbk (show 0 ≤ cntT pp k by omega)
      exact ⟨h1, by omega⟩
    · rw [tmStep_yes (by rw [List.getD_eq_getElem?_getD, e1]; rfl)]
      obtain ⟨v, hv⟩ : ∃ v, b.getD k 0 = v := ⟨_, rfl⟩
      rw [hv] at h2 hbk ⊢
      have ck := cntT_det e1 a1 d1
      have hmul : v * cntT pp k = v * cntT pp a + v * cntT pp d + v := by rw [ck, Int.mul_add, Int.mul_add, Int.mul_one]
      have hl1 : (b.set a (b.getD a 0 + v)).length = pp.length := by rw [List.length_set]; exact hlen
      have w1 := wS_set pp b a v (by omega) k a1
      have w2 := wS_set pp (b.set a (b.getD a 0 + v)) d v (by omega) k d1
      have hpos1 : ∀ i, i < pp.length → 0 ≤ (b.set a (b.getD a 0 + v)).getD i 0 := fun i hi => by
        by_cases e : a = i
        · subst e
          rw [getD_set_same _ (by omega)]
          have := (h1 a hi).1
          omega
        · rw [getD_set_off _ _ e]
          exact (h1 i hi).1
      have hpos2 : ∀ i, i < pp.length → 0 ≤ ((b.set a (b.getD a 0 + v)).set d ((b.set a (b.getD a 0 + v)).getD d 0 + v)).getD i 0 := fun i hi => by
        by_cases e : d = i
        · subst e
          rw [getD_set_same _ (by omega)]
          have := hpos1 d hi
          omega
        · rw [getD_set_off _ _ e]
          exact hpos1 i hi
      have hw : wS pp ((b.set a (b.getD a 0 + v)).set d ((b.set a (b.getD a 0 + v)).getD d 0 + v)) k ≤ cntT pp (pp.length - 1) := by rw [w2, w1]; omega
      refine ⟨fun i hi => ⟨hpos2 i hi, ?_⟩, hw⟩
      by_cases hik : i < k
      · have := wS_le hp hpos2 (i := i) k (by omega) hik
        omega
      · rw [getD_set_off _ _ (by omega), getD_set_off _ _ (by omega)]
        exact (h1 i hi).2
/-- How often each step comes. -/
def timesL (pp : List Stp) : List Int := tmT pp pp.length
theorem cnt_last {g : Int} {pp : List Stp} (h : proofOk g pp = true) : cntT pp (pp.length - 1) ≤ 1152921504606846975 := by
  obtain ⟨_, hl, hp⟩ := proofOk_to h
  have := (cnt_small hp (k := pp.length) (j := pp.length - 1) (Nat.le_refl _) (by omega) (by omega)).2
  unfold cntT
  rw [show pp.length - 1 + 1 = pp.length by omega]
  exact this

end Go.Proofs.Ytojofbmpknpggaa

namespace Go.Proofs.Ytojofbmpknpggaa
open Go.RowKit Go.Shelf
attribute [local go_sem] Oper.semAt_some

def tmC (l : List Int) : Array Value := (l.map (Value.int .i64)).toArray
theorem tmC_get {l : List Int} {j : Nat} (h : j < l.length) : (tmC l)[j]? = some (.int .i64 (l.getD j 0)) := by
  unfold tmC
  rw [List.getElem?_toArray, List.getElem?_map, List.getElem?_eq_getElem h, List.getD_eq_getElem?_getD, List.getElem?_eq_getElem h]
  rfl
theorem tmC_set (l : List Int) (j : Nat) (q : Int) : (tmC l).setIfInBounds j (.int .i64 q) = tmC (l.set j q) := by
  unfold tmC
  rw [List.setIfInBounds_toArray, List.map_set]
theorem tmT_succ {pp : List Stp} {n k : Nat} (hn : n = pp.length) (hk : k < n) : tmT pp (n - k) = tmStep pp k (tmT pp (n - (k + 1))) := by
  subst hn
  rw [show pp.length - k = (pp.length - (k + 1)) + 1 by omega, tmT, show pp.length - (pp.length - (k + 1) + 1) = k by omega]
/-- What the rounds keep: the times, their header's box, the steps' box. -/
structure ITm (w : World) (b off n c : Nat) (pp : List Stp) (k : Nat) (W : World) : Prop where
  kF : Blk W w.heap.size 3 (tmC (tmT pp k))
  kH : Blk W (w.heap.size + 1) 24 #[.slice (some ⟨w.heap.size, 0, none⟩) n n]
  kS : Blk W (w.heap.size + 2) 22 #[.slice (some ⟨b, off, none⟩) n c]
  kW : Below w.heap.size w W
theorem ITm.own {w : World} {b off n c B : Nat} {pp : List Stp} (hB : w.heap.size ≤ B) : OwnFrom B (ITm w b off n c pp) := by
  rintro k W W' row ⟨h1, h2, h3, h4⟩ hg hr
  have hr' := fun r e => (hr r e).2
  exact ⟨(grownBy_keeps_cells hg hr' h1 rfl).trans h1, (grownBy_keeps_cells hg hr' h2 rfl).trans h2, (grownBy_keeps_cells hg hr' h3 rfl).trans h3, below_grown h4 hg hr hB⟩

set_option maxRecDepth 100000 in
set_option maxHeartbeats 4000000 in
theorem timed_any (g : Int) (A : Option Addr) (n c : Nat) (pp : List Stp) (w : World) (hp : StepsAt w w.heap.size A n pp) (hok : proofOk g pp = true) :
    Calls Try.prog 25 #[.slice A n c] w fun e w' => ∃ A' c', e = .returned (.slice A' n c') ∧ IntsAt w' w'.heap.size A' n (timesL pp) ∧ Below w.heap.size w w' := by
  obtain ⟨_, hl60, hto⟩ := proofOk_to hok
  have hlp := hp.len
  have hn1 : 1 ≤ n := by omega
  have hn60 : n ≤ 60 := by omega
  have hlast := cnt_last hok
  obtain ⟨i0, hi, hz0, hz1, hz2⟩ := info_parts info_int
  have hmk : ∀ W : World, (Instr.makeSlice 24 (.int .i64 (n : Int)) (.int .i64 (n : Int))).run Try.prog W = .ok (.slice (some ⟨W.heap.size, 0, none⟩) n n) (W.alloc (.cells (tmC (List.replicate n 0)) 3)) := by
    intro W
    have e : tmC (List.replicate n 0) = madeCells #[.int .i64 0] (n * 1) := by
      unfold tmC madeCells
      apply Array.ext
      · simp
      · intro i h1 h2
        simp [Nat.mod_one]
    rw [e]
    have := run_make_rowN (P := Try.prog) 24 3 i0 _ Try.underlying24 hi hz0 .i64 .i64 n n (Nat.le_refl _) (by rw [hz2]; omega) (by omega) W
    rw [hz1] at this
    exact this
  have HTO := Lib.hid (fun k (hk : k < n) (x : Stp) (hx : pp[k]? = some x) => show (x.1 = 1 ∧ 0 ≤ x.2.1 ∧ x.2.1 < g ∧ x.2.2 = 0) ∨ (x.1 = 2 ∧ 0 ≤ x.2.1 ∧ x.2.1 < (k : Int) ∧ 0 ≤ x.2.2 ∧ x.2.2 < (k : Int)) from stepOk_num (hto k (by omega) x hx))
  have HBD := Lib.hid (fun j (hj : j ≤ n) i (hi : i < n) => show 0 ≤ (tmT pp j).getD i 0 ∧ (tmT pp j).getD i 0 ≤ 1152921504606846975 from by
    have := (tmT_ok hto (by omega) j (by omega)).1 i (by omega)
    exact ⟨this.1, by omega⟩)
  obtain ⟨b, off, rfl, hb0, _⟩ := hp.mem (by omega)
  have HP := Lib.hid hp
  have HLP := Lib.hid hlp
  have HNL := Lib.hid (fun j => (tmT_len pp j).trans hlp.symm)
  obtain ⟨Wa, hWa⟩ : ∃ Wa, w.alloc (.cells (tmC (List.replicate n 0)) 3) = Wa := ⟨_, rfl⟩
  have sa : Wa.heap.size = w.heap.size + 1 := by rw [← hWa]; simp
  have ba : Below w.heap.size w Wa := by rw [← hWa]; exact bel_al (Below.refl _ _) _
  have ka : Blk Wa w.heap.size 3 (tmC (List.replicate n 0)) := by rw [← hWa]; exact Blk.new _ _ _
  obtain ⟨Wb, hWb⟩ : ∃ Wb, Wa.alloc (.cells #[.slice (some ⟨w.heap.size, 0, none⟩) n n] 24) = Wb := ⟨_, rfl⟩
  have sb : Wb.heap.size = w.heap.size + 2 := by rw [← hWb]; simp [sa]
  have bb : Below w.heap.size w Wb := by rw [← hWb]; exact bel_al ba _
  have kb : Blk Wb w.heap.size 3 (tmC (List.replicate n 0)) := by rw [← hWb]; exact ka.alloc _
  have kh : Blk Wb (w.heap.size + 1) 24 #[.slice (some ⟨w.heap.size, 0, none⟩) n n] := by rw [← hWb, ← sa]; exact Blk.new _ _ _
  have c0 : Wb.cell? ⟨w.heap.size + 1, 0, none⟩ = some (.slice (some ⟨w.heap.size, 0, none⟩) n n) := kh.cell 0
  have m0 : Wb.cell? ⟨w.heap.size, n - 1, none⟩ = some (.int .i64 0) := by
    rw [kb.cell, tmC_get (by rw [List.length_replicate]; omega), List.getD_eq_getElem?_getD, List.getElem?_replicate]
    split <;> rfl
  have m1 : Wb.frozen? ⟨w.heap.size, n - 1, none⟩ = false := kb.frozen _
  obtain ⟨W2, hW2⟩ : ∃ W2, Wb.setCell ⟨w.heap.size, n - 1, none⟩ (.int .i64 1) = W2 := ⟨_, rfl⟩
  have s2 : W2.heap.size = w.heap.size + 2 := by rw [← hW2, World.size_setCell, sb]
  have k2 : Blk W2 w.heap.size 3 (tmC (tmT pp 0)) := by
    rw [← hW2]
    have h := kb.set_ (n - 1) (.int .i64 1)
    rw [tmC_set] at h
    rw [tmT, ← hlp]
    exact h
  have kh2 : Blk W2 (w.heap.size + 1) 24 #[.slice (some ⟨w.heap.size, 0, none⟩) n n] := by rw [← hW2]; exact kh.far (p := ⟨w.heap.size, n - 1, none⟩) (by simp only; omega) _
  have b2 : Below w.heap.size w W2 := by rw [← hW2]; exact bb.setCell (p := ⟨w.heap.size, n - 1, none⟩) (Nat.le_refl _) _
  obtain ⟨W5, hW5⟩ : ∃ W5, W2.alloc (.cells #[.slice (some ⟨b, off, none⟩) n c] 22) = W5 := ⟨_, rfl⟩
  have s5 : W5.heap.size = w.heap.size + 3 := by rw [← hW5]; simp [s2]
  have HI0 : Hid (ITm w b off n c pp 0 W5) := Lib.hid (by
    rw [← hW5]
    refine ⟨k2.alloc _, kh2.alloc _, ?_, bel_al b2 _⟩
    rw [← s2]
    exact Blk.new _ _ _)
  have hn0 : (0 : Int) ≤ (n : Int) - 1 := by omega
  have hn9 : (n : Int) - 1 < (n : Int) := by omega
  have HW2 := Lib.hid hW2
  have HW5 := Lib.hid hW5
  have HS2 := Lib.hid s2
  clear hp hok hto hl60 hlp ka kb kh kh2 k2 b2 bb ba hW2 hW5 s2 hb0 hlast
  refine callsIn_wide (n := 5) |>.1 ?_
  refine callsIn_of_wp_marks Try.func25 rfl trivial ?_ rfl
  simp only [Try.ntmps25, List.size_toArray, List.length_cons, List.length_nil, Nat.reduceAdd, Nat.reduceSub, Array.replicate_succ, Array.replicate_zero, List.push_toArray, List.append_toArray, List.nil_append, List.cons_append]
  gi_wp2_with (refine ⟨trivial, ?_⟩; gi_at_call 51; refine (callsIn_wide.2 (backwardS_any _ _ _ _)).mono ?_; rintro e w5 ⟨rfl, rfl⟩)
  rw [HW2.out, HW5.out]
  clear hmk hi hz0 hz1 hz2 m0 m1 hWa hWb sa sb c0
  refine' range_ka (gf := 62) (lb := #[.pointer (some ⟨w.heap.size + 2, 0, none⟩)]) rfl (enters_of Try.func62 (by kernel_rfl) rfl) (encs := encBS n) (fun _ _ => rfl)
    (HxBS pp) n (ITm w b off n c pp) (fun _ => False) (ITm.own (by omega)) (fun _ _ _ _ h _ _ => h.elim) (fun k x W l o o' hx _ _ _ => hx) HI0.out ?seq _ (fun x => .cells #[.int .i64 x.1, .int .i64 x.2.1, .int .i64 x.2.2] 33) ?assign ?body ?done ?stop
  case seq =>
    intro l J JL V hV hJ hJL hJI hY hJ0
    have := bwdS_in l 4 (w.heap.size + 2) b off c pp J JL (by rw [← HLP.out]; omega) (fun k A hA => by
      have h := hJI k A hA
      refine ⟨by rw [← HLP.out]; exact h.kS, fun i x hx => ?_⟩
      obtain ⟨hil, rfl⟩ := List.getElem?_eq_some_iff.1 hx
      have hin : i < n := by rw [HLP.out]; exact hil
      obtain ⟨b', off', x1, x2, x3, e', hb', q1, q2, q3, q4⟩ := HP.out.cellAt hin
      cases e'
      rw [List.getElem?_eq_getElem hil] at q4
      have q5 := Option.some.inj q4
      rw [q5]
      exact ⟨(h.kW.cell (p := ⟨b, off + i * 3, none⟩) hb').trans q1, (h.kW.cell (p := ⟨b, off + i * 3 + 1, none⟩) hb').trans q2, (h.kW.cell (p := ⟨b, off + i * 3 + 2, none⟩) hb').trans q3⟩) (by rw [← HLP.out]; exact hY) V hJ0
    rw [← HLP.out] at this
    exact this
  case assign =>
    intro l m k x W s K hs hK
    unfold encBS
    gi_wp2
    exact hK
  case body =>
    rintro l m k ⟨x, y, z⟩ A0 W hIA hx hI hbox hk
    obtain ⟨s, hs⟩ : ∃ s, A0.heap.size = s := ⟨_, rfl⟩
    have hs1 := hIA.kS.lt
    rw [hs] at hs1 hbox
    simp only at hbox
    obtain ⟨p, hp⟩ : ∃ p : Nat, (n : Int) - 1 - (k : Int) = (p : Int) := ⟨n - 1 - k, by omega⟩
    have hpn : p < n := by omega
    have hkp : k = n - (p + 1) := by omega
    have hxp : pp[p]? = some (x, y, z) := by
      unfold HxBS at hx
      rw [← HLP.out, show n - 1 - k = p by omega] at hx
      exact hx
    have hd : pp.getD p (0, 0, 0) = (x, y, z) := by rw [List.getD_eq_getElem?_getD, hxp]; rfl
    have hsucc := tmT_succ HLP.out hpn
    rw [show n - p = k + 1 by omega, ← hkp] at hsucc
    have hlen := HNL.out k
    have hbd := HBD.out k (by omega)
    have hbd1 := HBD.out (k + 1) (by omega)
    obtain ⟨L, hL⟩ : ∃ L, tmT pp k = L := ⟨_, rfl⟩
    have hkF := hI.kF
    rw [hL] at hkF hsucc hlen hbd
    have f1 : Blk W w.heap.size 3 (tmC L) := hkF
    have f2 := hI.kH
    have f3 := hI.kS
    have f4 : Blk W s 33 #[.int .i64 x, .int .i64 y, .int .i64 z] := hbox
    have f5 := hI.kW
    have hk1 : KeepsFrom (w.heap.size + 3) W W := KeepsFrom.refl _ _
    have e0 : W.cell? ⟨s, 0, none⟩ = some (.int .i64 x) := f4.cell 0
    have e1 : W.cell? ⟨s, 1, none⟩ = some (.int .i64 y) := f4.cell 1
    have e2 : W.cell? ⟨s, 2, none⟩ = some (.int .i64 z) := f4.cell 2
    have e3 : W.cell? ⟨w.heap.size + 1, 0, none⟩ = some (.slice (some ⟨w.heap.size, 0, none⟩) n n) := f2.cell 0
    have e4 : W.cell? ⟨w.heap.size, p, none⟩ = some (.int .i64 (L.getD p 0)) := by rw [f1.cell, tmC_get (by omega)]
    have hp0 : (0 : Int) ≤ (p : Int) := by omega
    have hp1 : (p : Int) < (n : Int) := by omega
    simp only [hs, hp]
    rcases HTO.out p hpn _ hxp with ⟨h1, h2, h3, h4⟩ | ⟨h1, h2, h3, h4, h5⟩
    · simp only at h1
      subst h1
      have HN := Lib.hid (show ITm w b off n c pp (k + 1) W from ⟨by rw [hsucc, tmStep_no (by rw [hd]; simp)]; exact f1, f2, f3, f5⟩)
      have HK1 := Lib.hid hk1
      clear hI hx hxp hd hsucc hlen hL hkF f1 f2 f3 f4 f5 hk1 hp hkp hIA hbox hs h2 h3 h4 hbd hbd1
      gi_wp2_with fail
      exact ⟨HK1.out, HN.out⟩
    · simp only at h1 h2 h3 h4 h5
      subst h1
      obtain ⟨yn, rfl⟩ := Int.eq_ofNat_of_zero_le h2
      obtain ⟨zn, rfl⟩ := Int.eq_ofNat_of_zero_le h4
      have hyn : yn < p := by omega
      have hzn : zn < p := by omega
      have hst := tmStep_yes (b := L) hd
      have bv := hbd p hpn
      have by1 := hbd yn (by omega)
      have bz1 := hbd1 zn (by omega)
      rw [hsucc, hst, getD_set_same _ (by rw [List.length_set]; omega)] at bz1
      have ey : W.cell? ⟨w.heap.size, yn, none⟩ = some (.int .i64 (L.getD yn 0)) := by rw [f1.cell, tmC_get (by omega)]
      obtain ⟨v, hv⟩ : ∃ v, L.getD p 0 = v := ⟨_, rfl⟩
      obtain ⟨ty, hty⟩ : ∃ ty, L.getD yn 0 = ty := ⟨_, rfl⟩
      rw [hv] at e4 bv hst bz1
      rw [hty] at ey by1 hst bz1
      have hl1 : (L.set yn (ty + v)).length = n := by rw [List.length_set]; exact hlen
      have g1 := f1.set_ yn (.int .i64 (ty + v))
      rw [tmC_set] at g1
      obtain ⟨tz, htz⟩ : ∃ tz, (L.set yn (ty + v)).getD zn 0 = tz := ⟨_, rfl⟩
      rw [htz] at hst bz1
      have g2 := g1.set_ zn (.int .i64 (tz + v))
      rw [tmC_set] at g2
      have hw1 : IntKind.i64.wrap (ty + v) = ty + v := IntWalk.i64_in _ (by omega)
      have hw2 : IntKind.i64.wrap (tz + v) = tz + v := IntWalk.i64_in _ (by omega)
      obtain ⟨V1, hV1⟩ : ∃ V1, (W.setCell ⟨w.heap.size, yn, none⟩ (.int .i64 (ty + v))).drew = V1 := ⟨_, rfl⟩
      have d1 : Blk V1 w.heap.size 3 (tmC (L.set yn (ty + v))) := by rw [← hV1]; exact g1
      have d2 : Blk V1 (w.heap.size + 1) 24 #[.slice (some ⟨w.heap.size, 0, none⟩) n n] := by rw [← hV1]; exact f2.far (p := ⟨w.heap.size, yn, none⟩) (by simp only; omega) _
      have d3 : Blk V1 (w.heap.size + 2) 22 #[.slice (some ⟨b, off, none⟩) n c] := by rw [← hV1]; exact f3.far (p := ⟨w.heap.size, yn, none⟩) (by simp only; omega) _
      have d4 : Blk V1 s 33 #[.int .i64 2, .int .i64 (yn : Int), .int .i64 (zn : Int)] := by rw [← hV1]; exact f4.far (p := ⟨w.heap.size, yn, none⟩) (by simp only; omega) _
      have d5 : Below w.heap.size w V1 := by rw [← hV1]; exact (f5.setCell (p := ⟨w.heap.size, yn, none⟩) (by simp only; omega) _).drew
      have d6 : KeepsFrom (w.heap.size + 3) W V1 := by rw [← hV1]; exact ((KeepsOthers.setCell W ⟨w.heap.size, yn, none⟩ _).from _).trans ((KeepsOthers.drew _).from _)
      have u0 : V1.cell? ⟨w.heap.size + 1, 0, none⟩ = some (.slice (some ⟨w.heap.size, 0, none⟩) n n) := d2.cell 0
      have u1 : V1.cell? ⟨s, 2, none⟩ = some (.int .i64 (zn : Int)) := d4.cell 2
      have u2 : V1.cell? ⟨w.heap.size, zn, none⟩ = some (.int .i64 tz) := by rw [d1.cell, tmC_get (by omega), htz]
      have u3 : V1.cell? ⟨w.heap.size, p, none⟩ = some (.int .i64 v) := by rw [d1.cell, tmC_get (by omega), getD_set_off _ _ (by omega), hv]
      have u4 : V1.frozen? ⟨w.heap.size, zn, none⟩ = false := d1.frozen _
      have u5 : W.frozen? ⟨w.heap.size, yn, none⟩ = false := f1.frozen _
      obtain ⟨V2, hV2⟩ : ∃ V2, (V1.setCell ⟨w.heap.size, zn, none⟩ (.int .i64 (tz + v))).drew = V2 := ⟨_, rfl⟩
      have HN := Lib.hid (show ITm w b off n c pp (k + 1) V2 from ⟨by
        rw [hsucc, hst, ← hV2]
        have := d1.set_ zn (.int .i64 (tz + v))
        rw [tmC_set] at this
        exact this, by rw [← hV2]; exact d2.far (p := ⟨w.heap.size, zn, none⟩) (by simp only; omega) _, by rw [← hV2]; exact d3.far (p := ⟨w.heap.size, zn, none⟩) (by simp only; omega) _, by rw [← hV2]; exact (d5.setCell (p := ⟨w.heap.size, zn, none⟩) (by simp only; omega) _).drew⟩)
      have HK1 := Lib.hid (show KeepsFrom (w.heap.size + 3) W V2 by rw [← hV2]; exact (d6.trans ((KeepsOthers.setCell V1 ⟨w.heap.size, zn, none⟩ _).from _)).trans ((KeepsOthers.drew _).from _))
      have y0 : (0 : Int) ≤ (yn : Int) := by omega
      have z0 : (0 : Int) ≤ (zn : Int) := by omega
      have y1 : (yn : Int) < (n : Int) := by omega
      have z1 : (zn : Int) < (n : Int) := by omega
      have HV1 := Lib.hid hV1
      have HV2 := Lib.hid hV2
      clear hI hx hxp hd hsucc hlen hL hkF f1 f2 f3 f4 f5 hk1 hp hkp hIA hbox hs h2 h3 h4 h5 hst g1 g2 hl1 d1 d2 d3 d4 d5 d6 hV1 hV2 hbd hbd1 bv by1 bz1 hv hty htz
      gi_wp2_with fail
      refine region_round_tail 11 (by kernel_rfl) (by kernel_rfl) (by kernel_rfl) ?_
      simp only [List.take_succ_cons, List.take_zero, List.drop_succ_cons, List.drop_zero]
      repeat still_step
      refine wpStill_nil ?_
      change wpList _ _ _ _ _ W.drew
      go_wp2_with fail
      refine ⟨(fun e => by cases e), ?_⟩
      rw [HV1.out]
      gi_wp2_with fail
      refine region_round_tail 11 (by kernel_rfl) (by kernel_rfl) (by kernel_rfl) ?_
      simp only [List.take_succ_cons, List.take_zero, List.drop_succ_cons, List.drop_zero]
      repeat still_step
      refine wpStill_nil ?_
      change wpList _ _ _ _ _ V1.drew
      go_wp2_with fail
      refine ⟨(fun e => by cases e), ?_⟩
      rw [HV2.out]
      gi_wp2_with fail
      exact ⟨HK1.out, HN.out⟩
  case done =>
    rintro D W hD hI hK
    have c0 : W.cell? ⟨w.heap.size + 1, 0, none⟩ = some (.slice (some ⟨w.heap.size, 0, none⟩) n n) := hI.kH.cell 0
    have HB := Lib.hid hI.kW
    have HF := Lib.hid hI.kF
    have KD := Lib.hid hK
    have HDL := Lib.hid (show w.heap.size + 3 ≤ D by rw [← s5]; exact hD)
    clear hI hK
    gi_wp2_with fail
    refine ⟨by simp, .inl ⟨_, _, rfl, run_takeDeferred KD.out, ?_⟩⟩
    refine ⟨_, results_tmp rfl _ _ _, ?_⟩
    have hg := grownBy_putObj' W D (.deferred none)
    have hdl := HDL.out
    have hF := HF.out.grown hg (fun e => by have := Option.some.inj e; omega)
    have hlen : (tmT pp n).length = n := HNL.out n
    refine ⟨_, _, rfl, ?_, HB.out.grown hg HB.out.size (fun q e => by have := Option.some.inj e; omega)⟩
    have := ints_of_blk (tmT pp n) n _ rfl hF (by omega) (by omega)
    unfold timesL
    rw [← HLP.out]
    exact this
  case stop =>
    rintro D W hD hI
    exact hI.elim

end Go.Proofs.Ytojofbmpknpggaa
