/- Contracts: Count and Height of the kernel and of the reference. -/
import Derived.Test.YtippmpcaongolaaPFg
import Derived.Test.YtippmpcaongolaaPJg
import Derived.Test.YtippmpcaongolaaPYg
import Derived.Test.YtippmpcaongolaaQ6g
/- Needed steps, counts and heights of proofs (pure): KernelProofs' mathematics. -/
namespace Go.Proofs.Ytippmpcaongolaa
open Go.RowKit

/-- The measure of a step, with those before it. -/
def mesA (f : Int → Int → Int) (pp : List Stp) (k : Nat) (L : List Int) : Int :=
  if (pp.getD k (0, 0, 0)).1 = 2 then f (L.getD (pp.getD k (0, 0, 0)).2.1.toNat 0) (L.getD (pp.getD k (0, 0, 0)).2.2.toNat 0) else 1
/-- The measures of the first k steps. -/
def mesL (f : Int → Int → Int) (pp : List Stp) : Nat → List Int
  | 0 => []
  | k + 1 => mesL f pp k ++ [mesA f pp k (mesL f pp k)]
theorem mesL_len (f : Int → Int → Int) (pp : List Stp) : ∀ k, (mesL f pp k).length = k
  | 0 => rfl
  | k + 1 => by rw [mesL, List.length_append, mesL_len f pp k]; rfl
theorem mesL_old (f : Int → Int → Int) (pp : List Stp) {k j : Nat} (h : j < k) : (mesL f pp (k + 1)).getD j 0 = (mesL f pp k).getD j 0 := by
  rw [mesL, List.getD_eq_getElem?_getD, List.getElem?_append_left (by rw [mesL_len]; exact h), ← List.getD_eq_getElem?_getD]
theorem mesL_last (f : Int → Int → Int) (pp : List Stp) (k : Nat) : (mesL f pp (k + 1)).getD k 0 = mesA f pp k (mesL f pp k) := by
  rw [mesL, List.getD_eq_getElem?_getD, List.getElem?_append_right (by rw [mesL_len]; exact Nat.le_refl _), mesL_len, Nat.sub_self]
  rfl
def cntF (a b : Int) : Int := a + b + 1
def hgtF (a b : Int) : Int := max a b + 1
theorem cntF_is (a b : Int) : cntF a b = a + b + 1 := rfl
theorem hgtF_is (a b : Int) : hgtF a b = max a b + 1 := rfl
theorem cnt_bound {g : Int} {pp : List Stp} (hp : stepsTo g pp pp.length) : ∀ k, k ≤ pp.length → ∀ j, j < k → 1 ≤ (mesL cntF pp k).getD j 0 ∧ (mesL cntF pp k).getD j 0 + 1 ≤ (2 : Int) ^ (j + 1)
  | 0, _, j, hj => by omega
  | k + 1, hk, j, hj => by
    by_cases h : j < k
    · rw [mesL_old _ _ h]
      exact cnt_bound hp k (by omega) j h
    · obtain rfl : j = k := by omega
      rw [mesL_last]
      have ih := cnt_bound hp j (by omega)
      have hx : pp[j]? = some pp[j] := List.getElem?_eq_getElem (by omega)
      have hd : pp.getD j (0, 0, 0) = pp[j] := by rw [List.getD_eq_getElem?_getD, hx]; rfl
      have hpow : ∀ i : Nat, i < j → (2 : Int) ^ (i + 1) ≤ 2 ^ j := fun i hi => by
        have := Nat.pow_le_pow_right (n := 2) (by omega) (show i + 1 ≤ j by omega)
        exact_mod_cast this
      have hpos : (1 : Int) ≤ 2 ^ j := by
        have := Nat.one_le_two_pow (n := j)
        exact_mod_cast this
      unfold mesA
      rw [hd]
      rw [Int.pow_succ]
      rcases stepOk_num (hp j (by omega) _ hx) with ⟨a1, a2, a3, a4⟩ | ⟨a1, a2, a3, a4, a5⟩
      · rw [if_neg (by omega)]
        omega
      · rw [if_pos a1]
        have h1 := ih pp[j].2.1.toNat (by omega)
        have h2 := ih pp[j].2.2.toNat (by omega)
        have p1 := hpow pp[j].2.1.toNat (by omega)
        have p2 := hpow pp[j].2.2.toNat (by omega)
        rw [cntF_is]
        omega
theorem cnt_small {g : Int} {pp : List Stp} (hp : stepsTo g pp pp.length) {k j : Nat} (hk : k ≤ pp.length) (hj : j < k) (h60 : j < 60) : 1 ≤ (mesL cntF pp k).getD j 0 ∧ (mesL cntF pp k).getD j 0 ≤ 1152921504606846975 := by
  obtain ⟨h1, h2⟩ := cnt_bound hp k hk j hj
  have h3 : (2 : Int) ^ (j + 1) ≤ 2 ^ 60 := by
    have := Nat.pow_le_pow_right (n := 2) (by omega) (show j + 1 ≤ 60 by omega)
    exact_mod_cast this
  have h4 : (2 : Int) ^ 60 = 1152921504606846976 := by decide
  exact ⟨h1, by omega⟩
theorem cnt_half {g : Int} {pp : List Stp} (hp : stepsTo g pp pp.length) {k j : Nat} (hk : k ≤ pp.length) (hj : j < k) (h59 : j < 59) : (mesL cntF pp k).getD j 0 ≤ 576460752303423487 := by
  obtain ⟨h1, h2⟩ := cnt_bound hp k hk j hj
  have h3 : (2 : Int) ^ (j + 1) ≤ 2 ^ 59 := by
    have := Nat.pow_le_pow_right (n := 2) (by omega) (show j + 1 ≤ 59 by omega)
    exact_mod_cast this
  have h4 : (2 : Int) ^ 59 = 576460752303423488 := by decide
  omega
theorem hgt_bound {g : Int} {pp : List Stp} (hp : stepsTo g pp pp.length) : ∀ k, k ≤ pp.length → ∀ j, j < k → 1 ≤ (mesL hgtF pp k).getD j 0 ∧ (mesL hgtF pp k).getD j 0 ≤ (j : Int) + 1
  | 0, _, j, hj => by omega
  | k + 1, hk, j, hj => by
    by_cases h : j < k
    · rw [mesL_old _ _ h]
      exact hgt_bound hp k (by omega) j h
    · obtain rfl : j = k := by omega
      rw [mesL_last]
      have ih := hgt_bound hp j (by omega)
      have hx : pp[j]? = some pp[j] := List.getElem?_eq_getElem (by omega)
      have hd : pp.getD j (0, 0, 0) = pp[j] := by rw [List.getD_eq_getElem?_getD, hx]; rfl
      unfold mesA
      rw [hd]
      rcases stepOk_num (hp j (by omega) _ hx) with ⟨a1, a2, a3, a4⟩ | ⟨a1, a2, a3, a4, a5⟩
      · rw [if_neg (by omega)]
        omega
      · rw [if_pos a1]
        have h1 := ih pp[j].2.1.toNat (by omega)
        have h2 := ih pp[j].2.2.toNat (by omega)
        rw [hgtF_is]
        omega
/-- A number that is told up to one above most. -/
def capM (most n : Int) : Int := if n > most then most + 1 else n
theorem capM_add {most a b : Int} (hm : 1 ≤ most) (ha : 1 ≤ a) (hb : 1 ≤ b) : capM most (capM most a + capM most b + 1) = capM most (cntF a b) := by
  unfold capM cntF
  by_cases h1 : a > most
  · rw [if_pos h1]
    by_cases h2 : b > most
    · rw [if_pos h2, if_pos (by omega), if_pos (by omega)]
    · rw [if_neg h2, if_pos (by omega), if_pos (by omega)]
  · rw [if_neg h1]
    by_cases h2 : b > most
    · rw [if_pos h2, if_pos (by omega), if_pos (by omega)]
    · rw [if_neg h2]
/-- The reference's sums. -/
def sumA (leaf most : Int) (pp : List Stp) (k : Nat) (L : List Int) : Int :=
  capM most (if (pp.getD k (0, 0, 0)).1 = 2 then L.getD (pp.getD k (0, 0, 0)).2.1.toNat 0 + L.getD (pp.getD k (0, 0, 0)).2.2.toNat 0 + 1 else leaf)
def sumL (leaf most : Int) (pp : List Stp) : Nat → List Int
  | 0 => []
  | k + 1 => sumL leaf most pp k ++ [sumA leaf most pp k (sumL leaf most pp k)]
theorem sumL_len (leaf most : Int) (pp : List Stp) : ∀ k, (sumL leaf most pp k).length = k
  | 0 => rfl
  | k + 1 => by rw [sumL, List.length_append, sumL_len leaf most pp k]; rfl
theorem sumL_old (leaf most : Int) (pp : List Stp) {k j : Nat} (h : j < k) : (sumL leaf most pp (k + 1)).getD j 0 = (sumL leaf most pp k).getD j 0 := by
  rw [sumL, List.getD_eq_getElem?_getD, List.getElem?_append_left (by rw [sumL_len]; exact h), ← List.getD_eq_getElem?_getD]
theorem sumL_last (leaf most : Int) (pp : List Stp) (k : Nat) : (sumL leaf most pp (k + 1)).getD k 0 = sumA leaf most pp k (sumL leaf most pp k) := by
  rw [sumL, List.getD_eq_getElem?_getD, List.getElem?_append_right (by rw [sumL_len]; exact Nat.le_refl _), sumL_len, Nat.sub_self]
  rfl
theorem sum_bound {leaf most : Int} (h1 : 0 ≤ leaf) (h2 : 0 ≤ most) {g : Int} {pp : List Stp} (hp : stepsTo g pp pp.length) : ∀ k, k ≤ pp.length → ∀ j, j < k → 0 ≤ (sumL leaf most pp k).getD j 0 ∧ (sumL leaf most pp k).getD j 0 ≤ most + 1
  | 0, _, j, hj => by omega
  | k + 1, hk, j, hj => by
    by_cases h : j < k
    · rw [sumL_old _ _ _ h]
      exact sum_bound h1 h2 hp k (by omega) j h
    · obtain rfl : j = k := by omega
      rw [sumL_last]
      have ih := sum_bound h1 h2 hp j (by omega)
      have hx : pp[j]? = some pp[j] := List.getElem?_eq_getElem (by omega)
      have hd : pp.getD j (0, 0, 0) = pp[j] := by rw [List.getD_eq_getElem?_getD, hx]; rfl
      unfold sumA capM
      rw [hd]
      rcases stepOk_num (hp j (by omega) _ hx) with ⟨a1, a2, a3, a4⟩ | ⟨a1, a2, a3, a4, a5⟩
      · rw [if_neg (show ¬ pp[j].1 = 2 by omega)]
        split <;> omega
      · rw [if_pos a1]
        have h1 := ih pp[j].2.1.toNat (by omega)
        have h2 := ih pp[j].2.2.toNat (by omega)
        split <;> omega
/-- What Count and Height hand back. -/
def cntZ (g : Int) (pp : List Stp) : Int × Int :=
  if proofOk g pp = true then (if (mesL cntF pp pp.length).getD (pp.length - 1) 0 > 1000000000000000 then (0, 4) else ((mesL cntF pp pp.length).getD (pp.length - 1) 0, 0)) else (0, 1)
def hgtZ (g : Int) (pp : List Stp) : Int × Int :=
  if proofOk g pp = true then ((mesL hgtF pp pp.length).getD (pp.length - 1) 0, 0) else (0, 1)

/-- The flags of needed steps. -/
def flg0 (n : Nat) : List Bool := (List.replicate n false).set (n - 1) true
def ndStep (pp : List Stp) (k : Nat) (b : List Bool) : List Bool :=
  if b.getD k false = true ∧ (pp.getD k (0, 0, 0)).1 = 2 then (b.set (pp.getD k (0, 0, 0)).2.1.toNat true).set (pp.getD k (0, 0, 0)).2.2.toNat true else b
/-- The flags when the last j steps have been looked at. -/
def needT (pp : List Stp) : Nat → List Bool
  | 0 => flg0 pp.length
  | j + 1 => ndStep pp (pp.length - (j + 1)) (needT pp j)
def needB (pp : List Stp) : List Bool := needT pp pp.length
theorem flg0_len (n : Nat) : (flg0 n).length = n := by simp [flg0]
theorem ndStep_len (pp : List Stp) (k : Nat) (b : List Bool) : (ndStep pp k b).length = b.length := by
  unfold ndStep
  split
  · simp
  · rfl
theorem needT_len (pp : List Stp) : ∀ j, (needT pp j).length = pp.length
  | 0 => flg0_len _
  | j + 1 => by rw [needT, ndStep_len, needT_len pp j]
/-- The indexes below k that are flagged. -/
def idxT (b : List Bool) : Nat → List Int
  | 0 => []
  | k + 1 => idxT b k ++ (if b.getD k false = true then [(k : Int)] else [])
theorem idxT_len (b : List Bool) : ∀ k, (idxT b k).length ≤ k
  | 0 => Nat.le_refl _
  | k + 1 => by
    rw [idxT, List.length_append]
    have := idxT_len b k
    split <;> simp <;> omega
theorem idxT_mem (b : List Bool) (z : Int) : ∀ k, z ∈ idxT b k ↔ ∃ i, i < k ∧ z = (i : Int) ∧ b.getD i false = true
  | 0 => by simp [idxT]
  | k + 1 => by
    rw [idxT, List.mem_append, idxT_mem b z k]
    constructor
    · rintro (⟨i, h1, h2, h3⟩ | h)
      · exact ⟨i, by omega, h2, h3⟩
      · split at h
        · rename_i h3
          exact ⟨k, by omega, by simpa using h, h3⟩
        · simp at h
    · rintro ⟨i, h1, h2, h3⟩
      by_cases h : i < k
      · exact .inl ⟨i, h, h2, h3⟩
      · obtain rfl : i = k := by omega
        right
        rw [if_pos h3]
        simpa using h2
/-- What Needed hands back. -/
def neeZ (g : Int) (pp : List Stp) : List Int × Int := if proofOk g pp = true then (idxT (needB pp) pp.length, 0) else ([], 1)
end Go.Proofs.Ytippmpcaongolaa

/- Contract: kernel.measured by the count's function. -/
namespace Go.Proofs.Ytippmpcaongolaa
open Go.RowKit

/-- The cells of measures, k of n of them told. -/
def msC (f : Int → Int → Int) (pp : List Stp) (n k : Nat) : Array Value := ((mesL f pp k ++ List.replicate (n - k) 0).map (Value.int .i64)).toArray
theorem msC_old (f : Int → Int → Int) (pp : List Stp) {n k j : Nat} (_hk : k ≤ n) (hj : j < k) : (msC f pp n k)[j]? = some (.int .i64 ((mesL f pp k).getD j 0)) := by
  unfold msC
  rw [List.getElem?_toArray, List.getElem?_map, List.getElem?_append_left (by rw [mesL_len]; exact hj), List.getElem?_eq_getElem (by rw [mesL_len]; exact hj), List.getD_eq_getElem?_getD, List.getElem?_eq_getElem (by rw [mesL_len]; exact hj)]
  rfl
theorem msC_at_k (f : Int → Int → Int) (pp : List Stp) {n k : Nat} (hk : k < n) : (msC f pp n k)[k]? = some (.int .i64 0) := by
  unfold msC
  rw [List.getElem?_toArray, List.getElem?_map, List.getElem?_append_right (by rw [mesL_len]; exact Nat.le_refl _), mesL_len, Nat.sub_self, show n - k = (n - (k + 1)) + 1 by omega, List.replicate_succ]
  rfl
theorem msC_size (f : Int → Int → Int) (pp : List Stp) {n k : Nat} (hk : k ≤ n) : (msC f pp n k).size = n := by
  unfold msC
  simp [mesL_len]
  omega
theorem msC_set (f : Int → Int → Int) (pp : List Stp) {n k : Nat} (hk : k < n) : (msC f pp n k).setIfInBounds k (.int .i64 (mesA f pp k (mesL f pp k))) = msC f pp n (k + 1) := by
  unfold msC
  rw [List.setIfInBounds_toArray, show n - k = (n - (k + 1)) + 1 by omega, List.replicate_succ, List.map_append, List.map_cons, List.set_append_right _ _ (by rw [List.length_map, mesL_len]; exact Nat.le_refl _), List.length_map, mesL_len, Nat.sub_self, List.set_cons_zero, mesL, List.map_append, List.map_append, List.append_assoc]
  rfl
theorem cnt_call (a b : Int) (ha : 0 ≤ a ∧ a ≤ 576460752303423487) (hb : 0 ≤ b ∧ b ≤ 576460752303423487) (V : World) : Calls Try.prog 153 #[.int .i64 a, .int .i64 b] V fun e w' => e = .returned (.int .i64 (cntF a b)) ∧ V = w' := by
  obtain ⟨ha0, ha1⟩ := ha
  obtain ⟨hb0, hb1⟩ := hb
  go_enter Try.func153, Try.ntmps153
  go_wp2
  go_ret
  exact ⟨rfl, rfl⟩

set_option maxRecDepth 100000 in
set_option maxHeartbeats 2000000 in
theorem measured_cnt (g : Int) (A : Option Addr) (n c : Nat) (pp : List Stp) (w : World) (hp : StepsAt w w.heap.size A n pp) (hok : proofOk g pp = true) :
    Calls Try.prog 109 #[.slice A n c, .func (.func 153) #[] #[]] w fun e w' => e = .returned (.int .i64 ((mesL cntF pp n).getD (n - 1) 0)) ∧ Below w.heap.size w w' := by
  obtain ⟨_, hl60, hto⟩ := proofOk_to hok
  have hlp := hp.len
  have hn1 : 1 ≤ n := by omega
  have hn60 : n ≤ 60 := by omega
  obtain ⟨i0, hi, hz0, hz1, hz2⟩ := info_parts info_int
  have hmk : ∀ W : World, (Instr.makeSlice 24 (.int .i64 (n : Int)) (.int .i64 (n : Int))).run Try.prog W = .ok (.slice (some ⟨W.heap.size, 0, none⟩) n n) (W.alloc (.cells (msC cntF pp n 0) 3)) := by
    intro W
    have e : msC cntF pp n 0 = madeCells #[.int .i64 0] (n * 1) := by
      unfold msC madeCells
      apply Array.ext
      · simp [mesL]
      · intro i h1 h2
        simp [mesL, Nat.mod_one]
    rw [e]
    have := run_make_rowN (P := Try.prog) 24 3 i0 _ Try.underlying24 hi hz0 .i64 .i64 n n (Nat.le_refl _) (by rw [hz2]; omega) (by omega) W
    rw [hz1] at this
    exact this
  have HTO := Lib.hid (fun k (hk : k < n) (x : Stp) (hx : pp[k]? = some x) => show (x.1 = 1 ∧ 0 ≤ x.2.1 ∧ x.2.1 < g ∧ x.2.2 = 0) ∨ (x.1 = 2 ∧ 0 ≤ x.2.1 ∧ x.2.1 < (k : Int) ∧ 0 ≤ x.2.2 ∧ x.2.2 < (k : Int)) from stepOk_num (hto k (by omega) x hx))
  have HBD := Lib.hid (fun (k j : Nat) (hk : k < n) (hj : j < k) => show 0 ≤ (mesL cntF pp k).getD j 0 ∧ (mesL cntF pp k).getD j 0 ≤ 576460752303423487 from by
    have hlk : k ≤ pp.length := by omega
    obtain ⟨h1, _⟩ := cnt_small hto hlk hj (by omega)
    exact ⟨by omega, cnt_half hto hlk hj (by omega)⟩)
  have HP := Lib.hid hp
  clear hp hok hto hl60 hlp
  go_enter Try.func109, Try.ntmps109
  go_wp2_with fail
  clear hmk hi hz0 hz1 hz2
  go_loopw [13] (fun i wr => ∃ k : Nat, k ≤ n ∧ i = .int .i64 k ∧ Blk wr w.heap.size 3 (msC cntF pp n k) ∧ Below w.heap.size w wr) (fun i _ => n - (intOf i).toNat)
  case atStart => exact ⟨0, Nat.zero_le _, rfl, Blk.new _ _ _, (Below.refl _ _).alloc (Nat.le_refl _) _⟩
  case round =>
    obtain ⟨k, hk, rfl, hblk, hB⟩ := hrel
    have HB := Lib.hid hB
    have HBK := Lib.hid hblk
    by_cases hlt : k < n
    · obtain ⟨b, off, x, y, z, rfl, hb', q1, q2, q3, q4⟩ := HP.out.cellAt hlt
      have r1 := (hB.cell (p := ⟨b, off + k * 3, none⟩) hb').trans q1
      have r2 := (hB.cell (p := ⟨b, off + k * 3 + 1, none⟩) hb').trans q2
      have r3 := (hB.cell (p := ⟨b, off + k * 3 + 2, none⟩) hb').trans q3
      have hk0 : (0 : Int) ≤ (k : Int) := by omega
      have hk1 : (k : Int) < (n : Int) := by omega
      have hd2 : (k : Int) + 1 ≤ 60 := by omega
      have hd : pp.getD k (0, 0, 0) = (x, y, z) := by rw [List.getD_eq_getElem?_getD, q4]; rfl
      have hgw : w.heap.size < wr.heap.size := hblk.lt
      obtain ⟨W1, hW1⟩ : ∃ W1, wr.alloc (.cells #[.int .i64 x, .int .i64 y, .int .i64 z] 123) = W1 := ⟨_, rfl⟩
      have hS1 : W1.heap.size = wr.heap.size + 1 := by rw [← hW1]; simp
      have hbox : Blk W1 wr.heap.size 123 #[.int .i64 x, .int .i64 y, .int .i64 z] := by rw [← hW1]; exact Blk.new _ _ _
      have hblk1 : Blk W1 w.heap.size 3 (msC cntF pp n k) := by rw [← hW1]; exact hblk.alloc _
      have HW1 := Lib.hid hW1
      have c0 : W1.cell? ⟨wr.heap.size, 0, none⟩ = some (.int .i64 x) := hbox.cell 0
      have m0 : W1.cell? ⟨w.heap.size, k, none⟩ = some (.int .i64 0) := by rw [hblk1.cell, msC_at_k _ _ (by omega)]
      have m1 : W1.frozen? ⟨w.heap.size, k, none⟩ = false := hblk1.frozen k
      rcases HTO.out k hlt _ q4 with ⟨h1, h2, h3, h4⟩ | ⟨h1, h2, h3, h4, h5⟩
      · simp only at h1
        subst h1
        have HN := Lib.hid (show Blk (W1.setCell ⟨w.heap.size, k, none⟩ (.int .i64 1)) w.heap.size 3 (msC cntF pp n (k + 1)) from by
          have h := hblk1.set_ k (.int .i64 1)
          rw [← msC_set _ _ hlt]
          rw [show mesA cntF pp k (mesL cntF pp k) = 1 from by unfold mesA; rw [hd, if_neg (by simp)]]
          exact h)
        have HBN := Lib.hid (show Below w.heap.size w (W1.setCell ⟨w.heap.size, k, none⟩ (.int .i64 1)) from by rw [← hW1]; exact (bel_al HB.out _).setCell (Nat.le_refl _) _)
        clear hblk hB hblk1 hbox q1 q2 q3 q4 h2 h3 h4 hd
        go_wp2_with fail
        go_roundw
        case rel => exact ⟨k + 1, by omega, by go_num, HN.out, HBN.out⟩
        case measure => simp [intOf]; omega
      · simp only at h1 h2 h3 h4 h5
        subst h1
        obtain ⟨yn, rfl⟩ := Int.eq_ofNat_of_zero_le h2
        obtain ⟨zn, rfl⟩ := Int.eq_ofNat_of_zero_le h4
        have hyn : yn < k := by omega
        have hzn : zn < k := by omega
        have by1 := HBD.out k yn hlt hyn
        have bz1 := HBD.out k zn hlt hzn
        have hms : mesA cntF pp k (mesL cntF pp k) = cntF ((mesL cntF pp k).getD yn 0) ((mesL cntF pp k).getD zn 0) := by unfold mesA; rw [hd, if_pos rfl]; simp only [Int.toNat_natCast]
        have hset := msC_set cntF pp hlt
        rw [hms] at hset
        have cy0 : (msC cntF pp n k)[yn]? = some (.int .i64 ((mesL cntF pp k).getD yn 0)) := msC_old _ _ (by omega) hyn
        have cz0 : (msC cntF pp n k)[zn]? = some (.int .i64 ((mesL cntF pp k).getD zn 0)) := msC_old _ _ (by omega) hzn
        obtain ⟨ay, hay⟩ : ∃ ay, (mesL cntF pp k).getD yn 0 = ay := ⟨_, rfl⟩
        obtain ⟨az, haz⟩ : ∃ az, (mesL cntF pp k).getD zn 0 = az := ⟨_, rfl⟩
        rw [hay] at by1 hset cy0
        rw [haz] at bz1 hset cz0
        have CF := Lib.hid (cnt_call ay az by1 bz1)
        obtain ⟨R, hR⟩ : ∃ R, cntF ay az = R := ⟨_, rfl⟩
        rw [hR] at CF hset
        have hblk2 := hblk1.set_ k (.int .i64 1)
        have HBL2 := Lib.hid hblk2
        have hbox2 : Blk (W1.setCell ⟨w.heap.size, k, none⟩ (.int .i64 1)) wr.heap.size 123 #[.int .i64 2, .int .i64 (yn : Int), .int .i64 (zn : Int)] := hbox.far (p := ⟨w.heap.size, k, none⟩) (by simp only; omega) _
        have gset : ∀ (X : Array Value) (j : Nat) (u : Value), j ≠ k → (X.setIfInBounds k u)[j]? = X[j]? := fun X j u hj => Array.getElem?_setIfInBounds_ne (Ne.symm hj)
        have hB2 : Below w.heap.size w (W1.setCell ⟨w.heap.size, k, none⟩ (.int .i64 1)) := by rw [← hW1]; exact (bel_al HB.out _).setCell (Nat.le_refl _) _
        obtain ⟨W2, hW2⟩ : ∃ W2, W1.setCell ⟨w.heap.size, k, none⟩ (.int .i64 1) = W2 := ⟨_, rfl⟩
        rw [hW2] at hblk2 hbox2 hB2
        have HW2 := Lib.hid hW2
        have e1 : W2.cell? ⟨wr.heap.size, 1, none⟩ = some (.int .i64 (yn : Int)) := hbox2.cell 1
        have e2 : W2.cell? ⟨wr.heap.size, 2, none⟩ = some (.int .i64 (zn : Int)) := hbox2.cell 2
        have e3 : W2.cell? ⟨w.heap.size, yn, none⟩ = some (.int .i64 ay) := by rw [hblk2.cell, gset _ _ _ (by omega)]; exact cy0
        have e4 : W2.cell? ⟨w.heap.size, zn, none⟩ = some (.int .i64 az) := by rw [hblk2.cell, gset _ _ _ (by omega)]; exact cz0
        have e5 : W2.cell? ⟨w.heap.size, k, none⟩ = some (.int .i64 1) := by rw [hblk2.cell, Array.getElem?_setIfInBounds_self_of_lt]; rw [msC_size _ _ (by omega)]; exact hlt
        have e6 : W2.frozen? ⟨w.heap.size, k, none⟩ = false := hblk2.frozen k
        have hblk3 : Blk (W2.setCell ⟨w.heap.size, k, none⟩ (.int .i64 R)) w.heap.size 3 (msC cntF pp n (k + 1)) := by
          have h := hblk2.set_ k (.int .i64 R)
          rw [Array.setIfInBounds_setIfInBounds, hset] at h
          exact h
        have HPUT := Lib.hid (show (W2.setCell ⟨w.heap.size, k, none⟩ (.int .i64 R)).cell? ⟨wr.heap.size, 1, none⟩ = some (.int .i64 (yn : Int)) ∧ (W2.setCell ⟨w.heap.size, k, none⟩ (.int .i64 R)).cell? ⟨wr.heap.size, 2, none⟩ = some (.int .i64 (zn : Int)) ∧ (W2.setCell ⟨w.heap.size, k, none⟩ (.int .i64 R)).cell? ⟨w.heap.size, yn, none⟩ = some (.int .i64 ay) ∧ (W2.setCell ⟨w.heap.size, k, none⟩ (.int .i64 R)).cell? ⟨w.heap.size, zn, none⟩ = some (.int .i64 az) from
          ⟨(hbox2.far (p := ⟨w.heap.size, k, none⟩) (by simp only; omega) _).cell 1, (hbox2.far (p := ⟨w.heap.size, k, none⟩) (by simp only; omega) _).cell 2, by rw [hblk3.cell]; exact (msC_old _ _ (by omega) (by omega)).trans (by rw [mesL_old _ _ hyn, hay]), by rw [hblk3.cell]; exact (msC_old _ _ (by omega) (by omega)).trans (by rw [mesL_old _ _ hzn, haz])⟩)
        have HBK3 := Lib.hid hblk3
        have HB2 := Lib.hid (hB2.setCell (p := ⟨w.heap.size, k, none⟩) (Nat.le_refl _) (.int .i64 R))
        have y0 : (0 : Int) ≤ (yn : Int) := by omega
        have z0 : (0 : Int) ≤ (zn : Int) := by omega
        have y1 : (yn : Int) < (n : Int) := by omega
        have z1 : (zn : Int) < (n : Int) := by omega
        clear hblk hB hblk1 hbox q1 q2 q3 q4 h2 h3 h4 h5 hd hms hset cy0 cz0 hay haz hR hblk2 hbox2 gset hB2 hblk3 HBL2 hW2 by1 bz1
        go_wp2_with fail
        rw [HW2.out]
        clear hW1
        refine wp_region_held_drew (S := (fun w' => w'.cell? ⟨wr.heap.size, 1, none⟩ = some (.int .i64 (yn : Int)) ∧ w'.cell? ⟨wr.heap.size, 2, none⟩ = some (.int .i64 (zn : Int)) ∧ w'.cell? ⟨w.heap.size, yn, none⟩ = some (.int .i64 ay) ∧ w'.cell? ⟨w.heap.size, zn, none⟩ = some (.int .i64 az))) (by kernel_rfl) ?_ (fun hHeld => ?_)
        · first | exact HPUT.out | exact ⟨e1, e2, e3, e4⟩ | go_keep
        refine wpAnyH_take (i := 0) (v := ?_) rfl (by kernel_rfl) (by kernel_rfl) (by kernel_rfl) (fun _ _ _ h => h) (Or.inl ⟨by rfl, ?_⟩) (by assumption) ?_
        rotate_left
        · intro w hSw; (try dsimp only at hSw); go_simp <;> with_reducible rfl
        try simp only [List.getElem_toArray, List.getElem_cons_zero, Act.put, List.setIfInBounds_toArray, List.set_cons_zero, List.set_cons_succ]
        refine wpAnyH_take (i := 1) (v := ?_) rfl (by kernel_rfl) (by kernel_rfl) (by kernel_rfl) (fun _ _ _ h => h) (Or.inl ⟨by rfl, ?_⟩) (by assumption) ?_
        rotate_left
        · intro w hSw; (try dsimp only at hSw); go_simp <;> with_reducible rfl
        try simp only [List.getElem_toArray, List.getElem_cons_succ, List.getElem_cons_zero, Act.put, List.setIfInBounds_toArray, List.set_cons_zero, List.set_cons_succ]
        refine wpAnyH_take (i := 2) (v := ?_) rfl (by kernel_rfl) (by kernel_rfl) (by kernel_rfl) (fun _ _ _ h => h) (Or.inl ⟨by rfl, ?_⟩) (by assumption) ?_
        rotate_left
        · intro w hSw; (try dsimp only at hSw); go_simp <;> with_reducible rfl
        try simp only [List.getElem_toArray, List.getElem_cons_succ, List.getElem_cons_zero, Act.put, List.setIfInBounds_toArray, List.set_cons_zero, List.set_cons_succ]
        refine wpAnyH_take (i := 3) (v := ?_) rfl (by kernel_rfl) (by kernel_rfl) (by kernel_rfl) (fun _ _ _ h => h) (Or.inl ⟨by rfl, ?_⟩) (by assumption) ?_
        rotate_left
        · intro w hSw; (try dsimp only at hSw); go_simp <;> with_reducible rfl
        try simp only [List.getElem_toArray, List.getElem_cons_succ, List.getElem_cons_zero, Act.put, List.setIfInBounds_toArray, List.set_cons_zero, List.set_cons_succ]
        refine wpAnyH_take (i := 4) (v := ?_) rfl (by kernel_rfl) (by kernel_rfl) (by kernel_rfl) (fun _ _ _ h => h) (Or.inl ⟨by rfl, ?_⟩) (by assumption) ?_
        rotate_left
        · intro w hSw; (try dsimp only at hSw); go_simp <;> with_reducible rfl
        try simp only [List.getElem_toArray, List.getElem_cons_succ, List.getElem_cons_zero, Act.put, List.setIfInBounds_toArray, List.set_cons_zero, List.set_cons_succ]
        refine wpAnyH_take (i := 5) (v := ?_) rfl (by kernel_rfl) (by kernel_rfl) (by kernel_rfl) (fun _ _ _ h => h) (Or.inl ⟨by rfl, ?_⟩) (by assumption) ?_
        rotate_left
        · intro w hSw; (try dsimp only at hSw); go_simp <;> with_reducible rfl
        try simp only [List.getElem_toArray, List.getElem_cons_succ, List.getElem_cons_zero, Act.put, List.setIfInBounds_toArray, List.set_cons_zero, List.set_cons_succ]
        refine wpAnyH_take (i := 6) (v := ?_) rfl (by kernel_rfl) (by kernel_rfl) (by kernel_rfl) (fun _ _ _ h => h) (Or.inl ⟨by rfl, ?_⟩) (by assumption) ?_
        rotate_left
        · intro w hSw; (try dsimp only at hSw); go_simp <;> with_reducible rfl
        try simp only [List.getElem_toArray, List.getElem_cons_succ, List.getElem_cons_zero, Act.put, List.setIfInBounds_toArray, List.set_cons_zero, List.set_cons_succ]
        refine wpAnyH_take (i := 7) (v := ?_) rfl (by kernel_rfl) (by kernel_rfl) (by kernel_rfl) (fun _ _ _ h => h) (Or.inl ⟨by rfl, ?_⟩) (by assumption) ?_
        rotate_left
        · intro w hSw; (try dsimp only at hSw); go_simp <;> with_reducible rfl
        try simp only [List.getElem_toArray, List.getElem_cons_succ, List.getElem_cons_zero, Act.put, List.setIfInBounds_toArray, List.set_cons_zero, List.set_cons_succ]
        refine wpAnyH_take (i := 8) (v := ?_) rfl (by kernel_rfl) (by kernel_rfl) (by kernel_rfl) (fun _ _ _ h => h) (Or.inl ⟨by rfl, ?_⟩) (by assumption) ?_
        rotate_left
        · intro w hSw; (try dsimp only at hSw); go_simp <;> with_reducible rfl
        try simp only [List.getElem_toArray, List.getElem_cons_succ, List.getElem_cons_zero, Act.put, List.setIfInBounds_toArray, List.set_cons_zero, List.set_cons_succ]
        refine wpAnyH_take (i := 9) (v := ?_) rfl (by kernel_rfl) (by kernel_rfl) (by kernel_rfl) (fun _ _ _ h => h) (Or.inl ⟨by rfl, ?_⟩) (by assumption) ?_
        rotate_left
        · intro w hSw; (try dsimp only at hSw); go_simp <;> with_reducible rfl
        try simp only [List.getElem_toArray, List.getElem_cons_succ, List.getElem_cons_zero, Act.put, List.setIfInBounds_toArray, List.set_cons_zero, List.set_cons_succ]
        refine wpAnyH_take (i := 10) (v := ?_) rfl (by kernel_rfl) (by kernel_rfl) (by kernel_rfl) (fun _ _ _ h => h) (Or.inl ⟨by rfl, ?_⟩) (by assumption) ?_
        rotate_left
        · intro w hSw; (try dsimp only at hSw); go_simp <;> with_reducible rfl
        try simp only [List.getElem_toArray, List.getElem_cons_succ, List.getElem_cons_zero, Act.put, List.setIfInBounds_toArray, List.set_cons_zero, List.set_cons_succ]
        refine wpAnyH_take (i := 11) (v := ?_) rfl (by kernel_rfl) (by kernel_rfl) (by kernel_rfl) (fun _ _ _ h => h) (Or.inl ⟨by rfl, ?_⟩) (by assumption) ?_
        rotate_left
        · intro w hSw; (try dsimp only at hSw); go_simp <;> with_reducible rfl
        try simp only [List.getElem_toArray, List.getElem_cons_succ, List.getElem_cons_zero, Act.put, List.setIfInBounds_toArray, List.set_cons_zero, List.set_cons_succ]
        refine wpAnyH_take (i := 12) (v := ?_) rfl (by kernel_rfl) (by kernel_rfl) (by kernel_rfl) (fun _ _ _ h => h) (Or.inl ⟨by rfl, ?_⟩) (by assumption) ?_
        rotate_left
        · intro w hSw; (try dsimp only at hSw); go_simp <;> with_reducible rfl
        try simp only [List.getElem_toArray, List.getElem_cons_succ, List.getElem_cons_zero, Act.put, List.setIfInBounds_toArray, List.set_cons_zero, List.set_cons_succ]
        refine wpAnyH_ready (rs := [13]) (by kernel_rfl) (by simp) (AllReadyH.cons rfl (fun K hK => ?_) AllReadyH.nil)
        go_simp
        go_at_call 153; ((with_reducible refine (CF.out _).mono ?_); rintro e w5 ⟨rfl, rfl⟩)
        try go_wp2_with fail
        refine hK.out _ _ ?_ (fun hHeld => ?_)
        · first | exact HPUT.out | exact ⟨e1, e2, e3, e4⟩ | go_keep
        clear hK K
        try simp only [List.getElem_toArray, List.getElem_cons_succ, List.getElem_cons_zero, Act.put, List.setIfInBounds_toArray, List.set_cons_zero, List.set_cons_succ]
        refine wpAnyH_take (i := 14) (v := ?_) rfl (by kernel_rfl) (by kernel_rfl) (by kernel_rfl) (fun _ _ _ h => h) (Or.inl ⟨by rfl, ?_⟩) (by assumption) ?_
        rotate_left
        · intro w hSw; (try dsimp only at hSw); go_simp <;> with_reducible rfl
        try simp only [List.getElem_toArray, List.getElem_cons_succ, List.getElem_cons_zero, Act.put, List.setIfInBounds_toArray, List.set_cons_zero, List.set_cons_succ]
        refine wpAnyH_ready (rs := [15]) (by kernel_rfl) (by simp) (AllReadyH.cons rfl (fun K hK => ?_) AllReadyH.nil)
        go_simp
        skip
        try go_wp2_with fail
        refine hK.out _ _ ?_ (fun hHeld => ?_)
        · first | exact HPUT.out | exact ⟨e1, e2, e3, e4⟩ | go_keep
        clear hK K
        try simp only [List.getElem_toArray, List.getElem_cons_succ, List.getElem_cons_zero, Act.put, List.setIfInBounds_toArray, List.set_cons_zero, List.set_cons_succ]
        refine wpAnyH_done (by kernel_rfl) ?_ _
        go_wp2_with fail
        go_roundw
        case rel => exact ⟨k + 1, by omega, by go_num, HBK3.out, HB2.out.drew⟩
        case measure => simp [intOf]; omega
    · obtain rfl : n = k := by omega
      have hfin : wr.cell? ⟨w.heap.size, n - 1, none⟩ = some (.int .i64 ((mesL cntF pp n).getD (n - 1) 0)) := by rw [hblk.cell, msC_old _ _ (by omega) (by omega)]
      have hfin2 : wr.cell? ⟨w.heap.size, ((n : Int) - 1).toNat, none⟩ = some (.int .i64 ((mesL cntF pp n).getD (n - 1) 0)) := by rw [show ((n : Int) - 1).toNat = n - 1 by omega]; exact hfin
      have hn0 : (0 : Int) ≤ (n : Int) - 1 := by omega
      have hn9 : (n : Int) - 1 < (n : Int) := by omega
      clear hblk hB
      go_wp2
      go_ret
      exact ⟨rfl, HB.out⟩

end Go.Proofs.Ytippmpcaongolaa

/- Contract: kernel.measured by the height's function. -/
namespace Go.Proofs.Ytippmpcaongolaa
open Go.RowKit

theorem hgt_call (a b : Int) (ha : 0 ≤ a ∧ a ≤ 576460752303423487) (hb : 0 ≤ b ∧ b ≤ 576460752303423487) (V : World) : Calls Try.prog 110 #[.int .i64 a, .int .i64 b] V fun e w' => e = .returned (.int .i64 (hgtF a b)) ∧ V = w' := by
  obtain ⟨ha0, ha1⟩ := ha
  obtain ⟨hb0, hb1⟩ := hb
  go_enter Try.func110, Try.ntmps110
  go_wp2
  all_goals
    go_ret
    refine ⟨?_, rfl⟩
    first
      | (show Ending.returned (Value.int .i64 (b + 1)) = _; rw [hgtF_is, show max a b = b by omega])
      | (show Ending.returned (Value.int .i64 (a + 1)) = _; rw [hgtF_is, show max a b = a by omega])

set_option maxRecDepth 100000 in
set_option maxHeartbeats 2000000 in
theorem measured_hgt (g : Int) (A : Option Addr) (n c : Nat) (pp : List Stp) (w : World) (hp : StepsAt w w.heap.size A n pp) (hok : proofOk g pp = true) :
    Calls Try.prog 109 #[.slice A n c, .func (.func 110) #[] #[]] w fun e w' => e = .returned (.int .i64 ((mesL hgtF pp n).getD (n - 1) 0)) ∧ Below w.heap.size w w' := by
  obtain ⟨_, hl60, hto⟩ := proofOk_to hok
  have hlp := hp.len
  have hn1 : 1 ≤ n := by omega
  have hn60 : n ≤ 60 := by omega
  obtain ⟨i0, hi, hz0, hz1, hz2⟩ := info_parts info_int
  have hmk : ∀ W : World, (Instr.makeSlice 24 (.int .i64 (n : Int)) (.int .i64 (n : Int))).run Try.prog W = .ok (.slice (some ⟨W.heap.size, 0, none⟩) n n) (W.alloc (.cells (msC hgtF pp n 0) 3)) := by
    intro W
    have e : msC hgtF pp n 0 = madeCells #[.int .i64 0] (n * 1) := by
      unfold msC madeCells
      apply Array.ext
      · simp [mesL]
      · intro i h1 h2
        simp [mesL, Nat.mod_one]
    rw [e]
    have := run_make_rowN (P := Try.prog) 24 3 i0 _ Try.underlying24 hi hz0 .i64 .i64 n n (Nat.le_refl _) (by rw [hz2]; omega) (by omega) W
    rw [hz1] at this
    exact this
  have HTO := Lib.hid (fun k (hk : k < n) (x : Stp) (hx : pp[k]? = some x) => show (x.1 = 1 ∧ 0 ≤ x.2.1 ∧ x.2.1 < g ∧ x.2.2 = 0) ∨ (x.1 = 2 ∧ 0 ≤ x.2.1 ∧ x.2.1 < (k : Int) ∧ 0 ≤ x.2.2 ∧ x.2.2 < (k : Int)) from stepOk_num (hto k (by omega) x hx))
  have HBD := Lib.hid (fun (k j : Nat) (hk : k < n) (hj : j < k) => show 0 ≤ (mesL hgtF pp k).getD j 0 ∧ (mesL hgtF pp k).getD j 0 ≤ 576460752303423487 from by
    obtain ⟨h1, h2⟩ := hgt_bound hto k (by omega) j hj
    omega)
  have HP := Lib.hid hp
  clear hp hok hto hl60 hlp
  go_enter Try.func109, Try.ntmps109
  go_wp2_with fail
  clear hmk hi hz0 hz1 hz2
  go_loopw [13] (fun i wr => ∃ k : Nat, k ≤ n ∧ i = .int .i64 k ∧ Blk wr w.heap.size 3 (msC hgtF pp n k) ∧ Below w.heap.size w wr) (fun i _ => n - (intOf i).toNat)
  case atStart => exact ⟨0, Nat.zero_le _, rfl, Blk.new _ _ _, (Below.refl _ _).alloc (Nat.le_refl _) _⟩
  case round =>
    obtain ⟨k, hk, rfl, hblk, hB⟩ := hrel
    have HB := Lib.hid hB
    have HBK := Lib.hid hblk
    by_cases hlt : k < n
    · obtain ⟨b, off, x, y, z, rfl, hb', q1, q2, q3, q4⟩ := HP.out.cellAt hlt
      have r1 := (hB.cell (p := ⟨b, off + k * 3, none⟩) hb').trans q1
      have r2 := (hB.cell (p := ⟨b, off + k * 3 + 1, none⟩) hb').trans q2
      have r3 := (hB.cell (p := ⟨b, off + k * 3 + 2, none⟩) hb').trans q3
      have hk0 : (0 : Int) ≤ (k : Int) := by omega
      have hk1 : (k : Int) < (n : Int) := by omega
      have hd2 : (k : Int) + 1 ≤ 60 := by omega
      have hd : pp.getD k (0, 0, 0) = (x, y, z) := by rw [List.getD_eq_getElem?_getD, q4]; rfl
      have hgw : w.heap.size < wr.heap.size := hblk.lt
      obtain ⟨W1, hW1⟩ : ∃ W1, wr.alloc (.cells #[.int .i64 x, .int .i64 y, .int .i64 z] 123) = W1 := ⟨_, rfl⟩
      have hS1 : W1.heap.size = wr.heap.size + 1 := by rw [← hW1]; simp
      have hbox : Blk W1 wr.heap.size 123 #[.int .i64 x, .int .i64 y, .int .i64 z] := by rw [← hW1]; exact Blk.new _ _ _
      have hblk1 : Blk W1 w.heap.size 3 (msC hgtF pp n k) := by rw [← hW1]; exact hblk.alloc _
      have HW1 := Lib.hid hW1
      have c0 : W1.cell? ⟨wr.heap.size, 0, none⟩ = some (.int .i64 x) := hbox.cell 0
      have m0 : W1.cell? ⟨w.heap.size, k, none⟩ = some (.int .i64 0) := by rw [hblk1.cell, msC_at_k _ _ (by omega)]
      have m1 : W1.frozen? ⟨w.heap.size, k, none⟩ = false := hblk1.frozen k
      rcases HTO.out k hlt _ q4 with ⟨h1, h2, h3, h4⟩ | ⟨h1, h2, h3, h4, h5⟩
      · simp only at h1
        subst h1
        have HN := Lib.hid (show Blk (W1.setCell ⟨w.heap.size, k, none⟩ (.int .i64 1)) w.heap.size 3 (msC hgtF pp n (k + 1)) from by
          have h := hblk1.set_ k (.int .i64 1)
          rw [← msC_set _ _ hlt]
          rw [show mesA hgtF pp k (mesL hgtF pp k) = 1 from by unfold mesA; rw [hd, if_neg (by simp)]]
          exact h)
        have HBN := Lib.hid (show Below w.heap.size w (W1.setCell ⟨w.heap.size, k, none⟩ (.int .i64 1)) from by rw [← hW1]; exact (bel_al HB.out _).setCell (Nat.le_refl _) _)
        clear hblk hB hblk1 hbox q1 q2 q3 q4 h2 h3 h4 hd
        go_wp2_with fail
        go_roundw
        case rel => exact ⟨k + 1, by omega, by go_num, HN.out, HBN.out⟩
        case measure => simp [intOf]; omega
      · simp only at h1 h2 h3 h4 h5
        subst h1
        obtain ⟨yn, rfl⟩ := Int.eq_ofNat_of_zero_le h2
        obtain ⟨zn, rfl⟩ := Int.eq_ofNat_of_zero_le h4
        have hyn : yn < k := by omega
        have hzn : zn < k := by omega
        have by1 := HBD.out k yn hlt hyn
        have bz1 := HBD.out k zn hlt hzn
        have hms : mesA hgtF pp k (mesL hgtF pp k) = hgtF ((mesL hgtF pp k).getD yn 0) ((mesL hgtF pp k).getD zn 0) := by unfold mesA; rw [hd, if_pos rfl]; simp only [Int.toNat_natCast]
        have hset := msC_set hgtF pp hlt
        rw [hms] at hset
        have cy0 : (msC hgtF pp n k)[yn]? = some (.int .i64 ((mesL hgtF pp k).getD yn 0)) := msC_old _ _ (by omega) hyn
        have cz0 : (msC hgtF pp n k)[zn]? = some (.int .i64 ((mesL hgtF pp k).getD zn 0)) := msC_old _ _ (by omega) hzn
        obtain ⟨ay, hay⟩ : ∃ ay, (mesL hgtF pp k).getD yn 0 = ay := ⟨_, rfl⟩
        obtain ⟨az, haz⟩ : ∃ az, (mesL hgtF pp k).getD zn 0 = az := ⟨_, rfl⟩
        rw [hay] at by1 hset cy0
        rw [haz] at bz1 hset cz0
        have CF := Lib.hid (hgt_call ay az by1 bz1)
        obtain ⟨R, hR⟩ : ∃ R, hgtF ay az = R := ⟨_, rfl⟩
        rw [hR] at CF hset
        have hblk2 := hblk1.set_ k (.int .i64 1)
        have HBL2 := Lib.hid hblk2
        have hbox2 : Blk (W1.setCell ⟨w.heap.size, k, none⟩ (.int .i64 1)) wr.heap.size 123 #[.int .i64 2, .int .i64 (yn : Int), .int .i64 (zn : Int)] := hbox.far (p := ⟨w.heap.size, k, none⟩) (by simp only; omega) _
        have gset : ∀ (X : Array Value) (j : Nat) (u : Value), j ≠ k → (X.setIfInBounds k u)[j]? = X[j]? := fun X j u hj => Array.getElem?_setIfInBounds_ne (Ne.symm hj)
        have hB2 : Below w.heap.size w (W1.setCell ⟨w.heap.size, k, none⟩ (.int .i64 1)) := by rw [← hW1]; exact (bel_al HB.out _).setCell (Nat.le_refl _) _
        obtain ⟨W2, hW2⟩ : ∃ W2, W1.setCell ⟨w.heap.size, k, none⟩ (.int .i64 1) = W2 := ⟨_, rfl⟩
        rw [hW2] at hblk2 hbox2 hB2
        have HW2 := Lib.hid hW2
        have e1 : W2.cell? ⟨wr.heap.size, 1, none⟩ = some (.int .i64 (yn : Int)) := hbox2.cell 1
        have e2 : W2.cell? ⟨wr.heap.size, 2, none⟩ = some (.int .i64 (zn : Int)) := hbox2.cell 2
        have e3 : W2.cell? ⟨w.heap.size, yn, none⟩ = some (.int .i64 ay) := by rw [hblk2.cell, gset _ _ _ (by omega)]; exact cy0
        have e4 : W2.cell? ⟨w.heap.size, zn, none⟩ = some (.int .i64 az) := by rw [hblk2.cell, gset _ _ _ (by omega)]; exact cz0
        have e5 : W2.cell? ⟨w.heap.size, k, none⟩ = some (.int .i64 1) := by rw [hblk2.cell, Array.getElem?_setIfInBounds_self_of_lt]; rw [msC_size _ _ (by omega)]; exact hlt
        have e6 : W2.frozen? ⟨w.heap.size, k, none⟩ = false := hblk2.frozen k
        have hblk3 : Blk (W2.setCell ⟨w.heap.size, k, none⟩ (.int .i64 R)) w.heap.size 3 (msC hgtF pp n (k + 1)) := by
          have h := hblk2.set_ k (.int .i64 R)
          rw [Array.setIfInBounds_setIfInBounds, hset] at h
          exact h
        have HPUT := Lib.hid (show (W2.setCell ⟨w.heap.size, k, none⟩ (.int .i64 R)).cell? ⟨wr.heap.size, 1, none⟩ = some (.int .i64 (yn : Int)) ∧ (W2.setCell ⟨w.heap.size, k, none⟩ (.int .i64 R)).cell? ⟨wr.heap.size, 2, none⟩ = some (.int .i64 (zn : Int)) ∧ (W2.setCell ⟨w.heap.size, k, none⟩ (.int .i64 R)).cell? ⟨w.heap.size, yn, none⟩ = some (.int .i64 ay) ∧ (W2.setCell ⟨w.heap.size, k, none⟩ (.int .i64 R)).cell? ⟨w.heap.size, zn, none⟩ = some (.int .i64 az) from
          ⟨(hbox2.far (p := ⟨w.heap.size, k, none⟩) (by simp only; omega) _).cell 1, (hbox2.far (p := ⟨w.heap.size, k, none⟩) (by simp only; omega) _).cell 2, by rw [hblk3.cell]; exact (msC_old _ _ (by omega) (by omega)).trans (by rw [mesL_old _ _ hyn, hay]), by rw [hblk3.cell]; exact (msC_old _ _ (by omega) (by omega)).trans (by rw [mesL_old _ _ hzn, haz])⟩)
        have HBK3 := Lib.hid hblk3
        have HB2 := Lib.hid (hB2.setCell (p := ⟨w.heap.size, k, none⟩) (Nat.le_refl _) (.int .i64 R))
        have y0 : (0 : Int) ≤ (yn : Int) := by omega
        have z0 : (0 : Int) ≤ (zn : Int) := by omega
        have y1 : (yn : Int) < (n : Int) := by omega
        have z1 : (zn : Int) < (n : Int) := by omega
        clear hblk hB hblk1 hbox q1 q2 q3 q4 h2 h3 h4 h5 hd hms hset cy0 cz0 hay haz hR hblk2 hbox2 gset hB2 hblk3 HBL2 hW2 by1 bz1
        go_wp2_with fail
        rw [HW2.out]
        clear hW1
        refine wp_region_held_drew (S := (fun w' => w'.cell? ⟨wr.heap.size, 1, none⟩ = some (.int .i64 (yn : Int)) ∧ w'.cell? ⟨wr.heap.size, 2, none⟩ = some (.int .i64 (zn : Int)) ∧ w'.cell? ⟨w.heap.size, yn, none⟩ = some (.int .i64 ay) ∧ w'.cell? ⟨w.heap.size, zn, none⟩ = some (.int .i64 az))) (by kernel_rfl) ?_ (fun hHeld => ?_)
        · first | exact HPUT.out | exact ⟨e1, e2, e3, e4⟩ | go_keep
        refine wpAnyH_take (i := 0) (v := ?_) rfl (by kernel_rfl) (by kernel_rfl) (by kernel_rfl) (fun _ _ _ h => h) (Or.inl ⟨by rfl, ?_⟩) (by assumption) ?_
        rotate_left
        · intro w hSw; (try dsimp only at hSw); go_simp <;> with_reducible rfl
        try simp only [List.getElem_toArray, List.getElem_cons_zero, Act.put, List.setIfInBounds_toArray, List.set_cons_zero, List.set_cons_succ]
        refine wpAnyH_take (i := 1) (v := ?_) rfl (by kernel_rfl) (by kernel_rfl) (by kernel_rfl) (fun _ _ _ h => h) (Or.inl ⟨by rfl, ?_⟩) (by assumption) ?_
        rotate_left
        · intro w hSw; (try dsimp only at hSw); go_simp <;> with_reducible rfl
        try simp only [List.getElem_toArray, List.getElem_cons_succ, List.getElem_cons_zero, Act.put, List.setIfInBounds_toArray, List.set_cons_zero, List.set_cons_succ]
        refine wpAnyH_take (i := 2) (v := ?_) rfl (by kernel_rfl) (by kernel_rfl) (by kernel_rfl) (fun _ _ _ h => h) (Or.inl ⟨by rfl, ?_⟩) (by assumption) ?_
        rotate_left
        · intro w hSw; (try dsimp only at hSw); go_simp <;> with_reducible rfl
        try simp only [List.getElem_toArray, List.getElem_cons_succ, List.getElem_cons_zero, Act.put, List.setIfInBounds_toArray, List.set_cons_zero, List.set_cons_succ]
        refine wpAnyH_take (i := 3) (v := ?_) rfl (by kernel_rfl) (by kernel_rfl) (by kernel_rfl) (fun _ _ _ h => h) (Or.inl ⟨by rfl, ?_⟩) (by assumption) ?_
        rotate_left
        · intro w hSw; (try dsimp only at hSw); go_simp <;> with_reducible rfl
        try simp only [List.getElem_toArray, List.getElem_cons_succ, List.getElem_cons_zero, Act.put, List.setIfInBounds_toArray, List.set_cons_zero, List.set_cons_succ]
        refine wpAnyH_take (i := 4) (v := ?_) rfl (by kernel_rfl) (by kernel_rfl) (by kernel_rfl) (fun _ _ _ h => h) (Or.inl ⟨by rfl, ?_⟩) (by assumption) ?_
        rotate_left
        · intro w hSw; (try dsimp only at hSw); go_simp <;> with_reducible rfl
        try simp only [List.getElem_toArray, List.getElem_cons_succ, List.getElem_cons_zero, Act.put, List.setIfInBounds_toArray, List.set_cons_zero, List.set_cons_succ]
        refine wpAnyH_take (i := 5) (v := ?_) rfl (by kernel_rfl) (by kernel_rfl) (by kernel_rfl) (fun _ _ _ h => h) (Or.inl ⟨by rfl, ?_⟩) (by assumption) ?_
        rotate_left
        · intro w hSw; (try dsimp only at hSw); go_simp <;> with_reducible rfl
        try simp only [List.getElem_toArray, List.getElem_cons_succ, List.getElem_cons_zero, Act.put, List.setIfInBounds_toArray, List.set_cons_zero, List.set_cons_succ]
        refine wpAnyH_take (i := 6) (v := ?_) rfl (by kernel_rfl) (by kernel_rfl) (by kernel_rfl) (fun _ _ _ h => h) (Or.inl ⟨by rfl, ?_⟩) (by assumption) ?_
        rotate_left
        · intro w hSw; (try dsimp only at hSw); go_simp <;> with_reducible rfl
        try simp only [List.getElem_toArray, List.getElem_cons_succ, List.getElem_cons_zero, Act.put, List.setIfInBounds_toArray, List.set_cons_zero, List.set_cons_succ]
        refine wpAnyH_take (i := 7) (v := ?_) rfl (by kernel_rfl) (by kernel_rfl) (by kernel_rfl) (fun _ _ _ h => h) (Or.inl ⟨by rfl, ?_⟩) (by assumption) ?_
        rotate_left
        · intro w hSw; (try dsimp only at hSw); go_simp <;> with_reducible rfl
        try simp only [List.getElem_toArray, List.getElem_cons_succ, List.getElem_cons_zero, Act.put, List.setIfInBounds_toArray, List.set_cons_zero, List.set_cons_succ]
        refine wpAnyH_take (i := 8) (v := ?_) rfl (by kernel_rfl) (by kernel_rfl) (by kernel_rfl) (fun _ _ _ h => h) (Or.inl ⟨by rfl, ?_⟩) (by assumption) ?_
        rotate_left
        · intro w hSw; (try dsimp only at hSw); go_simp <;> with_reducible rfl
        try simp only [List.getElem_toArray, List.getElem_cons_succ, List.getElem_cons_zero, Act.put, List.setIfInBounds_toArray, List.set_cons_zero, List.set_cons_succ]
        refine wpAnyH_take (i := 9) (v := ?_) rfl (by kernel_rfl) (by kernel_rfl) (by kernel_rfl) (fun _ _ _ h => h) (Or.inl ⟨by rfl, ?_⟩) (by assumption) ?_
        rotate_left
        · intro w hSw; (try dsimp only at hSw); go_simp <;> with_reducible rfl
        try simp only [List.getElem_toArray, List.getElem_cons_succ, List.getElem_cons_zero, Act.put, List.setIfInBounds_toArray, List.set_cons_zero, List.set_cons_succ]
        refine wpAnyH_take (i := 10) (v := ?_) rfl (by kernel_rfl) (by kernel_rfl) (by kernel_rfl) (fun _ _ _ h => h) (Or.inl ⟨by rfl, ?_⟩) (by assumption) ?_
        rotate_left
        · intro w hSw; (try dsimp only at hSw); go_simp <;> with_reducible rfl
        try simp only [List.getElem_toArray, List.getElem_cons_succ, List.getElem_cons_zero, Act.put, List.setIfInBounds_toArray, List.set_cons_zero, List.set_cons_succ]
        refine wpAnyH_take (i := 11) (v := ?_) rfl (by kernel_rfl) (by kernel_rfl) (by kernel_rfl) (fun _ _ _ h => h) (Or.inl ⟨by rfl, ?_⟩) (by assumption) ?_
        rotate_left
        · intro w hSw; (try dsimp only at hSw); go_simp <;> with_reducible rfl
        try simp only [List.getElem_toArray, List.getElem_cons_succ, List.getElem_cons_zero, Act.put, List.setIfInBounds_toArray, List.set_cons_zero, List.set_cons_succ]
        refine wpAnyH_take (i := 12) (v := ?_) rfl (by kernel_rfl) (by kernel_rfl) (by kernel_rfl) (fun _ _ _ h => h) (Or.inl ⟨by rfl, ?_⟩) (by assumption) ?_
        rotate_left
        · intro w hSw; (try dsimp only at hSw); go_simp <;> with_reducible rfl
        try simp only [List.getElem_toArray, List.getElem_cons_succ, List.getElem_cons_zero, Act.put, List.setIfInBounds_toArray, List.set_cons_zero, List.set_cons_succ]
        refine wpAnyH_ready (rs := [13]) (by kernel_rfl) (by simp) (AllReadyH.cons rfl (fun K hK => ?_) AllReadyH.nil)
        go_simp
        go_at_call 110; ((with_reducible refine (CF.out _).mono ?_); rintro e w5 ⟨rfl, rfl⟩)
        try go_wp2_with fail
        refine hK.out _ _ ?_ (fun hHeld => ?_)
        · first | exact HPUT.out | exact ⟨e1, e2, e3, e4⟩ | go_keep
        clear hK K
        try simp only [List.getElem_toArray, List.getElem_cons_succ, List.getElem_cons_zero, Act.put, List.setIfInBounds_toArray, List.set_cons_zero, List.set_cons_succ]
        refine wpAnyH_take (i := 14) (v := ?_) rfl (by kernel_rfl) (by kernel_rfl) (by kernel_rfl) (fun _ _ _ h => h) (Or.inl ⟨by rfl, ?_⟩) (by assumption) ?_
        rotate_left
        · intro w hSw; (try dsimp only at hSw); go_simp <;> with_reducible rfl
        try simp only [List.getElem_toArray, List.getElem_cons_succ, List.getElem_cons_zero, Act.put, List.setIfInBounds_toArray, List.set_cons_zero, List.set_cons_succ]
        refine wpAnyH_ready (rs := [15]) (by kernel_rfl) (by simp) (AllReadyH.cons rfl (fun K hK => ?_) AllReadyH.nil)
        go_simp
        skip
        try go_wp2_with fail
        refine hK.out _ _ ?_ (fun hHeld => ?_)
        · first | exact HPUT.out | exact ⟨e1, e2, e3, e4⟩ | go_keep
        clear hK K
        try simp only [List.getElem_toArray, List.getElem_cons_succ, List.getElem_cons_zero, Act.put, List.setIfInBounds_toArray, List.set_cons_zero, List.set_cons_succ]
        refine wpAnyH_done (by kernel_rfl) ?_ _
        go_wp2_with fail
        go_roundw
        case rel => exact ⟨k + 1, by omega, by go_num, HBK3.out, HB2.out.drew⟩
        case measure => simp [intOf]; omega
    · obtain rfl : n = k := by omega
      have hfin : wr.cell? ⟨w.heap.size, n - 1, none⟩ = some (.int .i64 ((mesL hgtF pp n).getD (n - 1) 0)) := by rw [hblk.cell, msC_old _ _ (by omega) (by omega)]
      have hfin2 : wr.cell? ⟨w.heap.size, ((n : Int) - 1).toNat, none⟩ = some (.int .i64 ((mesL hgtF pp n).getD (n - 1) 0)) := by rw [show ((n : Int) - 1).toNat = n - 1 by omega]; exact hfin
      have hn0 : (0 : Int) ≤ (n : Int) - 1 := by omega
      have hn9 : (n : Int) - 1 < (n : Int) := by omega
      clear hblk hB
      go_wp2
      go_ret
      exact ⟨rfl, HB.out⟩

end Go.Proofs.Ytippmpcaongolaa

/- Contract: the reference's sums. -/
namespace Go.Proofs.Ytippmpcaongolaa
open Go.RowKit

theorem row_int_snoc {w : World} {base k : Nat} {v : Value} {zs : List Int} {z : Int} (h : w.ownsRow base 3 1 v k (zs.map (Value.int .i64) ++ [.int .i64 z])) : w.ownsRow base 3 1 v k ((zs ++ [z]).map (Value.int .i64)) := by
  rw [List.map_append]; exact h
theorem below_drewN_or {a b c : World} (h : Below a.heap.size a b) (k : Below b.heap.size b c) : Below a.heap.size a c := below_then h k

set_option maxRecDepth 100000 in
set_option maxHeartbeats 2000000 in
theorem sums_any (leaf most g : Int) (A : Option Addr) (n c : Nat) (pp : List Stp) (w : World) (hp : StepsAt w w.heap.size A n pp) (hok : proofOk g pp = true) (hf0 : 0 ≤ leaf) (_hf1 : leaf ≤ 1000) (hm0 : 0 ≤ most) (hm1 : most ≤ 1000000000000000) :
    Calls Try.prog 104 #[.slice A n c, .int .i64 leaf, .int .i64 most] w fun e w' => ∃ A' c', e = .returned (.slice A' n c') ∧ IntsAt w' w'.heap.size A' n (sumL leaf most pp n) ∧ Below w.heap.size w w' := by
  obtain ⟨_, hl60, hto⟩ := proofOk_to hok
  have hlp := hp.len
  have hn1 : 1 ≤ n := by omega
  have hn60 : n ≤ 60 := by omega
  obtain ⟨i0, hi, hz0, hz1, hz2⟩ := info_parts info_int
  have HTO := Lib.hid (fun k (hk : k < n) (x : Stp) (hx : pp[k]? = some x) => show (x.1 = 1 ∧ 0 ≤ x.2.1 ∧ x.2.1 < g ∧ x.2.2 = 0) ∨ (x.1 = 2 ∧ 0 ≤ x.2.1 ∧ x.2.1 < (k : Int) ∧ 0 ≤ x.2.2 ∧ x.2.2 < (k : Int)) from stepOk_num (hto k (by omega) x hx))
  have HBD := Lib.hid (fun (k j : Nat) (hk : k < n) (hj : j < k) => sum_bound hf0 hm0 hto k (by omega) j hj)
  have HP := Lib.hid hp
  clear hp hok hto hl60 hlp
  go_enter Try.func104, Try.ntmps104
  go_wp2_with fail
  go_loopw [7, 8] (fun v i wr => ∃ (k : Nat) (Av : Option Addr) (cv : Nat), k ≤ n ∧ i = .int .i64 k ∧ v = .slice Av k cv ∧ wr.ownsRow w.heap.size 3 1 (.slice Av k cv) k ((sumL leaf most pp k).map (Value.int .i64)) ∧ Below w.heap.size w wr) (fun _ i _ => n - (intOf i).toNat)
  case atStart => exact ⟨0, none, 0, Nat.zero_le _, rfl, rfl, World.ownsRow_nil _ _ _ _, Below.refl _ _⟩
  case round =>
    obtain ⟨k, Av, cv, hk, rfl, rfl, hrow, hB⟩ := hrel
    have HB := Lib.hid hB
    have HR := Lib.hid hrow
    by_cases hlt : k < n
    · obtain ⟨b, off, x, y, z, rfl, hb', q1, q2, q3, q4⟩ := HP.out.cellAt hlt
      have r1 := (hB.cell (p := ⟨b, off + k * 3, none⟩) hb').trans q1
      have r2 := (hB.cell (p := ⟨b, off + k * 3 + 1, none⟩) hb').trans q2
      have r3 := (hB.cell (p := ⟨b, off + k * 3 + 2, none⟩) hb').trans q3
      have hk0 : (0 : Int) ≤ (k : Int) := by omega
      have hk1 : (k : Int) < (n : Int) := by omega
      have hd : pp.getD k (0, 0, 0) = (x, y, z) := by rw [List.getD_eq_getElem?_getD, q4]; rfl
      rcases HTO.out k hlt _ q4 with ⟨h1, h2, h3, h4⟩ | ⟨h1, h2, h3, h4, h5⟩
      · simp only at h1
        subst h1
        have hsa : sumA leaf most pp k (sumL leaf most pp k) = capM most leaf := by unfold sumA; rw [hd, if_neg (by simp)]
        by_cases hgt : leaf > most
        · have HN := Lib.hid (show sumL leaf most pp (k + 1) = sumL leaf most pp k ++ [most + 1] from by rw [sumL, hsa]; unfold capM; rw [if_pos hgt])
          have hgt1 : most < leaf := hgt
          clear hrow hB q1 q2 q3 q4 h2 h3 h4 hd hsa r2 r3 hgt
          go_wp2_with (first
            | (at_builtin
               refine wpList_append_own_at _ rfl _ _ 24 rfl w.heap.size 3 i0 _ 1 8 Try.underlying24 hi hz0 hz1 hz2 rfl (by omega) (.slice Av k cv) k ((sumL leaf most pp k).map (Value.int .i64)) rfl (row_below HR.out (bel_al (Below.refl _ _) _)) ⟨wr.heap.size, 0, none⟩ 1 1 [.int .i64 (most + 1)] rfl rfl
                 (World.news_of_block (cs := #[.int .i64 (most + 1)]) (t := 3) (fr := (0, 0)) (heap_alloc_new wr _)) (by simp [Value.oneCell']) (by unfold maxLen; omega) (by omega) (by have := HB.out.size; simp only [World.size_alloc]; (first | omega | (show w.heap.size ≤ wr.heap.size + 1; omega))) ?_
               intro v5 w5 hown5 hg5 _ _
               have HO5 := Lib.hid (row_int_snoc hown5)
               obtain ⟨g5, cap5, rfl, _⟩ := hown5.form (by omega)
               have HB5 := Lib.hid ((bel_al (below_drewN_or HB.out (Below.refl _ _)) _).grown hg5 (by have := HB.out.size; simp only [World.size_alloc]; (first | omega | (show w.heap.size ≤ wr.heap.size + 1; omega))) (fun j e => (HR.out.lt j e).1))
               clear hown5 hg5))
          go_roundw
          case rel => exact ⟨k + 1, _, _, by omega, by go_num, rfl, by rw [HN.out]; exact HO5.out, HB5.out⟩
          case measure => simp [intOf]; omega
        · have HN := Lib.hid (show sumL leaf most pp (k + 1) = sumL leaf most pp k ++ [leaf] from by rw [sumL, hsa]; unfold capM; rw [if_neg hgt])
          have hgt1 : leaf ≤ most := by omega
          clear hrow hB q1 q2 q3 q4 h2 h3 h4 hd hsa r2 r3 hgt
          go_wp2_with (first
            | (at_builtin
               refine wpList_append_own_at _ rfl _ _ 24 rfl w.heap.size 3 i0 _ 1 8 Try.underlying24 hi hz0 hz1 hz2 rfl (by omega) (.slice Av k cv) k ((sumL leaf most pp k).map (Value.int .i64)) rfl (row_below HR.out (bel_al (Below.refl _ _) _)) ⟨wr.heap.size, 0, none⟩ 1 1 [.int .i64 leaf] rfl rfl
                 (World.news_of_block (cs := #[.int .i64 leaf]) (t := 3) (fr := (0, 0)) (heap_alloc_new wr _)) (by simp [Value.oneCell']) (by unfold maxLen; omega) (by omega) (by have := HB.out.size; simp only [World.size_alloc]; (first | omega | (show w.heap.size ≤ wr.heap.size + 1; omega))) ?_
               intro v5 w5 hown5 hg5 _ _
               have HO5 := Lib.hid (row_int_snoc hown5)
               obtain ⟨g5, cap5, rfl, _⟩ := hown5.form (by omega)
               have HB5 := Lib.hid ((bel_al (below_drewN_or HB.out (Below.refl _ _)) _).grown hg5 (by have := HB.out.size; simp only [World.size_alloc]; (first | omega | (show w.heap.size ≤ wr.heap.size + 1; omega))) (fun j e => (HR.out.lt j e).1))
               clear hown5 hg5))
          go_roundw
          case rel => exact ⟨k + 1, _, _, by omega, by go_num, rfl, by rw [HN.out]; exact HO5.out, HB5.out⟩
          case measure => simp [intOf]; omega
      · simp only at h1 h2 h3 h4 h5
        subst h1
        obtain ⟨yn, rfl⟩ := Int.eq_ofNat_of_zero_le h2
        obtain ⟨zn, rfl⟩ := Int.eq_ofNat_of_zero_le h4
        have hyn : yn < k := by omega
        have hzn : zn < k := by omega
        obtain ⟨hkl, gr, cr, er, hgr1, hgr2, hcell⟩ := row_ints_at hrow (by omega)
        clear hkl
        cases er
        have cy := hcell yn (by rw [sumL_len]; exact hyn)
        have cz := hcell zn (by rw [sumL_len]; exact hzn)
        have by1 := HBD.out k yn hlt hyn
        have bz1 := HBD.out k zn hlt hzn
        have gy : (sumL leaf most pp k).getD yn 0 = (sumL leaf most pp k)[yn]'(by rw [sumL_len]; exact hyn) := by rw [List.getD_eq_getElem?_getD, List.getElem?_eq_getElem (by rw [sumL_len]; exact hyn)]; rfl
        have gz : (sumL leaf most pp k).getD zn 0 = (sumL leaf most pp k)[zn]'(by rw [sumL_len]; exact hzn) := by rw [List.getD_eq_getElem?_getD, List.getElem?_eq_getElem (by rw [sumL_len]; exact hzn)]; rfl
        have hsa : sumA leaf most pp k (sumL leaf most pp k) = capM most ((sumL leaf most pp k).getD yn 0 + (sumL leaf most pp k).getD zn 0 + 1) := by unfold sumA; rw [hd, if_pos rfl]; simp only [Int.toNat_natCast]
        rw [← gy] at cy
        rw [← gz] at cz
        obtain ⟨ay, hay⟩ : ∃ ay, (sumL leaf most pp k).getD yn 0 = ay := ⟨_, rfl⟩
        obtain ⟨az, haz⟩ : ∃ az, (sumL leaf most pp k).getD zn 0 = az := ⟨_, rfl⟩
        rw [hay] at by1 cy hsa
        rw [haz] at bz1 cz hsa
        obtain ⟨by2, by3⟩ := by1
        obtain ⟨bz2, bz3⟩ := bz1
        have y0 : (0 : Int) ≤ (yn : Int) := by omega
        have z0 : (0 : Int) ≤ (zn : Int) := by omega
        have y1 : (yn : Int) < (k : Int) := by omega
        have z1 : (zn : Int) < (k : Int) := by omega
        have f1 : ∀ m, (wr.drewN m).cell? ⟨b, off + k * 3 + 1, none⟩ = some (.int .i64 (yn : Int)) := fun _ => r2
        have f2 : ∀ m, (wr.drewN m).cell? ⟨b, off + k * 3 + 2, none⟩ = some (.int .i64 (zn : Int)) := fun _ => r3
        have f3 : ∀ m, (wr.drewN m).cell? ⟨gr, yn, none⟩ = some (.int .i64 ay) := fun _ => cy
        have f4 : ∀ m, (wr.drewN m).cell? ⟨gr, zn, none⟩ = some (.int .i64 az) := fun _ => cz
        by_cases hgt : ay + az + 1 > most
        · have HN := Lib.hid (show sumL leaf most pp (k + 1) = sumL leaf most pp k ++ [most + 1] from by rw [sumL, hsa]; unfold capM; rw [if_pos hgt])
          have hgt1 : most < ay + az + 1 := hgt
          clear hrow hB q1 q2 q3 q4 h2 h3 h4 h5 hd hsa hgt hay haz gy gz hcell
          go_wp2_with fail
          go_quiet (fail)
          go_wp2_with (first
            | (at_builtin
               refine wpList_append_own_at _ rfl _ _ 24 rfl w.heap.size 3 i0 _ 1 8 Try.underlying24 hi hz0 hz1 hz2 rfl (by omega) (.slice (some ⟨gr, 0, none⟩) k cv) k ((sumL leaf most pp k).map (Value.int .i64)) rfl (row_below HR.out (bel_al (below_drewN (Below.refl _ _) _) _)) ⟨wr.heap.size, 0, none⟩ 1 1 [.int .i64 (most + 1)] rfl rfl
                 (World.news_of_block (cs := #[.int .i64 (most + 1)]) (t := 3) (fr := (0, 0)) (heap_alloc_new (wr.drewN _) _)) (by simp [Value.oneCell']) (by unfold maxLen; omega) (by omega) (by have := HB.out.size; simp only [World.size_alloc]; (first | omega | (show w.heap.size ≤ wr.heap.size + 1; omega))) ?_
               intro v5 w5 hown5 hg5 _ _
               have HO5 := Lib.hid (row_int_snoc hown5)
               obtain ⟨g5, cap5, rfl, _⟩ := hown5.form (by omega)
               have HB5 := Lib.hid ((bel_al (below_drewN_or HB.out (below_drewN (Below.refl _ _) _)) _).grown hg5 (by have := HB.out.size; simp only [World.size_alloc]; (first | omega | (show w.heap.size ≤ wr.heap.size + 1; omega))) (fun j e => (HR.out.lt j e).1))
               clear hown5 hg5))
          go_roundw
          case rel => exact ⟨k + 1, _, _, by omega, by go_num, rfl, by rw [HN.out]; exact HO5.out, HB5.out⟩
          case measure => simp [intOf]; omega
        · have HN := Lib.hid (show sumL leaf most pp (k + 1) = sumL leaf most pp k ++ [ay + az + 1] from by rw [sumL, hsa]; unfold capM; rw [if_neg hgt])
          have hgt1 : ay + az + 1 ≤ most := by omega
          clear hrow hB q1 q2 q3 q4 h2 h3 h4 h5 hd hsa hgt hay haz gy gz hcell
          go_wp2_with fail
          go_quiet (fail)
          go_wp2_with (first
            | (at_builtin
               refine wpList_append_own_at _ rfl _ _ 24 rfl w.heap.size 3 i0 _ 1 8 Try.underlying24 hi hz0 hz1 hz2 rfl (by omega) (.slice (some ⟨gr, 0, none⟩) k cv) k ((sumL leaf most pp k).map (Value.int .i64)) rfl (row_below HR.out (bel_al (below_drewN (Below.refl _ _) _) _)) ⟨wr.heap.size, 0, none⟩ 1 1 [.int .i64 (ay + az + 1)] rfl rfl
                 (World.news_of_block (cs := #[.int .i64 (ay + az + 1)]) (t := 3) (fr := (0, 0)) (heap_alloc_new (wr.drewN _) _)) (by simp [Value.oneCell']) (by unfold maxLen; omega) (by omega) (by have := HB.out.size; simp only [World.size_alloc]; (first | omega | (show w.heap.size ≤ wr.heap.size + 1; omega))) ?_
               intro v5 w5 hown5 hg5 _ _
               have HO5 := Lib.hid (row_int_snoc hown5)
               obtain ⟨g5, cap5, rfl, _⟩ := hown5.form (by omega)
               have HB5 := Lib.hid ((bel_al (below_drewN_or HB.out (below_drewN (Below.refl _ _) _)) _).grown hg5 (by have := HB.out.size; simp only [World.size_alloc]; (first | omega | (show w.heap.size ≤ wr.heap.size + 1; omega))) (fun j e => (HR.out.lt j e).1))
               clear hown5 hg5))
          go_roundw
          case rel => exact ⟨k + 1, _, _, by omega, by go_num, rfl, by rw [HN.out]; exact HO5.out, HB5.out⟩
          case measure => simp [intOf]; omega
    · obtain rfl : n = k := by omega
      clear hB hrow
      go_wp2
      go_ret
      obtain ⟨A', c', e', hI⟩ := row_ints HR.out (by omega)
      cases e'
      exact ⟨_, _, rfl, hI, HB.out⟩

end Go.Proofs.Ytippmpcaongolaa

namespace Go.Proofs.Ytippmpcaongolaa
open Go.RowKit

/-- A pair of numbers is handed back. -/
def RetI (w : World) (z : Int × Int) (e : Ending) (w' : World) : Prop := e = .returned (.tuple #[.int .i64 z.1, .int .i64 z.2]) ∧ Below w.heap.size w w'

set_option maxRecDepth 100000 in
set_option maxHeartbeats 1000000 in
theorem counted_any (g : Int) (A : Option Addr) (n c : Nat) (pp : List Stp) (w : World) (hp : StepsAt w w.heap.size A n pp) (hok : proofOk g pp = true) :
    Calls Try.prog 108 #[.slice A n c] w fun e w' => e = .returned (.int .i64 ((mesL cntF pp n).getD (n - 1) 0)) ∧ Below w.heap.size w w' := by
  have C := Lib.hid (measured_cnt g A n c pp w hp hok)
  obtain ⟨R, hR⟩ : ∃ R, (mesL cntF pp n).getD (n - 1) 0 = R := ⟨_, rfl⟩
  rw [hR] at C ⊢
  clear hp hok hR
  go_enter Try.func108, Try.ntmps108
  go_wp2_with (go_at_call 109; ((with_reducible refine C.out.mono ?_); rintro e w1 ⟨rfl, hB1⟩; have HB1 := Lib.hid hB1; clear hB1))
  go_ret
  exact ⟨rfl, HB1.out⟩

set_option maxRecDepth 100000 in
set_option maxHeartbeats 2000000 in
theorem count_any (g : Int) (A : Option Addr) (n c : Nat) (pp : List Stp) (w : World) (hp : StepsAt w w.heap.size A n pp) :
    Calls Try.prog 55 #[.int .i64 g, .slice A n c] w (RetI w (cntZ g pp)) := by
  have CV := Lib.hid (validProof_any g A n c pp w hp)
  cases hv : proofOk g pp
  · rw [hv] at CV
    rw [show cntZ g pp = (0, 1) from by unfold cntZ; rw [hv]; rfl]
    clear hv hp
    go_enter Try.func55, Try.ntmps55
    go_wp2_with (go_at_call 89; ((with_reducible refine CV.out.mono ?_); rintro e w1 ⟨rfl, hB1⟩; have HB1 := Lib.hid hB1; clear hB1))
    go_ret2
    exact ⟨rfl, HB1.out⟩
  · rw [hv] at CV
    obtain ⟨_, hl60, hto⟩ := proofOk_to hv
    have hlp := hp.len
    have hn1 : 1 ≤ n := by omega
    have hn60 : n ≤ 60 := by omega
    have CC := Lib.hid (fun V (h : Below w.heap.size w V) => counted_any g A n c pp V (hp.up h) hv)
    have hz : cntZ g pp = if (mesL cntF pp n).getD (n - 1) 0 > 1000000000000000 then (0, 4) else ((mesL cntF pp n).getD (n - 1) 0, 0) := by unfold cntZ; rw [hv, if_pos rfl, ← hlp]
    rw [hz]
    have hb := cnt_small hto (k := n) (j := n - 1) (by omega) (by omega) (by omega)
    obtain ⟨R, hR⟩ : ∃ R, (mesL cntF pp n).getD (n - 1) 0 = R := ⟨_, rfl⟩
    rw [hR] at CC hb ⊢
    obtain ⟨hb1, hb2⟩ := hb
    clear hv hp hl60 hto hlp hn1 hn60 hz hR
    by_cases hgt : R > 1000000000000000
    · rw [if_pos hgt]
      have hgt1 : (1000000000000000 : Int) < R := hgt
      clear hgt
      go_enter Try.func55, Try.ntmps55
      go_wp2_with (first
        | (go_at_call 89; ((with_reducible refine CV.out.mono ?_); rintro e w1 ⟨rfl, hB1⟩; have HB1 := Lib.hid hB1; clear hB1))
        | (go_at_call 108; ((with_reducible refine (CC.out _ HB1.out).mono ?_); rintro e w2 ⟨rfl, hB2⟩; have HB2 := Lib.hid (below_then HB1.out hB2); clear hB2)))
      go_ret2
      exact ⟨rfl, HB2.out⟩
    · rw [if_neg hgt]
      have hgt1 : R ≤ 1000000000000000 := by omega
      clear hgt
      go_enter Try.func55, Try.ntmps55
      go_wp2_with (first
        | (go_at_call 89; ((with_reducible refine CV.out.mono ?_); rintro e w1 ⟨rfl, hB1⟩; have HB1 := Lib.hid hB1; clear hB1))
        | (go_at_call 108; ((with_reducible refine (CC.out _ HB1.out).mono ?_); rintro e w2 ⟨rfl, hB2⟩; have HB2 := Lib.hid (below_then HB1.out hB2); clear hB2)))
      go_ret2
      exact ⟨rfl, HB2.out⟩

set_option maxRecDepth 100000 in
set_option maxHeartbeats 2000000 in
theorem height_any (g : Int) (A : Option Addr) (n c : Nat) (pp : List Stp) (w : World) (hp : StepsAt w w.heap.size A n pp) :
    Calls Try.prog 56 #[.int .i64 g, .slice A n c] w (RetI w (hgtZ g pp)) := by
  have CV := Lib.hid (validProof_any g A n c pp w hp)
  cases hv : proofOk g pp
  · rw [hv] at CV
    rw [show hgtZ g pp = (0, 1) from by unfold hgtZ; rw [hv]; rfl]
    clear hv hp
    go_enter Try.func56, Try.ntmps56
    go_wp2_with (go_at_call 89; ((with_reducible refine CV.out.mono ?_); rintro e w1 ⟨rfl, hB1⟩; have HB1 := Lib.hid hB1; clear hB1))
    go_ret2
    exact ⟨rfl, HB1.out⟩
  · rw [hv] at CV
    obtain ⟨_, hl60, hto⟩ := proofOk_to hv
    have hlp := hp.len
    have hn1 : 1 ≤ n := by omega
    have hn60 : n ≤ 60 := by omega
    have CC := Lib.hid (fun V (h : Below w.heap.size w V) => measured_hgt g A n c pp V (hp.up h) hv)
    have hz : hgtZ g pp = ((mesL hgtF pp n).getD (n - 1) 0, 0) := by unfold hgtZ; rw [hv, if_pos rfl, ← hlp]
    rw [hz]
    obtain ⟨R, hR⟩ : ∃ R, (mesL hgtF pp n).getD (n - 1) 0 = R := ⟨_, rfl⟩
    rw [hR] at CC ⊢
    clear hv hp hl60 hto hlp hn1 hn60 hz hR
    go_enter Try.func56, Try.ntmps56
    go_wp2_with (first
      | (go_at_call 89; ((with_reducible refine CV.out.mono ?_); rintro e w1 ⟨rfl, hB1⟩; have HB1 := Lib.hid hB1; clear hB1))
      | (go_at_call 109; ((with_reducible refine (CC.out _ HB1.out).mono ?_); rintro e w2 ⟨rfl, hB2⟩; have HB2 := Lib.hid (below_then HB1.out hB2); clear hB2)))
    go_ret2
    exact ⟨rfl, HB2.out⟩

end Go.Proofs.Ytippmpcaongolaa
