/- slices.SortFunc at Term by Compare: what the row holds behind it. -/
import Derived.Test.YtcegbmibpkopaaaO2g
import Derived.Test.YtcegbmibpkopaaaB4g
import Derived.Shelf.SlSortCmp.Whole1
/- Pure facts of the order of lists. -/
namespace Go.Proofs.Ytcegbmibpkopaaa
open Go.RowKit

theorem cmpI_neg (x y : Int) : cmpI y x = - cmpI x y := by
  unfold cmpI
  by_cases h1 : x < y
  · rw [if_neg (by omega), if_pos h1, if_pos h1]; rfl
  · by_cases h2 : y < x
    · rw [if_pos h2, if_neg h1, if_pos h2]
    · rw [if_neg h2, if_neg h1, if_neg h1, if_neg h2]; rfl
theorem cmpI_bd (x y : Int) : -1 ≤ cmpI x y ∧ cmpI x y ≤ 1 := by
  unfold cmpI; split
  · omega
  · split <;> omega
theorem lexC_bd : ∀ (xs ys : List Int), -1 ≤ lexC xs ys ∧ lexC xs ys ≤ 1
  | [], [] => by simp [lexC]
  | [], _ :: _ => by simp [lexC]
  | _ :: _, [] => by simp [lexC]
  | x :: xs, y :: ys => by
    simp only [lexC]
    split
    · exact lexC_bd xs ys
    · exact cmpI_bd x y
theorem cmpL_bd (xs ys : List Int) : -1 ≤ cmpL xs ys ∧ cmpL xs ys ≤ 1 := by
  unfold cmpL; split
  · exact lexC_bd xs ys
  · exact cmpI_bd _ _
theorem lexC_neg : ∀ (xs ys : List Int), lexC ys xs = - lexC xs ys
  | [], [] => by simp [lexC]
  | [], _ :: _ => by simp [lexC]
  | _ :: _, [] => by simp [lexC]
  | x :: xs, y :: ys => by
    simp only [lexC]
    rw [cmpI_neg x y]
    by_cases h : cmpI x y = 0
    · rw [if_pos (by omega), if_pos h]; exact lexC_neg xs ys
    · rw [if_neg (by omega), if_neg h]
theorem cmpL_neg (xs ys : List Int) : cmpL ys xs = - cmpL xs ys := by
  unfold cmpL
  by_cases h : xs.length = ys.length
  · rw [if_pos h, if_pos h.symm]; exact lexC_neg xs ys
  · rw [if_neg h, if_neg (fun e => h e.symm)]; exact cmpI_neg _ _
theorem cmpI_le {x y : Int} : cmpI x y ≤ 0 ↔ x ≤ y := by
  unfold cmpI; split
  · constructor <;> intro h <;> omega
  · split
    · constructor <;> intro h <;> omega
    · constructor <;> intro h <;> omega
theorem lexC_trans : ∀ (xs ys zs : List Int), lexC xs ys ≤ 0 → lexC ys zs ≤ 0 → lexC xs zs ≤ 0
  | [], _, [], _, _ => by simp [lexC]
  | [], _, _ :: _, _, _ => by simp [lexC]
  | _ :: _, [], _, h, _ => by simp [lexC] at h
  | _ :: _, _ :: _, [], _, h => by simp [lexC] at h
  | x :: xs, y :: ys, z :: zs, h1, h2 => by
    simp only [lexC] at h1 h2 ⊢
    by_cases e1 : cmpI x y = 0
    · rw [if_pos e1] at h1
      obtain rfl := cmpI_zero.1 e1
      by_cases e2 : cmpI x z = 0
      · rw [if_pos e2] at h2 ⊢
        exact lexC_trans xs ys zs h1 h2
      · rw [if_neg e2] at h2 ⊢
        exact h2
    · rw [if_neg e1] at h1
      have l1 := cmpI_le.1 h1
      have n1 : x ≠ y := fun e => e1 (cmpI_zero.2 e)
      have l2 : y ≤ z := by
        by_cases e2 : cmpI y z = 0
        · have := cmpI_zero.1 e2; omega
        · rw [if_neg e2] at h2; exact cmpI_le.1 h2
      rw [if_neg (fun e => by have := cmpI_zero.1 e; omega)]
      exact cmpI_le.2 (by omega)
theorem cmpL_trans (xs ys zs : List Int) (h1 : cmpL xs ys ≤ 0) (h2 : cmpL ys zs ≤ 0) : cmpL xs zs ≤ 0 := by
  have q1 : xs.length ≤ ys.length := by
    unfold cmpL at h1
    split at h1
    · omega
    · have := cmpI_le.1 h1; omega
  have q2 : ys.length ≤ zs.length := by
    unfold cmpL at h2
    split at h2
    · omega
    · have := cmpI_le.1 h2; omega
  by_cases e : xs.length = zs.length
  · unfold cmpL at h1 h2 ⊢
    rw [if_pos (by omega)] at h1 h2
    rw [if_pos e]
    exact lexC_trans _ _ _ h1 h2
  · unfold cmpL
    rw [if_neg e]
    exact cmpI_le.2 (by omega)
theorem lexC_zero : ∀ (xs ys : List Int), lexC xs ys = 0 ↔ xs = ys
  | [], [] => by simp [lexC]
  | [], _ :: _ => by simp [lexC]
  | _ :: _, [] => by simp [lexC]
  | x :: xs, y :: ys => by
    simp only [lexC]
    by_cases h : cmpI x y = 0
    · rw [if_pos h, lexC_zero xs ys]
      have := cmpI_zero.1 h
      simp [this]
    · rw [if_neg h]
      have : x ≠ y := fun e => h (cmpI_zero.2 e)
      simp [this, h]
theorem cmpL_zero (xs ys : List Int) : (cmpL xs ys == 0) = decide (xs = ys) := by
  unfold cmpL
  by_cases h : xs.length = ys.length
  · rw [if_pos h]
    by_cases e : xs = ys
    · rw [(lexC_zero xs ys).2 e]; simp [e]
    · have : lexC xs ys ≠ 0 := fun h => e ((lexC_zero xs ys).1 h)
      simp [e, this]
  · rw [if_neg h]
    have e : xs ≠ ys := fun e => h (by rw [e])
    have : cmpI (xs.length : Int) (ys.length : Int) ≠ 0 := fun q => h (by have := cmpI_zero.1 q; omega)
    simp [e, this]

end Go.Proofs.Ytcegbmibpkopaaa

/- Pure: lists of lists in order, each once: what With, a sort and a compaction make. -/
namespace Go.Proofs.Ytcegbmibpkopaaa

theorem cmpL_eq {a b : List Int} : cmpL a b = 0 ↔ a = b := by
  have := cmpL_zero a b
  by_cases e : a = b
  · rw [decide_eq_true e] at this; simpa [e] using this
  · rw [decide_eq_false e] at this; simpa [e] using this
theorem cmpL_lt_trans {a b c : List Int} (h1 : cmpL a b < 0) (h2 : cmpL b c ≤ 0) : cmpL a c < 0 := by
  have h := cmpL_trans a b c (by omega) h2
  rcases Int.lt_or_eq_of_le h with h | h
  · exact h
  · have e := cmpL_eq.1 h
    subst e
    have := cmpL_neg a b
    omega
theorem cmpL_lt_trans' {a b c : List Int} (h1 : cmpL a b ≤ 0) (h2 : cmpL b c < 0) : cmpL a c < 0 := by
  have h := cmpL_trans a b c h1 (by omega)
  rcases Int.lt_or_eq_of_le h with h | h
  · exact h
  · have e := cmpL_eq.1 h
    subst e
    have := cmpL_neg a b
    omega
theorem cmpL_self (a : List Int) : cmpL a a = 0 := cmpL_eq.2 rfl
abbrev SLt (a b : List Int) : Prop := cmpL a b < 0
/-- Strictly in order. -/
abbrev InOrd (l : List (List Int)) : Prop := l.Pairwise SLt
theorem InOrd.same : ∀ (xs ys : List (List Int)), InOrd xs → InOrd ys → (∀ z, z ∈ xs ↔ z ∈ ys) → xs = ys
  | [], [], _, _, _ => rfl
  | [], y :: ys, _, _, h => by have := (h y).2 (by simp); simp at this
  | x :: xs, [], _, _, h => by have := (h x).1 (by simp); simp at this
  | x :: xs, y :: ys, hx, hy, h => by
    have hx1 := (List.pairwise_cons.1 hx).1
    have hy1 := (List.pairwise_cons.1 hy).1
    have e : x = y := by
      rcases List.mem_cons.1 ((h x).1 (by simp)) with e | e
      · exact e
      · rcases List.mem_cons.1 ((h y).2 (by simp)) with e2 | e2
        · exact e2.symm
        · have h1 := hy1 x e
          have h2 := hx1 y e2
          have := cmpL_neg x y
          have h1' : cmpL y x < 0 := h1
          have h2' : cmpL x y < 0 := h2
          omega
    subst e
    have := InOrd.same xs ys (List.pairwise_cons.1 hx).2 (List.pairwise_cons.1 hy).2 (fun z => by
      constructor
      · intro hz
        rcases List.mem_cons.1 ((h z).1 (by simp [hz])) with e | e
        · subst e
          have h2 : cmpL z z < 0 := hx1 z hz
          rw [cmpL_self] at h2
          omega
        · exact e
      · intro hz
        rcases List.mem_cons.1 ((h z).2 (by simp [hz])) with e | e
        · subst e
          have h2 : cmpL z z < 0 := hy1 z hz
          rw [cmpL_self] at h2
          omega
        · exact e)
    rw [this]

/-- A list in order with one more. -/
def withL (t : List Int) : List (List Int) → List (List Int)
  | [] => [t]
  | x :: r => if cmpL t x < 0 then t :: x :: r else if cmpL t x = 0 then x :: r else x :: withL t r
theorem withL_mem {t z : List Int} : ∀ {l : List (List Int)}, z ∈ withL t l ↔ z = t ∨ z ∈ l
  | [] => by simp [withL]
  | x :: r => by
    unfold withL
    split
    · simp
    · split
      · rename_i h1 h2
        have e := cmpL_eq.1 h2
        subst e
        simp
      · rw [List.mem_cons, withL_mem]
        simp only [List.mem_cons]
        constructor
        · rintro (h | h | h) <;> simp [h]
        · rintro (h | h | h) <;> simp [h]
theorem withL_ord {t : List Int} : ∀ {l : List (List Int)}, InOrd l → InOrd (withL t l)
  | [], _ => by simp [withL, InOrd]
  | x :: r, h => by
    unfold withL
    have h1 := List.pairwise_cons.1 h
    split
    · rename_i hlt
      refine List.pairwise_cons.2 ⟨fun z hz => ?_, h⟩
      rcases List.mem_cons.1 hz with rfl | hz
      · exact hlt
      · exact cmpL_lt_trans hlt (Int.le_of_lt (h1.1 z hz))
    · split
      · exact h
      · rename_i h2 h3
        refine List.pairwise_cons.2 ⟨fun z hz => ?_, withL_ord h1.2⟩
        rcases withL_mem.1 hz with rfl | hz
        · show cmpL x z < 0
          have := cmpL_neg x z
          omega
        · exact h1.1 z hz
theorem withL_len {t : List Int} : ∀ (l : List (List Int)), (withL t l).length ≤ l.length + 1
  | [] => by simp [withL]
  | x :: r => by
    unfold withL
    have := withL_len (t := t) r
    split
    · simp
    · split <;> simp <;> omega

/-- Each run of equal neighbours once: of the first k. -/
def ddN (xs : List (List Int)) : Nat → List (List Int)
  | 0 => []
  | k + 1 => if k = 0 ∨ xs[k]? ≠ xs[k - 1]? then ddN xs k ++ [xs.getD k []] else ddN xs k
theorem ddN_len (xs : List (List Int)) : ∀ k, (ddN xs k).length ≤ k
  | 0 => by simp [ddN]
  | k + 1 => by
    have := ddN_len xs k
    unfold ddN
    split <;> simp <;> omega
theorem ddN_last (xs : List (List Int)) : ∀ k, k < xs.length → (ddN xs (k + 1)).getLast? = xs[k]?
  | 0, h => by simp [ddN, List.getElem?_eq_getElem h]
  | k + 1, h => by
    rw [ddN]
    split
    · simp [List.getElem?_eq_getElem h]
    · rename_i hn
      have e : xs[k + 1]? = xs[k]? := by
        simp only [Nat.succ_ne_zero, false_or, Nat.add_sub_cancel, Classical.not_not] at hn
        exact hn
      rw [ddN_last xs k (by omega), e]
theorem ddN_mem (xs : List (List Int)) (z : List Int) : ∀ k, k ≤ xs.length → (z ∈ ddN xs k ↔ ∃ i, i < k ∧ xs[i]? = some z)
  | 0, _ => by simp [ddN]
  | k + 1, h => by
    have ih := ddN_mem xs z k (by omega)
    rw [ddN]
    split
    · rw [List.mem_append, ih, List.mem_singleton]
      constructor
      · rintro (⟨i, h1, h2⟩ | e)
        · exact ⟨i, by omega, h2⟩
        · exact ⟨k, by omega, by rw [List.getElem?_eq_getElem (by omega), e, List.getD_eq_getElem?_getD, List.getElem?_eq_getElem (by omega)]; rfl⟩
      · rintro ⟨i, h1, h2⟩
        by_cases e : i = k
        · subst e
          right
          rw [List.getD_eq_getElem?_getD, h2]; rfl
        · exact .inl ⟨i, by omega, h2⟩
    · rename_i hn
      rw [ih]
      constructor
      · rintro ⟨i, h1, h2⟩; exact ⟨i, by omega, h2⟩
      · rintro ⟨i, h1, h2⟩
        by_cases e : i = k
        · subst e
          have h3 : ¬ i = 0 ∧ xs[i]? = xs[i - 1]? := by
            constructor
            · intro e; exact hn (.inl e)
            · exact Classical.not_not.1 fun e => hn (.inr e)
          exact ⟨i - 1, by omega, by rw [← h3.2, h2]⟩
        · exact ⟨i, by omega, h2⟩
/-- Of a list in order (with repeats) each once is strictly in order. -/
theorem ddN_ord (xs : List (List Int)) (hs : ∀ i j (hi : i < xs.length) (hj : j < xs.length), i < j → cmpL xs[i] xs[j] ≤ 0) : ∀ k, k ≤ xs.length → InOrd (ddN xs k)
  | 0, _ => by simp [ddN, InOrd]
  | k + 1, h => by
    have ih := ddN_ord xs hs k (by omega)
    rw [ddN]
    split
    · rename_i hn
      refine List.pairwise_append.2 ⟨ih, by simp, fun a ha b hb => ?_⟩
      simp only [List.mem_singleton] at hb
      subst hb
      obtain ⟨i, h1, h2⟩ := (ddN_mem xs a k (by omega)).1 ha
      have hk0 : k ≠ 0 := by omega
      rcases hn with hn | hn
      · exact absurd hn hk0
      · have hk : k < xs.length := by omega
        have hk1 : k - 1 < xs.length := by omega
        have hi : i < xs.length := by omega
        have e1 : xs.getD k [] = xs[k] := by rw [List.getD_eq_getElem?_getD, List.getElem?_eq_getElem hk]; rfl
        have e2 : a = xs[i] := by rw [List.getElem?_eq_getElem hi] at h2; exact (Option.some.inj h2).symm
        rw [e1, e2]
        have h3 : cmpL xs[k - 1] xs[k] < 0 := by
          rcases Int.lt_or_eq_of_le (hs (k - 1) k hk1 hk (by omega)) with h | h
          · exact h
          · refine absurd ?_ hn
            rw [List.getElem?_eq_getElem hk, List.getElem?_eq_getElem hk1, cmpL_eq.1 h]
        by_cases e : i = k - 1
        · subst e; exact h3
        · exact cmpL_lt_trans' (hs i (k - 1) hi hk1 (by omega)) h3
    · exact ih

end Go.Proofs.Ytcegbmibpkopaaa

namespace Go.Proofs.Ytcegbmibpkopaaa
open Go.RowKit Go.Shelf

def sortT_ren : Go.Shelf.Ren := ⟨fun | 6 => 127 | 15 => 161 | 14 => 160 | 28 => 190 | 29 => 191 | 20 => 182 | 21 => 183 | 22 => 184 | 23 => 185 | 24 => 186 | 25 => 187 | 26 => 188 | 27 => 189 | 46 => 200 | 47 => 201 | 48 => 202 | 49 => 203 | 50 => 204 | 57 => 206 | n => n,
  fun | 22 => 49 | 24 => 25 | 25 => 110 | 3 => 3 | 39 => 151 | 0 => 0 | 53 => 176 | 55 => 178 | 4 => 4 | 46 => 170 | 45 => 169 | 50 => 120 | 5 => 5 | 9 => 9 | 66 => 184 | 70 => 188 | 76 => 190 | 77 => 191 | n => n,
  fun | n => n⟩
theorem sortT : Go.Proofs.SlLaysF.n6 Try.prog sortT_ren := {
  mixed := by kernel_rfl
  f6 := ⟨Try.f127.name, by decide, Try.func127.trans (congrArg some (by kernel_rfl))⟩
  f14 := ⟨Try.f160.name, by decide, Try.func160.trans (congrArg some (by kernel_rfl))⟩
  f15 := Try.func161.trans (congrArg some (by kernel_rfl))
  f20 := ⟨Try.f182.name, by decide, Try.func182.trans (congrArg some (by kernel_rfl))⟩
  f21 := ⟨Try.f183.name, by decide, Try.func183.trans (congrArg some (by kernel_rfl))⟩
  f22 := ⟨Try.f184.name, by decide, Try.func184.trans (congrArg some (by kernel_rfl))⟩
  f23 := ⟨Try.f185.name, by decide, Try.func185.trans (congrArg some (by kernel_rfl))⟩
  f24 := ⟨Try.f186.name, by decide, Try.func186.trans (congrArg some (by kernel_rfl))⟩
  f25 := ⟨Try.f187.name, by decide, Try.func187.trans (congrArg some (by kernel_rfl))⟩
  f26 := ⟨Try.f188.name, by decide, Try.func188.trans (congrArg some (by kernel_rfl))⟩
  f27 := ⟨Try.f189.name, by decide, Try.func189.trans (congrArg some (by kernel_rfl))⟩
  f28 := Try.func190.trans (congrArg some (by kernel_rfl))
  f29 := Try.func191.trans (congrArg some (by kernel_rfl))
  f46 := ⟨Try.f200.name, by decide, Try.func200.trans (congrArg some (by kernel_rfl))⟩
  f47 := Try.func201.trans (congrArg some (by kernel_rfl))
  f48 := Try.func202.trans (congrArg some (by kernel_rfl))
  f49 := ⟨Try.f203.name, by decide, Try.func203.trans (congrArg some (by kernel_rfl))⟩
  f50 := ⟨Try.f204.name, by decide, Try.func204.trans (congrArg some (by kernel_rfl))⟩
  f57 := ⟨Try.f206.name, by decide, Try.func206.trans (congrArg some (by kernel_rfl))⟩
  t0 := Try.underlying0
  a0 := Try.isAgg0
  z0 := Try.sizeOf0
  v0 := Try.zeroValue0
  t3 := Try.underlying3
  a3 := Try.isAgg3
  z3 := Try.sizeOf3
  v3 := Try.zeroValue3
  t4 := Try.underlying4
  a4 := Try.isAgg4
  z4 := Try.sizeOf4
  v4 := Try.zeroValue4
  t5 := Try.underlying5
  a5 := Try.isAgg5
  z5 := Try.sizeOf5
  v5 := Try.zeroValue5
  t9 := Try.underlying9
  a9 := Try.isAgg9
  z9 := Try.sizeOf9
  v9 := Try.zeroValue9
  t22 := Try.underlying49
  a22 := Try.isAgg49
  z22 := Try.sizeOf49
  v22 := Try.zeroValue49
  a24 := Try.isAgg25
  z24 := Try.sizeOf25
  t25 := Try.underlying110
  a25 := Try.isAgg110
  z25 := Try.sizeOf110
  v25 := Try.zeroValue110
  t39 := Try.underlying151
  a39 := Try.isAgg151
  z39 := Try.sizeOf151
  v39 := Try.zeroValue151
  t45 := Try.underlying169
  a45 := Try.isAgg169
  z45 := Try.sizeOf169
  v45 := Try.zeroValue169
  t46 := Try.underlying170
  a46 := Try.isAgg170
  z46 := Try.sizeOf170
  v46 := Try.zeroValue170
  t50 := Try.underlying120
  a50 := Try.isAgg120
  z50 := Try.sizeOf120
  v50 := Try.zeroValue120
  t53 := Try.underlying176
  a53 := Try.isAgg176
  z53 := Try.sizeOf176
  v53 := Try.zeroValue176
  t55 := Try.underlying178
  a55 := Try.isAgg178
  z55 := Try.sizeOf178
  v55 := Try.zeroValue178
  t66 := Try.underlying184
  a66 := Try.isAgg184
  z66 := Try.sizeOf184
  v66 := Try.zeroValue184
  t70 := Try.underlying188
  a70 := Try.isAgg188
  z70 := Try.sizeOf188
  v70 := Try.zeroValue188
  t76 := Try.underlying190
  a76 := Try.isAgg190
  z76 := Try.sizeOf190
  v76 := Try.zeroValue190
  t77 := Try.underlying191
  a77 := Try.isAgg191
  z77 := Try.sizeOf191
  v77 := Try.zeroValue191 }


open Go.Lib Go.Sort
/-- A row in block g whose first cells hold slices that read as tt, their numbers in other blocks. -/
structure CRow (w : World) (g m : Nat) (ls : List Hd) (tt : List (List Int)) : Prop where
  blk : ∃ cs, w.heap[g]? = some (.cells cs 25 (0, 0)) ∧ ∀ j (h : j < ls.length), cs[j]? = some ls[j].val
  ll : ls.length = m
  len : m = tt.length
  each : ∀ j (h : j < ls.length) (h' : j < tt.length), IntsBut w (some g) ls[j].1 ls[j].2.1 tt[j]
section
variable {w w' : World} {g m : Nat} {ls : List Hd} {tt : List (List Int)}
theorem CRow.lt (h : CRow w g m ls tt) : g < w.heap.size := by
  obtain ⟨cs, h1, _⟩ := h.blk
  exact (Array.getElem?_eq_some_iff.1 h1).1
theorem CRow.cell (h : CRow w g m ls tt) {j : Nat} (hj : j < m) : ∃ A n c t, w.cell? ⟨g, j, none⟩ = some (.slice A n c) ∧ w.frozen? ⟨g, j, none⟩ = false ∧ ls[j]? = some (A, n, c) ∧ tt[j]? = some t ∧ IntsBut w (some g) A n t := by
  obtain ⟨cs, h1, h2⟩ := h.blk
  have hl : j < ls.length := by rw [h.ll]; exact hj
  have ht : j < tt.length := by rw [← h.len]; exact hj
  have hb : Blk w g 25 cs := h1
  refine ⟨ls[j].1, ls[j].2.1, ls[j].2.2, tt[j], ?_, hb.frozen j, List.getElem?_eq_getElem hl, List.getElem?_eq_getElem ht, h.each j hl ht⟩
  rw [hb.cell, h2 j hl]
  rfl
theorem CRow.of_rows {base : Nat} {cap : Nat} (h : RowsAt 25 w base (.slice (some ⟨g, 0, none⟩) m cap) m ls tt) (hm : 0 < m) : CRow w g m ls tt ∧ base ≤ g ∧ m ≤ cap ∧ cap ≤ 9223372036854775807 := by
  have hll := h.ll
  have hlt := h.len
  have he := h.each
  obtain ⟨hl, ⟨e, rfl⟩ | ⟨g', cap', cur, e, hbg, hcur, hn1, hn2, hsz, htk⟩⟩ := h.row
  · cases e
  · cases e
    refine ⟨⟨⟨cur, hcur, fun j hj => ?_⟩, hll, hlt, he⟩, hbg, by omega, by unfold maxLen at hn2; omega⟩
    have hj' : j < m * 1 := by omega
    have e1 : cur.toList[j]? = (cur.toList.take (m * 1))[j]? := by rw [List.getElem?_take, if_pos hj']
    rw [← Array.getElem?_toList, e1, htk, List.getElem?_map, List.getElem?_eq_getElem hj]
    rfl
end

def hdOf (ls : List Hd) (i : Nat) : Hd := (ls[i]?).getD (none, 0, 0)
def ttOf (tt : List (List Int)) (i : Nat) : List Int := (tt[i]?).getD []
theorem range_get! (k j : Nat) (h : j < k) : (List.range k).toArray[j]! = j := by
  rw [getElem!_pos _ j (by simpa using h)]
  simp
theorem swo_cmp (tt : List (List Int)) : SWO (ltOf fun i j : Nat => cmpL (ttOf tt i) (ttOf tt j)) where
  irrefl x := by simp [ltOf, cmpL_self]
  trans x y z h1 h2 := by
    simp only [ltOf, decide_eq_true_eq] at *
    exact cmpL_lt_trans h1 (Int.le_of_lt h2)
  ntrans x y z h1 h2 := by
    simp only [ltOf, decide_eq_false_iff_not, Int.not_lt] at *
    have := cmpL_neg (ttOf tt x) (ttOf tt y)
    have := cmpL_neg (ttOf tt y) (ttOf tt z)
    have := cmpL_neg (ttOf tt x) (ttOf tt z)
    have := cmpL_trans (ttOf tt z) (ttOf tt y) (ttOf tt x) (by omega) (by omega)
    omega

theorem heap_putRow_other {α : Type} [Inhabited α] (enc : α → Value) (w : World) (blk : Nat) (d : Array α) (i : Nat) (h : i ≠ blk) : (putRow enc w blk 0 d).heap[i]? = w.heap[i]? := by
  unfold putRow mapBlock
  simp only [Array.getElem?_modify]
  rw [if_neg (fun e => h e.symm)]
theorem heap_grow_lt (w : World) (os : Array Obj) (i : Nat) (h : i < w.heap.size) : (grow w os).heap[i]? = w.heap[i]? := by
  unfold grow
  exact Array.getElem?_append_left h
theorem below_sort {α : Type} [Inhabited α] (enc : α → Value) (w : World) (g n : Nat) (d : Array α) (os : Array Obj) (_hg : g < w.heap.size) : w.grownBy (sortWorld enc w g 0 n d os) (some g) := by
  refine ⟨rfl, rfl, rfl, ?_, fun k hk hne => ?_⟩
  · unfold sortWorld
    rw [Go.Sort.size_grow, Go.Sort.size_putRow]
    exact Nat.le_add_right _ _
  · unfold sortWorld
    rw [heap_grow_lt _ _ _ (by rw [Go.Sort.size_putRow]; show k < w.heap.size; omega), heap_putRow_other _ _ _ _ _ (fun e => hne (by rw [e]))]
    rfl

theorem sort_cell {α : Type} [Inhabited α] (enc : α → Value) (w : World) (g n : Nat) (d : Array α) (os : Array Obj) (a : Addr) (h1 : a.block ≠ g) (h2 : a.block < w.heap.size) : (sortWorld enc w g 0 n d os).cell? a = w.cell? a := by
  refine World.cell?_of_block ?_
  unfold sortWorld
  rw [heap_grow_lt _ _ _ (by rw [Go.Sort.size_putRow]; exact h2), heap_putRow_other _ _ _ _ _ h1]
  rfl

set_option maxHeartbeats 1000000 in
theorem sortT_any (g m cap : Nat) (ls : List Hd) (tt : List (List Int)) (w : World) (hR : CRow w g m ls tt) (hm : m ≤ 1000) :
    Calls Try.prog 127 #[.slice (some ⟨g, 0, none⟩) m cap, .func (.func 128) #[] #[]] w fun e w' => e = .returned (.tuple #[]) ∧ ∃ ls' tt', CRow w' g m ls' tt' ∧ (∀ z, z ∈ tt' ↔ z ∈ tt) ∧ (∀ i j (hi : i < tt'.length) (hj : j < tt'.length), i < j → cmpL tt'[i] tt'[j] ≤ 0) ∧ w.grownBy w' (some g) := by
  have hlt := hR.lt
  have hll := hR.ll
  have hlen := hR.len
  let enc : Nat → Value := fun i => (hdOf ls i).val
  have hds : (List.range m).toArray.size = m := by simp
  have hH : Holds enc w g 0 (List.range m).toArray := by
    intro j hj
    rw [hds] at hj
    obtain ⟨A, n, c, t, c1, f1, e1, _⟩ := hR.cell hj
    rw [Nat.zero_add]
    refine ⟨?_, f1⟩
    rw [c1, range_get! m j hj]
    show _ = some (hdOf ls j).val
    rw [hdOf, e1]
    rfl
  have hI : ∀ W : World, (∀ a : Addr, a.block ≠ g → a.block < w.heap.size → W.cell? a = w.cell? a) → ∀ x : Nat, IntsAt W (w.heap.size) (hdOf ls x).1 (hdOf ls x).2.1 (ttOf tt x) := by
    intro W hW x
    by_cases hx : x < m
    · have h1 : x < ls.length := by omega
      have h2 : x < tt.length := by omega
      have := hR.each x h1 h2
      rw [hdOf, ttOf, List.getElem?_eq_getElem h1, List.getElem?_eq_getElem h2]
      refine ⟨this.len, this.max, fun hn => ?_⟩
      obtain ⟨b, off, e, hb, hne, hc⟩ := this.mem hn
      exact ⟨b, off, e, hb, fun j hj => (hW _ (fun e => hne (by rw [← e])) hb).trans (hc j hj)⟩
    · rw [hdOf, ttOf, List.getElem?_eq_none (by omega), List.getElem?_eq_none (by omega)]
      exact ⟨rfl, by simp, fun h => by simp at h⟩
  have hcmp : CmpReads Try.prog 128 #[] enc (fun i j : Nat => cmpL (ttOf tt i) (ttOf tt j)) g 0 (List.range m).toArray.size w := by
    intro q os dk _ x y
    have hW : ∀ a : Addr, a.block ≠ g → a.block < w.heap.size → (sortWorld enc w g 0 q dk os).cell? a = w.cell? a := fun a h1 h2 => sort_cell enc w g q dk os a h1 h2
    refine (compare_any (hdOf ls x).1 (hdOf ls y).1 (hdOf ls x).2.1 (hdOf ls x).2.2 (hdOf ls y).2.1 (hdOf ls y).2.2 (ttOf tt x) (ttOf tt y) _ _ (hI _ hW x) (hI _ hW y)).mono ?_
    rintro e w' ⟨rfl, rfl⟩
    exact ⟨rfl, 0, rfl⟩
  have hcon := Any.slices_SortFunc sortT enc (fun x => rfl) (fun i j : Nat => cmpL (ttOf tt i) (ttOf tt j)) (swo_cmp tt) 128 #[] g 0 cap (List.range m).toArray w
    (enters_of Try.func128 (by kernel_rfl) rfl) hcmp.lays hH hlt (by rw [hds]; omega)
  rw [hds] at hcon
  refine hcon.mono ?_
  rintro e w' ⟨rfl, d', n, os, ⟨hsz, _, hperm⟩, hsort, rfl⟩
  rw [hds] at hsz
  have hperm' : d'.toList.Perm (List.range m) := by
    have h1 : (d'.extract 0 m) = d' := by rw [← hsz]; simp
    have h2 : ((List.range m).toArray.extract 0 m) = (List.range m).toArray := by simp
    rw [h1, h2] at hperm
    simpa using hperm
  have hmem : ∀ i, i ∈ d'.toList ↔ i < m := fun i => by rw [hperm'.mem_iff]; simp
  have hget : ∀ j (h : j < m), ∃ i, d'.toList[j]? = some i ∧ i < m ∧ d'[j]! = i := by
    intro j h
    have hj : j < d'.size := by omega
    refine ⟨d'[j], by rw [Array.getElem?_toList]; exact Array.getElem?_eq_getElem hj, ?_, getElem!_pos _ j hj⟩
    exact (hmem _).1 (by simp)
  have hlt' : g < (sortWorld enc w g 0 n d' os).heap.size := Nat.lt_of_lt_of_le hlt (below_sort enc w g n d' os hlt).size
  have hW : ∀ a : Addr, a.block ≠ g → a.block < w.heap.size → (sortWorld enc w g 0 n d' os).cell? a = w.cell? a := fun a h1 h2 => sort_cell enc w g n d' os a h1 h2
  refine ⟨rfl, d'.toList.map (hdOf ls), d'.toList.map (ttOf tt), ⟨?_, by simp [hsz], by simp [hsz], ?_⟩, ?_, ?_, below_sort enc w g n d' os hlt⟩
  · obtain ⟨cs, h1, h2⟩ := hR.blk
    refine ⟨putCells enc 0 d' cs, ?_, fun j hj => ?_⟩
    · unfold sortWorld
      rw [heap_grow_lt _ _ _ (by rw [Go.Sort.size_putRow]; exact hlt)]
      unfold putRow mapBlock
      simp only [Array.getElem?_modify, if_true]
      show Option.map _ w.heap[g]? = _
      rw [h1]
      rfl
    · have hj' : j < m := by simpa [hsz] using hj
      obtain ⟨i, q1, q2, q3⟩ := hget j hj'
      have hjl : j < ls.length := by omega
      have h3 := h2 j hjl
      unfold putCells
      rw [Array.getElem?_mapIdx, h3, Option.map_some, if_pos ⟨Nat.zero_le _, by omega⟩, Nat.sub_zero, q3]
      simp only [List.getElem_map]
      have : d'.toList[j]'(by simpa using hj) = i := by
        have := List.getElem?_eq_some_iff.1 q1
        exact this.2
      rw [this]
  · intro j a b
    simp only [List.getElem_map]
    have hj' : j < m := by simpa [hsz] using a
    obtain ⟨i, q1, q2, q3⟩ := hget j hj'
    have e : d'.toList[j]'(by simpa using a) = i := (List.getElem?_eq_some_iff.1 q1).2
    rw [e]
    have h1 : i < ls.length := by omega
    have h2 : i < tt.length := by omega
    have h3 := hR.each i h1 h2
    rw [hdOf, ttOf, List.getElem?_eq_getElem h1, List.getElem?_eq_getElem h2]
    refine ⟨h3.len, h3.max, fun hn => ?_⟩
    obtain ⟨b', off, e, hb, hne, hc⟩ := h3.mem hn
    exact ⟨b', off, e, Nat.lt_of_lt_of_le hb (below_sort enc w g n d' os hlt).size, hne, fun j hj => (hW _ (fun e => hne (by rw [← e])) hb).trans (hc j hj)⟩
  · intro z
    rw [List.mem_map]
    constructor
    · rintro ⟨i, h1, rfl⟩
      have := (hmem i).1 h1
      have h2 : i < tt.length := by omega
      rw [ttOf, List.getElem?_eq_getElem h2]
      exact List.getElem_mem _
    · intro hz
      obtain ⟨i, hi, rfl⟩ := List.getElem_of_mem hz
      exact ⟨i, (hmem i).2 (by omega), by rw [ttOf, List.getElem?_eq_getElem hi]; rfl⟩
  · intro i j hi hj hij
    have hi' : i < m := by simpa [hsz] using hi
    have hj' : j < m := by simpa [hsz] using hj
    obtain ⟨a, q1, q2, q3⟩ := hget i hi'
    obtain ⟨b, p1, p2, p3⟩ := hget j hj'
    have h := hsort i j (Nat.zero_le _) hij hj'
    rw [q3, p3] at h
    simp only [ltOf, decide_eq_false_iff_not, Int.not_lt] at h
    simp only [List.getElem_map]
    rw [(List.getElem?_eq_some_iff.1 q1).2, (List.getElem?_eq_some_iff.1 p1).2]
    have := cmpL_neg (ttOf tt a) (ttOf tt b)
    omega

end Go.Proofs.Ytcegbmibpkopaaa
