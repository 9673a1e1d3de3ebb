/- Pure: lists of lists in order, each once: what With, a sort and a compaction make. -/
import Derived.Test.YtmccdmpemlmkkaaJ0
namespace Go.Proofs.Ytmccdmpemlmkkaa

theorem cmpL_eq {a b : List Int} : cmpL a b = 0 ↔ a = b := by
  have := cmpL_zero a b
  by_cases e : a = b
  · rw [decide_eq_true e] at this; simpa [e] using this
  · rw [decide_eq_false e] at this; simpa [e] using this
theorem cmpL_lt_trans {a b c : List Int} (h1 : cmpL a b < 0) (h2 : cmpL b c ≤ 0) : cmpL a c < 0 := by
  have h := cmpL_trans a b c (by omega) h2
  rcases Int.lt_or_eq_of_le h with h | h
  · exact h
  · have e := cmpL_eq.1 h
    subst e
    have := cmpL_neg a b
    omega
theorem cmpL_lt_trans' {a b c : List Int} (h1 : cmpL a b ≤ 0) (h2 : cmpL b c < 0) : cmpL a c < 0 := by
  have h := cmpL_trans a b c h1 (by omega)
  rcases Int.lt_or_eq_of_le h with h | h
  · exact h
  · have e := cmpL_eq.1 h
    subst e
    have := cmpL_neg a b
    omega
theorem cmpL_self (a : List Int) : cmpL a a = 0 := cmpL_eq.2 rfl
abbrev SLt (a b : List Int) : Prop := cmpL a b < 0
/-- Strictly in order. -/
abbrev InOrd (l : List (List Int)) : Prop := l.Pairwise SLt
theorem InOrd.same : ∀ (xs ys : List (List Int)), InOrd xs → InOrd ys → (∀ z, z ∈ xs ↔ z ∈ ys) → xs = ys
  | [], [], _, _, _ => rfl
  | [], y :: ys, _, _, h => by have := (h y).2 (by simp); simp at this
  | x :: xs, [], _, _, h => by have := (h x).1 (by simp); simp at this
  | x :: xs, y :: ys, hx, hy, h => by
    have hx1 := (List.pairwise_cons.1 hx).1
    have hy1 := (List.pairwise_cons.1 hy).1
    have e : x = y := by
      rcases List.mem_cons.1 ((h x).1 (by simp)) with e | e
      · exact e
      · rcases List.mem_cons.1 ((h y).2 (by simp)) with e2 | e2
        · exact e2.symm
        · have h1 := hy1 x e
          have h2 := hx1 y e2
          have := cmpL_neg x y
          have h1' : cmpL y x < 0 := h1
          have h2' : cmpL x y < 0 := h2
          omega
    subst e
    have := InOrd.same xs ys (List.pairwise_cons.1 hx).2 (List.pairwise_cons.1 hy).2 (fun z => by
      constructor
      · intro hz
        rcases List.mem_cons.1 ((h z).1 (by simp [hz])) with e | e
        · subst e
          have h2 : cmpL z z < 0 := hx1 z hz
          rw [cmpL_self] at h2
          omega
        · exact e
      · intro hz
        rcases List.mem_cons.1 ((h z).2 (by simp [hz])) with e | e
        · subst e
          have h2 : cmpL z z < 0 := hy1 z hz
          rw [cmpL_self] at h2
          omega
        · exact e)
    rw [this]

/-- A list in order with one more. -/
def withL (t : List Int) : List (List Int) → List (List Int)
  | [] => [t]
  | x :: r => if cmpL t x < 0 then t :: x :: r else if cmpL t x = 0 then x :: r else x :: withL t r
theorem withL_mem {t z : List Int} : ∀ {l : List (List Int)}, z ∈ withL t l ↔ z = t ∨ z ∈ l
  | [] => by simp [withL]
  | x :: r => by
    unfold withL
    split
    · simp
    · split
      · rename_i h1 h2
        have e := cmpL_eq.1 h2
        subst e
        simp
      · rw [List.mem_cons, withL_mem]
        simp only [List.mem_cons]
        constructor
        · rintro (h | h | h) <;> simp [h]
        · rintro (h | h | h) <;> simp [h]
theorem withL_ord {t : List Int} : ∀ {l : List (List Int)}, InOrd l → InOrd (withL t l)
  | [], _ => by simp [withL, InOrd]
  | x :: r, h => by
    unfold withL
    have h1 := List.pairwise_cons.1 h
    split
    · rename_i hlt
      refine List.pairwise_cons.2 ⟨fun z hz => ?_, h⟩
      rcases List.mem_cons.1 hz with rfl | hz
      · exact hlt
      · exact cmpL_lt_trans hlt (Int.le_of_lt (h1.1 z hz))
    · split
      · exact h
      · rename_i h2 h3
        refine List.pairwise_cons.2 ⟨fun z hz => ?_, withL_ord h1.2⟩
        rcases withL_mem.1 hz with rfl | hz
        · show cmpL x z < 0
          have := cmpL_neg x z
          omega
        · exact h1.1 z hz
theorem withL_len {t : List Int} : ∀ (l : List (List Int)), (withL t l).length ≤ l.length + 1
  | [] => by simp [withL]
  | x :: r => by
    unfold withL
    have := withL_len (t := t) r
    split
    · simp
    · split <;> simp <;> omega

/-- Each run of equal neighbours once: of the first k. -/
def ddN (xs : List (List Int)) : Nat → List (List Int)
  | 0 => []
  | k + 1 => if k = 0 ∨ xs[k]? ≠ xs[k - 1]? then ddN xs k ++ [xs.getD k []] else ddN xs k
theorem ddN_len (xs : List (List Int)) : ∀ k, (ddN xs k).length ≤ k
  | 0 => by simp [ddN]
  | k + 1 => by
    have := ddN_len xs k
    unfold ddN
    split <;> simp <;> omega
theorem ddN_last (xs : List (List Int)) : ∀ k, k < xs.length → (ddN xs (k + 1)).getLast? = xs[k]?
  | 0, h => by simp [ddN, List.getElem?_eq_getElem h]
  | k + 1, h => by
    rw [ddN]
    split
    · simp [List.getElem?_eq_getElem h]
    · rename_i hn
      have e : xs[k + 1]? = xs[k]? := by
        simp only [Nat.succ_ne_zero, false_or, Nat.add_sub_cancel, Classical.not_not] at hn
        exact hn
      rw [ddN_last xs k (by omega), e]
theorem ddN_mem (xs : List (List Int)) (z : List Int) : ∀ k, k ≤ xs.length → (z ∈ ddN xs k ↔ ∃ i, i < k ∧ xs[i]? = some z)
  | 0, _ => by simp [ddN]
  | k + 1, h => by
    have ih := ddN_mem xs z k (by omega)
    rw [ddN]
    split
    · rw [List.mem_append, ih, List.mem_singleton]
      constructor
      · rintro (⟨i, h1, h2⟩ | e)
        · exact ⟨i, by omega, h2⟩
        · exact ⟨k, by omega, by rw [List.getElem?_eq_getElem (by omega), e, List.getD_eq_getElem?_getD, List.getElem?_eq_getElem (by omega)]; rfl⟩
      · rintro ⟨i, h1, h2⟩
        by_cases e : i = k
        · subst e
          right
          rw [List.getD_eq_getElem?_getD, h2]; rfl
        · exact .inl ⟨i, by omega, h2⟩
    · rename_i hn
      rw [ih]
      constructor
      · rintro ⟨i, h1, h2⟩; exact ⟨i, by omega, h2⟩
      · rintro ⟨i, h1, h2⟩
        by_cases e : i = k
        · subst e
          have h3 : ¬ i = 0 ∧ xs[i]? = xs[i - 1]? := by
            constructor
            · intro e; exact hn (.inl e)
            · exact Classical.not_not.1 fun e => hn (.inr e)
          exact ⟨i - 1, by omega, by rw [← h3.2, h2]⟩
        · exact ⟨i, by omega, h2⟩
/-- Of a list in order (with repeats) each once is strictly in order. -/
theorem ddN_ord (xs : List (List Int)) (hs : ∀ i j (hi : i < xs.length) (hj : j < xs.length), i < j → cmpL xs[i] xs[j] ≤ 0) : ∀ k, k ≤ xs.length → InOrd (ddN xs k)
  | 0, _ => by simp [ddN, InOrd]
  | k + 1, h => by
    have ih := ddN_ord xs hs k (by omega)
    rw [ddN]
    split
    · rename_i hn
      refine List.pairwise_append.2 ⟨ih, by simp, fun a ha b hb => ?_⟩
      simp only [List.mem_singleton] at hb
      subst hb
      obtain ⟨i, h1, h2⟩ := (ddN_mem xs a k (by omega)).1 ha
      have hk0 : k ≠ 0 := by omega
      rcases hn with hn | hn
      · exact absurd hn hk0
      · have hk : k < xs.length := by omega
        have hk1 : k - 1 < xs.length := by omega
        have hi : i < xs.length := by omega
        have e1 : xs.getD k [] = xs[k] := by rw [List.getD_eq_getElem?_getD, List.getElem?_eq_getElem hk]; rfl
        have e2 : a = xs[i] := by rw [List.getElem?_eq_getElem hi] at h2; exact (Option.some.inj h2).symm
        rw [e1, e2]
        have h3 : cmpL xs[k - 1] xs[k] < 0 := by
          rcases Int.lt_or_eq_of_le (hs (k - 1) k hk1 hk (by omega)) with h | h
          · exact h
          · refine absurd ?_ hn
            rw [List.getElem?_eq_getElem hk, List.getElem?_eq_getElem hk1, cmpL_eq.1 h]
        by_cases e : i = k - 1
        · subst e; exact h3
        · exact cmpL_lt_trans' (hs i (k - 1) hi hk1 (by omega)) h3
    · exact ih

end Go.Proofs.Ytmccdmpemlmkkaa
