/- lemmarylaw05.FindWith: for every input the statement's function returns true, and its arguments read behind the call as they read before. No condition. -/
import Derived.Test.YtgbfccbnbgbknaaWBg
import Derived.Test.YtgbfccbnbgbknaaN7g
import Derived.Test.YtgbfccbnbgbknaaBCg
import Derived.Test.YtgbfccbnbgbknaaGUg
import Derived.Test.YtgbfccbnbgbknaaFEg
import Derived.Test.YtgbfccbnbgbknaaG1g
import Derived.Test.YtgbfccbnbgbknaaK11g
/- Contract: find.With. -/
namespace Go.Proofs.Ytgbfccbnbgbknaa
open Go.RowKit

theorem all_succI {xs : List Int} {q : Int → Bool} {k : Nat} (h : k < xs.length) : (xs.take (k + 1)).all q = ((xs.take k).all q && q xs[k]) := by
  rw [List.take_succ_eq_append_getElem h, List.all_append]
  simp
theorem all_notI {xs : List Int} {q : Int → Bool} {k : Nat} (h : k < xs.length) (hq : q xs[k] = false) : xs.all q = false := by
  cases e : xs.all q
  · rfl
  · have := List.all_eq_true.1 e _ (List.getElem_mem h)
    rw [hq] at this; cases this

set_option maxRecDepth 100000 in
set_option maxHeartbeats 1000000 in
theorem withC_any (Bw : Nat) (At Aw : Option Addr) (n nw cw : Nat) (ls : List Hd) (tt : List (List Int)) (ys : List Int) (w : World)
    (ht : TermsAt w w.heap.size At n ls tt) (hy : IntsAt w w.heap.size Aw nw ys) (hBw : Bw < w.heap.size) (cW : w.cell? ⟨Bw, 0, none⟩ = some (.slice Aw nw cw)) :
    Asks 145 #[.pointer (some ⟨Bw, 0, none⟩)] ls (fun k => ys.all fun z => (tt.getD k []).contains z) w.heap.size w := by
  intro W k A' n' c' hW hk
  obtain ⟨t, ht1, ht2, hI⟩ := ht.at hk
  have rW := (hW.cell (p := ⟨Bw, 0, none⟩) hBw).trans cW
  have HY := Lib.hid (hy.up hW)
  have HYL := Lib.hid hy.len
  have hmy := hy.max
  have HC := Lib.hid (fun z => containsT_any A' n' c' t z W _ ((hI.below hW).more hW.size))
  simp only [ht2]
  obtain ⟨R, hR⟩ : ∃ R, (ys.all fun z => t.contains z) = R := ⟨_, rfl⟩
  rw [hR]
  have HR := Lib.hid hR
  clear ht hy hk ht1 ht2 hI cW hR
  go_enter Try.func145, Try.ntmps145
  go_wp2
  go_loop [8] (fun i => ∃ k : Nat, k ≤ nw ∧ i = .int .i64 k ∧ (ys.take k).all (fun z => t.contains z) = true) (fun i => nw - (intOf i).toNat)
  case atStart => exact ⟨0, Nat.zero_le _, rfl, by simp⟩
  case round =>
    obtain ⟨j, hj, rfl, hA⟩ := hrel
    by_cases hlt : j < nw
    · obtain ⟨b, off, z, rfl, c1, k1, e1⟩ := HY.out.cellAt hlt
      have hj0 : (0 : Int) ≤ (j : Int) := by omega
      have hj1 : (j : Int) < (nw : Int) := by omega
      have C := Lib.hid (HC.out z)
      have HS := Lib.hid (all_succI (q := fun z => t.contains z) k1)
      have HN := Lib.hid (fun h => all_notI (q := fun z => t.contains z) k1 h)
      simp only [e1] at HS HN
      have HA := Lib.hid hA
      clear hA e1
      cases hq : t.contains z
      · rw [hq] at C
        have H := Lib.hid (show R = false by rw [← HR.out]; exact HN.out hq)
        clear hq
        go_wp2_with (go_at_call 146; refine C.out.mono ?_; rintro e w1 ⟨rfl, rfl⟩)
        go_ret
        exact ⟨ret_b H.out.symm, Below.refl _ _⟩
      · rw [hq] at C
        have H := Lib.hid (show (ys.take (j + 1)).all (fun z => t.contains z) = true by rw [HS.out, HA.out, hq]; rfl)
        clear hq
        go_wp2_with (go_at_call 146; refine C.out.mono ?_; rintro e w1 ⟨rfl, rfl⟩)
        go_round
        case rel => exact ⟨j + 1, by omega, by go_num, H.out⟩
        case measure => simp [intOf]; omega
    · obtain rfl : j = nw := by omega
      have H := Lib.hid (show R = true by
        rw [← HR.out]
        rw [List.take_of_length_le (by rw [← HYL.out]; exact Nat.le_refl _)] at hA
        exact hA)
      clear hA
      go_wp2
      go_ret
      exact ⟨ret_b H.out.symm, Below.refl _ _⟩

/-- Whether the numbers before k are symbols. -/
def InP (ys : List Int) (m k : Nat) : Prop := ∀ j, j < k → 0 ≤ ys.getD j 0 ∧ ys.getD j 0 < (m : Int)
instance (ys : List Int) (m k : Nat) : Decidable (InP ys m k) := by unfold InP; infer_instance
theorem InP.succ {ys : List Int} {m k : Nat} (h : InP ys m k) (h1 : 0 ≤ ys.getD k 0) (h2 : ys.getD k 0 < (m : Int)) : InP ys m (k + 1) := by
  intro j hj
  by_cases e : j = k
  · subst e; exact ⟨h1, h2⟩
  · exact h j (by omega)
/-- What With hands back. -/
def wiZ (ss : Sg) (tt : List (List Int)) (m : Nat) (ys : List Int) : List Int × Int := if shOk ss tt = true then (if InP ys m ys.length then (chF (fun k => ys.all fun z => (tt.getD k []).contains z) tt.length, 0) else ([], 5)) else ([], 1)
theorem all_same {xs ys : List Int} (h : ∀ z, z ∈ xs ↔ z ∈ ys) (q : Int → Bool) : xs.all q = ys.all q := by
  rw [Bool.eq_iff_iff, List.all_eq_true, List.all_eq_true]
  exact ⟨fun h1 z hz => h1 z ((h z).2 hz), fun h1 z hz => h1 z ((h z).1 hz)⟩

set_option maxRecDepth 100000 in
set_option maxHeartbeats 2000000 in
theorem fWith_any (As At Ay : Option Addr) (ns cs n c ny cy : Nat) (ss : Sg) (ls : List Hd) (tt : List (List Int)) (ys : List Int) (w : World)
    (hs : SigAt w w.heap.size As ns ss) (ht : TermsAt w w.heap.size At n ls tt) (hy : IntsAt w w.heap.size Ay ny ys) (hn : n ≤ 1000000) (_hns : ns ≤ 1000000) (hny : ny ≤ 1000) :
    Calls Try.prog 75 #[.slice As ns cs, .slice At n c, .slice Ay ny cy] w (RetK w (wiZ ss tt ns ys).1 (wiZ ss tt ns ys).2) := by
  have C1 := Lib.hid (fvalid_any As At ns cs n c ss ls tt w hs ht hn)
  have htl := ht.len
  cases h1 : shOk ss tt
  · have H : Hid (wiZ ss tt ns ys = ([], 1)) := Lib.hid (by unfold wiZ; rw [h1]; rfl)
    rw [H.out]
    rw [h1] at C1
    clear hs ht hy hn h1 htl
    go_enter Try.func75, Try.ntmps75
    go_wp2_with (go_at_call 59; refine C1.out.mono ?_; rintro e w1 ⟨rfl, hB1⟩; have HB1 := Lib.hid hB1; clear hB1)
    go_ret2
    exact ⟨none, 0, 0, rfl, IntsAt.nil _ _ 0, by omega, HB1.out⟩
  · rw [h1] at C1
    have H1 := Lib.hid h1
    have HY := Lib.hid hy
    have HYL := Lib.hid hy.len
    have HT := Lib.hid ht
    have HTL := Lib.hid htl
    clear hs ht hy h1 htl
    go_enter Try.func75, Try.ntmps75
    go_wp2_with (go_at_call 59; refine C1.out.mono ?_; rintro e w1 ⟨rfl, hB1⟩; have HB1 := Lib.hid hB1; clear hB1)
    go_loop [17] (fun i => ∃ k : Nat, k ≤ ny ∧ i = .int .i64 k ∧ InP ys ns k) (fun i => ny - (intOf i).toNat)
    case atStart => exact ⟨0, Nat.zero_le _, rfl, fun j hj => absurd hj (by omega)⟩
    case round =>
      obtain ⟨k, hk, rfl, hA⟩ := hrel
      by_cases hlt : k < ny
      · obtain ⟨b, off, z, rfl, c1, k1, e1⟩ := (HY.out.up HB1.out).cellAt hlt
        have hget : ys.getD k 0 = z := by rw [List.getD_eq_getElem?_getD, List.getElem?_eq_getElem k1]; exact e1
        have hk0 : (0 : Int) ≤ (k : Int) := by omega
        have hk1 : (k : Int) < (ny : Int) := by omega
        by_cases hz : 0 ≤ z ∧ z < (ns : Int)
        · have d1 : decide (z < 0) = false := decide_eq_false (by omega)
          have d2 : decide ((ns : Int) ≤ z) = false := decide_eq_false (by omega)
          have H := Lib.hid (hA.succ (by rw [hget]; exact hz.1) (by rw [hget]; exact hz.2))
          clear hA e1 hget
          go_wp2
          go_round
          case rel => exact ⟨k + 1, by omega, by go_num, H.out⟩
          case measure => simp [intOf]; omega
        · have H : Hid (wiZ ss tt ns ys = ([], 5)) := Lib.hid (by
            unfold wiZ
            rw [H1.out, if_pos rfl, if_neg (fun h => hz (by have := h k k1; rw [hget] at this; exact this))])
          rw [H.out]
          clear hA e1 hget
          by_cases hz0 : z < 0
          · have d1 : decide (z < 0) = true := decide_eq_true hz0
            go_wp2
            go_ret2
            exact ⟨none, 0, 0, rfl, IntsAt.nil _ _ 0, by omega, HB1.out⟩
          · have d1 : decide (z < 0) = false := decide_eq_false hz0
            have d2 : decide ((ns : Int) ≤ z) = true := decide_eq_true (by omega)
            go_wp2
            go_ret2
            exact ⟨none, 0, 0, rfl, IntsAt.nil _ _ 0, by omega, HB1.out⟩
      · obtain rfl : k = ny := by omega
        have HIN := Lib.hid (show InP ys ns ys.length by rw [← HYL.out]; exact hA)
        obtain ⟨W2, hW2⟩ : ∃ W2, w1.alloc (.cells #[.slice Ay k cy] 24) = W2 := ⟨_, rfl⟩
        have hB2 : Below w.heap.size w W2 := by rw [← hW2]; exact HB1.out.alloc HB1.out.size _
        have hsz2 : W2.heap.size = w1.heap.size + 1 := by rw [← hW2]; simp
        have hc2 : W2.cell? ⟨w1.heap.size, 0, none⟩ = some (.slice Ay k cy) := by rw [← hW2]; simp
        have CS := Lib.hid (sorted_any w1.heap.size k cy Ay ys W2 (by omega) hc2 (HY.out.up hB2) hny)
        have HW2 := Lib.hid hW2
        have HB2 := Lib.hid hB2
        have H : Hid (wiZ ss tt ns ys = (chF (fun k => (Lib.compact (srt ys)).all fun z => (tt.getD k []).contains z) n, 0)) := Lib.hid (by
          unfold wiZ
          rw [H1.out, if_pos rfl, if_pos HIN.out, ← HTL.out]
          refine Prod.ext ?_ rfl
          show chF _ n = chF _ n
          exact chF_congr fun i _ => (all_same (fun z => compact_mem.trans srt_mem) _).symm)
        rw [H.out]
        have HLS := Lib.hid (show (srt ys).length ≤ 1000 by rw [srt_len]; have := HYL.out; omega)
        clear hA hB2 hsz2 hc2 hW2
        go_wp2_with (first
          | (go_at_call 143; refine (values_any _ _ _ _).mono ?_; rintro e w3 ⟨rfl, rfl⟩)
          | (go_at_call 142; rw [HW2.out]; refine CS.out.mono ?_; rintro e w4 ⟨v, base, rfl, h1, h2, h3⟩; have HOWN := Lib.hid h2; have HSZ4 := Lib.hid (Nat.le_trans HB2.out.size h1); have HB4 := Lib.hid (below_then HB2.out h3); clear h1 h2 h3)
          | (go_at_call 141; refine (compactI_any v base (srt ys) w4 HOWN.out HLS.out).mono ?_; rintro e w5 ⟨A5, n5, c5, rfl, hI5, hB5⟩; have HI5 := Lib.hid hI5; have HB5 := Lib.hid (HB4.out.trans (hB5 _ HSZ4.out)); clear hI5 hB5))
        obtain ⟨W6, hW6⟩ : ∃ W6, w5.alloc (.cells #[.slice A5 n5 c5] 24) = W6 := ⟨_, rfl⟩
        have hB56 : Below w5.heap.size w5 W6 := by rw [← hW6]; exact bel_al (Below.refl _ _) _
        have hB6 : Below w.heap.size w W6 := below_then HB5.out hB56
        have hsz6 : W6.heap.size = w5.heap.size + 1 := by rw [← hW6]; simp
        have hc6 : W6.cell? ⟨w5.heap.size, 0, none⟩ = some (.slice A5 n5 c5) := by rw [← hW6]; simp
        have CH := Lib.hid (chosen_any 145 #[.pointer (some ⟨w5.heap.size, 0, none⟩)] (enters_of Try.func145 (by kernel_rfl) rfl) At n c ls _ W6 (HT.out.up hB6).hds hn
          (withC_any w5.heap.size At A5 n n5 c5 ls tt (Lib.compact (srt ys)) W6 (HT.out.up hB6) (HI5.out.up hB56) (by omega) hc6))
        have HL := Lib.hid (show (chF (fun k => (Lib.compact (srt ys)).all fun z => (tt.getD k []).contains z) n).length ≤ 1000000 by have := chF_len (fun k => (Lib.compact (srt ys)).all fun z => (tt.getD k []).contains z) n; omega)
        generalize chF (fun k => (Lib.compact (srt ys)).all fun z => (tt.getD k []).contains z) n = L at *
        have HW6 := Lib.hid hW6
        have HB6 := Lib.hid hB6
        clear hB56 hB6 hsz6 hc6 hW6
        go_wp2_with (go_at_call 144; rw [HW6.out]; refine CH.out.mono ?_; rintro e w7 ⟨v7, base7, rfl, hb7, hown7, hB7⟩; obtain ⟨A7, c7, rfl, hI7, hk7⟩ := row_intsk hown7 HL.out; have HI7 := Lib.hid hI7; have HK7 := Lib.hid hk7; have HB7 := Lib.hid (below_then HB6.out hB7); clear hb7 hown7 hB7 hI7 hk7)
        go_ret2
        try rw [H.out]
        exact ⟨_, _, _, rfl, HI7.out, HK7.out, HB7.out⟩

end Go.Proofs.Ytgbfccbnbgbknaa

/- A table of answers, one of them not told yet. -/
namespace Go.Proofs.Ytgbfccbnbgbknaa
open Go.RowKit

/-- The answers, the one for k so far. -/
def dcells (p : Nat → Bool) (q : Nat → Bool) (n k m : Nat) : Array Value := (bcells p n k).setIfInBounds k (.bool (!anyB q m))
theorem dcells_at {p q : Nat → Bool} {n k m : Nat} (h : k < n) : (dcells p q n k m)[k]? = some (.bool (!anyB q m)) := by
  unfold dcells
  rw [Array.getElem?_setIfInBounds, if_pos rfl, if_pos (by simpa [bcells] using h)]
theorem dcells_yes {p q : Nat → Bool} {n k m : Nat} (h : q m = true) : (dcells p q n k m).setIfInBounds k (.bool false) = dcells p q n k (m + 1) := by
  unfold dcells
  rw [show anyB q (m + 1) = true by unfold anyB; rw [h, Bool.or_true]]
  apply Array.ext_getElem?
  intro i
  rw [Array.getElem?_setIfInBounds, Array.getElem?_setIfInBounds, Array.getElem?_setIfInBounds]
  by_cases e : k = i
  · subst e
    simp
  · rw [if_neg e, if_neg e, if_neg e]
theorem dcells_no {p q : Nat → Bool} {n k m : Nat} (h : q m = false) : dcells p q n k (m + 1) = dcells p q n k m := by
  unfold dcells
  rw [show anyB q (m + 1) = anyB q m by show (anyB q m || q m) = _; rw [h, Bool.or_false]]

end Go.Proofs.Ytgbfccbnbgbknaa

/- Contract: the reference's With. -/
namespace Go.Proofs.Ytgbfccbnbgbknaa
open Go.RowKit

/-- Whether symbol m is asked for and does not come. -/
def lackB (ys t : List Int) (m : Nat) : Bool := ys.contains (m : Int) && !t.contains (m : Int)
theorem lack_is {ys t : List Int} {ns : Nat} (h : InP ys ns ys.length) : (!anyB (lackB ys t) ns) = ys.all fun z => t.contains z := by
  rw [Bool.eq_iff_iff, Bool.not_eq_true', anyB_none, List.all_eq_true]
  constructor
  · intro h1 z hz
    obtain ⟨j, hj, e⟩ := List.getElem_of_mem hz
    have h2 := h j hj
    rw [List.getD_eq_getElem?_getD, List.getElem?_eq_getElem hj, Option.getD_some, e] at h2
    obtain ⟨k, rfl⟩ : ∃ k : Nat, z = (k : Int) := ⟨z.toNat, by omega⟩
    have h3 := h1 k (by omega)
    unfold lackB at h3
    rw [List.contains_iff_mem.2 hz, Bool.true_and, Bool.not_eq_false'] at h3
    exact h3
  · intro h1 k _
    unfold lackB
    cases e : ys.contains (k : Int)
    · rfl
    · rw [h1 _ (List.contains_iff_mem.1 e)]; rfl

set_option maxRecDepth 100000 in
set_option maxHeartbeats 4000000 in
theorem rWith_any (As At Ay : Option Addr) (ns cs n c ny cy : Nat) (ss : Sg) (ls : List Hd) (tt : List (List Int)) (ys : List Int) (w : World)
    (hs : SigAt w w.heap.size As ns ss) (ht : TermsAt w w.heap.size At n ls tt) (hy : IntsAt w w.heap.size Ay ny ys) (hn : n ≤ 1000000) (hns : ns ≤ 1000000) (hny : ny ≤ 1000) :
    Calls Try.prog 76 #[.slice As ns cs, .slice At n c, .slice Ay ny cy] w (RetK w (wiZ ss tt ns ys).1 (wiZ ss tt ns ys).2) := by
  have C1 := Lib.hid (refValid5_any As At ns cs n c ss ls tt w _ hs ht hn)
  have htl := ht.len
  cases h1 : shOk ss tt
  · have H : Hid (wiZ ss tt ns ys = ([], 1)) := Lib.hid (by unfold wiZ; rw [h1]; rfl)
    rw [H.out]
    rw [h1] at C1
    clear hs ht hy hn h1 htl
    go_enter Try.func76, Try.ntmps76
    go_wp2_with (go_at_call 60; refine C1.out.mono ?_; rintro e w1 ⟨rfl, k1, rfl⟩)
    go_ret2
    exact ⟨none, 0, 0, rfl, IntsAt.nil _ _ 0, by omega, below_drewN (Below.refl _ _) _⟩
  · rw [h1] at C1
    have hsl := shOk_len h1
    have H1 := Lib.hid h1
    obtain ⟨i0, hi0, hz0, hz1, hz2⟩ := info_parts info_bool
    have HY := Lib.hid hy
    have HYL := Lib.hid hy.len
    have HT := Lib.hid ht
    have HTL := Lib.hid htl
    obtain ⟨p, hp⟩ : ∃ p : Nat → Bool, (fun k => !anyB (lackB ys (tt.getD k [])) ns) = p := ⟨_, rfl⟩
    have HP := Lib.hid hp
    have hmk : ∀ W : World, (Instr.makeSlice 111 (.int .i64 (n : Int)) (.int .i64 (n : Int))).run Try.prog W = .ok (.slice (some ⟨W.heap.size, 0, none⟩) n n) (W.alloc (.cells (bcells p n 0) 4)) := by
      intro W
      rw [bcells_zero]
      have := run_make_rowN (P := Try.prog) 111 4 i0 _ Try.underlying111 hi0 hz0 .i64 .i64 n n (Nat.le_refl _) (by rw [hz2]; omega) (by omega) W
      rw [hz1] at this
      exact this
    have HMK := Lib.hid hmk
    clear hs ht hy h1 htl hp hmk hi0 hz0 hz1 hz2
    go_enter Try.func76, Try.ntmps76
    go_wp2_with (go_at_call 60; refine C1.out.mono ?_; rintro e w1 ⟨rfl, k1, hw1⟩; have HB1 := Lib.hid (show Below w.heap.size w w1 from by rw [hw1]; exact below_drewN (Below.refl _ _) _); clear hw1)
    go_loop [8] (fun i => ∃ k : Nat, k ≤ ny ∧ i = .int .i64 k ∧ InP ys ns k) (fun i => ny - (intOf i).toNat)
    case atStart => exact ⟨0, Nat.zero_le _, rfl, fun j hj => absurd hj (by omega)⟩
    case round =>
      obtain ⟨k, hk, rfl, hA⟩ := hrel
      by_cases hlt : k < ny
      · obtain ⟨b, off, z, rfl, c1, k1, e1⟩ := (HY.out.up HB1.out).cellAt hlt
        have hget : ys.getD k 0 = z := by rw [List.getD_eq_getElem?_getD, List.getElem?_eq_getElem k1]; exact e1
        have hk0 : (0 : Int) ≤ (k : Int) := by omega
        have hk1 : (k : Int) < (ny : Int) := by omega
        have CW := Lib.hid (fun V => within5_any z 0 ((ns : Int) - 1) V)
        by_cases hz : 0 ≤ z ∧ z < (ns : Int)
        · rw [show (decide ((0 : Int) ≤ z) && decide (z ≤ (ns : Int) - 1)) = true by rw [decide_eq_true (by omega), decide_eq_true (by omega)]; rfl] at CW
          have H := Lib.hid (hA.succ (by rw [hget]; exact hz.1) (by rw [hget]; exact hz.2))
          clear hA e1 hget
          go_wp2_with (go_at_call 131; refine (CW.out _).mono ?_; rintro e w2 ⟨rfl, rfl⟩)
          go_round
          case rel => exact ⟨k + 1, by omega, by go_num, H.out⟩
          case measure => simp [intOf]; omega
        · rw [show (decide ((0 : Int) ≤ z) && decide (z ≤ (ns : Int) - 1)) = false by
            rw [Bool.and_eq_false_iff, decide_eq_false_iff_not, decide_eq_false_iff_not]; omega] at CW
          have H : Hid (wiZ ss tt ns ys = ([], 5)) := Lib.hid (by
            unfold wiZ
            rw [H1.out, if_pos rfl, if_neg (fun h => hz (by have := h k k1; rw [hget] at this; exact this))])
          clear hA e1 hget
          go_wp2_with (go_at_call 131; refine (CW.out _).mono ?_; rintro e w2 ⟨rfl, rfl⟩)
          go_ret2
          rw [H.out]
          exact ⟨none, 0, 0, rfl, IntsAt.nil _ _ 0, by omega, HB1.out⟩
      · obtain rfl : k = ny := by omega
        have HIN := Lib.hid (show InP ys ns ys.length by rw [← HYL.out]; exact hA)
        have H : Hid (wiZ ss tt ns ys = (chF p n, 0)) := Lib.hid (by
          unfold wiZ
          rw [H1.out, if_pos rfl, if_pos HIN.out, ← HTL.out]
          refine Prod.ext ?_ rfl
          show chF _ n = chF _ n
          refine chF_congr fun i _ => ?_
          rw [← HP.out]
          exact (lack_is HIN.out).symm)
        have HN := Lib.hid (show (chF p n).length ≤ 1000000 by have := chF_len p n; omega)
        have hmk := HMK.out
        clear hA
        go_wp2
        clear hmk
        go_loopw [10] (fun i wr => ∃ k : Nat, k ≤ n ∧ i = .int .i64 k ∧ Blk wr w1.heap.size 4 (bcells p n k) ∧ Below w1.heap.size w1 wr) (fun i _ => n - (intOf i).toNat)
        case atStart => exact ⟨0, Nat.zero_le _, rfl, Blk.new _ _ _, (Below.refl _ _).alloc (Nat.le_refl _) _⟩
        case round =>
          obtain ⟨i, hi, rfl, hF, hBr⟩ := hrel
          have hBw := HB1.out.trans (hBr.mono HB1.out.size)
          by_cases hin : i < n
          · obtain ⟨bq, offq, A2, n2, c2, rfl, hb, p1, p2⟩ := HT.out.hds.cellAt hin
            obtain ⟨t, t1, t2, hIt⟩ := HT.out.at p2
            have hi0 : (0 : Int) ≤ (i : Int) := by omega
            have hi1 : (i : Int) < (n : Int) := by omega
            have c0 := (hF.cell i).trans (bcells_at p hin)
            have f0 := hF.frozen i
            have hst := hF.set_ i (.bool true)
            have HF0 := Lib.hid (show Blk (wr.setCell ⟨w1.heap.size, i, none⟩ (.bool true)) w1.heap.size 4 (dcells p (lackB ys t) n i 0) from hst)
            have HBR0 := Lib.hid (hBr.setCell (p := ⟨w1.heap.size, i, none⟩) (Nat.le_refl _) (.bool true))
            have HP1 := Lib.hid p1
            have HIT := Lib.hid hIt
            have HPI := Lib.hid (show p i = !anyB (lackB ys t) ns by rw [← HP.out]; simp only [t2])
            clear hF hBr hBw hst p1 p2 t1 t2 hIt
            go_wp2
            go_loopw [11] (fun j wv => ∃ m : Nat, m ≤ ns ∧ j = .int .i64 m ∧ Blk wv w1.heap.size 4 (dcells p (lackB ys t) n i m) ∧ Below w1.heap.size w1 wv) (fun j _ => ns - (intOf j).toNat)
            case atStart => exact ⟨0, Nat.zero_le _, rfl, HF0.out, HBR0.out⟩
            case round =>
              obtain ⟨m, hm, rfl, hF, hBr⟩ := hrel
              have hBw := HB1.out.trans (hBr.mono HB1.out.size)
              by_cases hmn : m < ns
              · have q3 := (hBw.cell (p := ⟨bq, offq + i, none⟩) hb).trans HP1.out
                have CY := Lib.hid (has_any Ay k cy ys (m : Int) wr _ (HY.out.up hBw))
                have CT := Lib.hid (has_any A2 n2 c2 t (m : Int) wr _ ((HIT.out.below hBw).more hBw.size))
                have hm0 : (0 : Int) ≤ (m : Int) := by omega
                have hm1 : (m : Int) < (ns : Int) := by omega
                have c5 := (hF.cell i).trans (dcells_at hin)
                have f5 := hF.frozen i
                have hq : lackB ys t m = (ys.contains (m : Int) && !t.contains (m : Int)) := rfl
                obtain ⟨x, hx⟩ : ∃ x, ys.contains (m : Int) = x := ⟨_, rfl⟩
                obtain ⟨y, hy⟩ : ∃ y, t.contains (m : Int) = y := ⟨_, rfl⟩
                rw [hx, hy] at hq
                rw [hx] at CY
                rw [hy] at CT
                have HF := Lib.hid hF
                have HBR := Lib.hid hBr
                clear hF hBr hBw hx hy
                cases x
                · have HQM := Lib.hid (dcells_no (p := p) (n := n) (k := i) (show lackB ys t m = false from hq))
                  clear hq
                  go_wp2_with (go_at_call 74; (with_reducible refine CY.out.mono ?_); rintro e w5 ⟨rfl, rfl⟩)
                  go_roundw
                  case rel => exact ⟨m + 1, by omega, by go_num, by rw [HQM.out]; exact HF.out, HBR.out⟩
                  case measure => simp [intOf]; omega
                · cases y
                  · have HQM := Lib.hid (dcells_yes (p := p) (n := n) (k := i) (show lackB ys t m = true from hq))
                    clear hq
                    go_wp2_with (first
                      | (go_at_call 74; (with_reducible refine CY.out.mono ?_); rintro e w5 ⟨rfl, rfl⟩)
                      | (go_at_call 74; (with_reducible refine CT.out.mono ?_); rintro e w6 ⟨rfl, rfl⟩))
                    go_roundw
                    case rel => exact ⟨m + 1, by omega, by go_num, by have := HF.out.set_ i (.bool false); rw [HQM.out] at this; exact this, HBR.out.setCell (p := ⟨w1.heap.size, i, none⟩) (Nat.le_refl _) (.bool false)⟩
                    case measure => simp [intOf]; omega
                  · have HQM := Lib.hid (dcells_no (p := p) (n := n) (k := i) (show lackB ys t m = false from hq))
                    clear hq
                    go_wp2_with (first
                      | (go_at_call 74; (with_reducible refine CY.out.mono ?_); rintro e w5 ⟨rfl, rfl⟩)
                      | (go_at_call 74; (with_reducible refine CT.out.mono ?_); rintro e w6 ⟨rfl, rfl⟩))
                    go_roundw
                    case rel => exact ⟨m + 1, by omega, by go_num, by rw [HQM.out]; exact HF.out, HBR.out⟩
                    case measure => simp [intOf]; omega
              · obtain rfl : m = ns := by omega
                have HFN := Lib.hid (show Blk wr w1.heap.size 4 (bcells p n (i + 1)) by
                  rw [← bcells_set p hin, HPI.out]; exact hF)
                have HBN := Lib.hid hBr
                clear hF hBr hBw
                go_wp2
                go_roundw
                case rel => exact ⟨i + 1, by omega, by go_num, HFN.out, HBN.out⟩
                case measure => simp [intOf]; omega
          · obtain rfl : i = n := by omega
            have CF := Lib.hid (refChosen_any w1.heap.size i i p wr hF hn)
            have HBW := Lib.hid hBw
            clear hF hBr hBw
            go_wp2_with (go_at_call 130; refine CF.out.mono ?_; rintro e w6 ⟨v, base, rfl, hb6, hrow, hB6⟩; obtain ⟨A6, c6, rfl, hI6, hk6⟩ := row_intsk hrow HN.out; have HB6 := Lib.hid (below_then HBW.out hB6); have HI6 := Lib.hid hI6; have HK6 := Lib.hid hk6; clear hb6 hrow hB6 hI6 hk6)
            go_ret2
            rw [H.out]
            exact ⟨A6, _, c6, rfl, HI6.out, HK6.out, HB6.out⟩

end Go.Proofs.Ytgbfccbnbgbknaa

/- The walk of FindWith. -/
namespace Go.Proofs.Ytgbfccbnbgbknaa
open Go.RowKit

set_option maxRecDepth 100000 in
set_option maxHeartbeats 4000000 in
theorem with_walk (As At Ay : Option Addr) (ns cs n c ny cy : Nat) (ss : Sg) (ls : List Hd) (tt : List (List Int)) (ys : List Int) (w : World) (hs : SigAt w w.heap.size As ns ss) (ht : TermsAt w w.heap.size At n ls tt) (hy : IntsAt w w.heap.size Ay ny ys) :
    Calls Try.prog 12 #[.slice As ns cs, .slice At n c, .slice Ay ny cy] w fun e w' => e = .returned (.bool true) ∧ Below w.heap.size w w' := by
  have C1 := Lib.hid (few5_any As At ns cs n c 70 ls w _ ht.hds)
  cases hf : fewB ns n 70 ls
  · rw [hf] at C1
    clear hs ht hy hf
    go_enter Try.func12, Try.ntmps12
    go_wp2_with (first
      | (go_at_call 54; refine C1.out.mono ?_; rintro e w' ⟨rfl, rfl⟩)
      | (go_at_call 55; refine (awakeF_any _).mono ?_; rintro e w3 ⟨rfl, hB3⟩; have HB3 := Lib.hid hB3; clear hB3))
    go_ret
    exact ⟨rfl, HB3.out⟩
  · rw [hf] at C1
    have hb : n ≤ 70 ∧ ns ≤ 1000000 := by
      unfold fewB smallOk at hf
      simp only [Bool.and_eq_true, decide_eq_true_eq] at hf
      omega
    by_cases h60 : 60 < ny
    · have d1 : decide ((60 : Int) < (ny : Int)) = true := decide_eq_true (by omega)
      clear hs ht hy hf
      go_enter Try.func12, Try.ntmps12
      go_wp2_with (first
        | (go_at_call 54; refine C1.out.mono ?_; rintro e w' ⟨rfl, rfl⟩)
        | (go_at_call 55; refine (awakeF_any _).mono ?_; rintro e w3 ⟨rfl, hB3⟩; have HB3 := Lib.hid hB3; clear hB3))
      go_ret
      exact ⟨rfl, HB3.out⟩
    · have d1 : decide ((60 : Int) < (ny : Int)) = false := decide_eq_false (by omega)
      have P0 := Lib.hid (fWith_any As At Ay ns cs n c ny cy ss ls tt ys w hs ht hy (by omega) hb.2 (by omega))
      have R0 := Lib.hid (fun V (h : Below w.heap.size w V) => rWith_any As At Ay ns cs n c ny cy ss ls tt ys V (hs.up h) (ht.up h) (hy.up h) (by omega) hb.2 (by omega))
      obtain ⟨S0, hS0⟩ : ∃ S, wiZ ss tt ns ys = S := ⟨_, rfl⟩
      simp only [hS0] at P0 R0
      obtain ⟨L0, x0⟩ := S0
      simp only at P0 R0
      have q0 : (x0 == x0) = true := by simp
      clear hs ht hy hf hS0
      go_enter Try.func12, Try.ntmps12
      go_wp2_with (first
        | (go_at_call 54; refine C1.out.mono ?_; rintro e w' ⟨rfl, rfl⟩)
        | (go_at_call 75; refine P0.out.mono ?_; rintro e w1 ⟨A1, n1, c1, rfl, hI, hk, hB⟩; have HB1 := Lib.hid hB; have HI1 := Lib.hid hI; clear hI hk hB)
        | (go_at_call 76; refine (R0.out _ HB1.out).mono ?_; rintro e w2 ⟨A2, n2, c2, rfl, hI, hk, hB⟩; have HB2 := Lib.hid (below_then HB1.out hB); have HI1b := Lib.hid (HI1.out.up hB); have HI2 := Lib.hid hI; clear hI hk hB)
        | (go_at_call 58; (with_reducible refine (sameInts_any A1 A2 n1 c1 n2 c2 L0 L0 _ _ HI1b.out HI2.out).mono ?_); rintro e w3 ⟨rfl, kc, hwc⟩; rw [decide_eq_true (show L0 = L0 from rfl)]; have HB3 := Lib.hid (show Below w.heap.size w w3 from by rw [hwc]; exact below_drewN HB2.out _); clear hwc)
        | (go_at_call 55; refine (awakeF_any _).mono ?_; rintro e w9 ⟨rfl, hB⟩; have HB9 := Lib.hid (below_then HB3.out hB); clear hB))
      go_ret
      exact ⟨rfl, HB9.out⟩

end Go.Proofs.Ytgbfccbnbgbknaa

namespace Go.Proofs.Ytgbfccbnbgbknaa
open Go.ChangeShapes Go.WideShapes Go.ChangeAt Go.RowKit Go.Deep

set_option maxRecDepth 100000 in
theorem with_lifted (os : Os) (started : os.Started) (H : Type) (enc : TypeId × Value → H) :
    ReturnsInHanded {} Try.checked os 12 .any (Rows.findWithSpec.pre6 enc Try.prog Try.f12 Rows.findWithRow.domain false) (Rows.findWithSpec.post enc Try.prog Try.f12 false true false false) := by
  refine returnsInHanded_of_change (C := Try.checked) own started (by kernel_rfl) Try.func12
    (ChangeSpec.witness6 (enc := enc) (C := Try.checked) false ⟨#[], #[.slice none 0 0, .slice none 0 0, .slice none 0 0], []⟩ 8 (by kernel_rfl) (by kernel_rfl) (by kernel_rfl) (by kernel_rfl)) ?_
  intro W base args ds gs before hval0 hW hcnd _
  have hval : ∀ (j : Nat) t v, Try.f12.params[j]? = some t → args[j]? = some v → Value.okWide Try.prog W .any base t v := hval0
  have hW' := hW
  obtain ⟨p, q, hA0, hV, rfl, hfz, hnd⟩ := hW
  have hA : DataW.TrodAll enc Try.prog W 0 (fun _ => true) true Try.f12.params.toList args.toList ds p := hA0
  rw [Try.params12] at hA hval
  obtain ⟨v0, vs0, d0, ds0, p0, q0, hargs, rfl, rfl, h0, r0⟩ := trodAll_cons hA
  obtain ⟨v1, vs1, d1, ds1, p1, q1, rfl, rfl, rfl, h1, r1⟩ := trodAll_cons r0
  obtain ⟨v2, vs2, d2, ds2, p2, q2, rfl, rfl, rfl, h2, r2⟩ := trodAll_cons r1
  obtain ⟨rfl, rfl, rfl⟩ := trodAll_nil r2
  obtain rfl : args = #[v0, v1, v2] := by cases args; simp_all
  obtain ⟨rfl, rfl⟩ := trodVars_none hV
  obtain ⟨a0, len0, cap0, rfl⟩ := okWide_slice Try.underlying23 (hval 0 23 v0 rfl rfl)
  obtain ⟨a1, len1, cap1, rfl⟩ := okWide_slice Try.underlying49 (hval 1 49 v1 rfl rfl)
  obtain ⟨a2, len2, cap2, rfl⟩ := okWide_slice Try.underlying24 (hval 2 24 v2 rfl rfl)
  have k0 := h0
  have k1 := h1
  have k2 := h2
  have lt0 : ∀ x ∈ p0, x.block < W.heap.size := by obtain ⟨m, hm⟩ := k0; exact DataW.trod_lt m _ _ _ hm
  have lt1 : ∀ x ∈ p1, x.block < W.heap.size := by obtain ⟨m, hm⟩ := k1; exact DataW.trod_lt m _ _ _ hm
  have lt2 : ∀ x ∈ p2, x.block < W.heap.size := by obtain ⟨m, hm⟩ := k2; exact DataW.trod_lt m _ _ _ hm
  obtain ⟨f0, e0⟩ := h0
  obtain ⟨f1, e1⟩ := h1
  obtain ⟨f2, e2⟩ := h2
  obtain ⟨As, ns, cs, ss, es, hs⟩ := read_sign e0
  cases es
  obtain ⟨At, nt, ct, ls, tt, et, ht, hkt, hcap⟩ := read_termsk e1
  cases et
  obtain ⟨Ai, ni, ci, zi, ei, hi, hki1, hki2, _⟩ := read_ints Try.underlying24 e2
  cases ei
  clear hA0 hval0
  refine (with_walk _ _ _ _ _ _ _ _ _ ss ls tt zi W hs ht hi).mono fun e W' ⟨he, bel⟩ => ?_
  subst he
  exact ⟨_, rfl, _, _, _, [], _, [], hW', trodAll_mk1 (shut_bool Try.underlying4 _), (trodAll_cons_mk (Below.trod laidOut (by kernel_rfl) (of_decide_eq_true (by kernel_rfl)) k0 bel lt0) (trodAll_cons_mk (Below.trod laidOut (by kernel_rfl) (of_decide_eq_true (by kernel_rfl)) k1 bel lt1) (trodAll_cons_mk (Below.trod laidOut (by kernel_rfl) (of_decide_eq_true (by kernel_rfl)) k2 bel lt2) trodAll_mk0))), rfl, bel.frame _, fun h => by cases h⟩

theorem with_holds : Rows.FindWithSaid :=
  OpenClaim.holds_of_wide 12 Try.f12 rfl rfl rfl rfl rfl rfl rfl ⟨rfl, rfl, rfl, rfl, rfl⟩ rfl rfl rfl rfl rfl (by kernel_rfl) Try.func12 (by kernel_rfl)
    (of_decide_eq_true (by kernel_rfl)) (by unfold Func.isWrapper; first | (rw [if_pos (by decide +kernel)]; kernel_rfl) | (rw [if_neg (by decide +kernel)]; exact ⟨rfl, rfl⟩))
    (fun os started H enc _ => with_lifted os started H enc)

end Go.Proofs.Ytgbfccbnbgbknaa
