/- Contracts: the reference's asked, chosen and alike of package find; a table of answers (taken out of FG). -/
import Derived.Test.YtgbfccbnbgbknaaFCg
import Derived.Test.YtgbfccbnbgbknaaB10g
import Derived.Test.YtgbfccbnbgbknaaN23g
import Derived.Test.YtgbfccbnbgbknaaQ6g
/- The reference's Valid of package find at any arguments (taken out of FG). -/
namespace Go.Proofs.Ytgbfccbnbgbknaa
open Go.RowKit

theorem shOk_ref {ss : Sg} {tt : List (List Int)} (h1 : sigOk ss = true) (h2 : 1 ≤ tt.length ∧ tt.length ≤ 60) : shOk ss tt = tt.all (termOk ss) := by
  unfold shOk
  rw [decide_eq_true h2, Bool.true_and]
  congr 1
  funext z
  unfold valOk
  rw [h1, Bool.true_and]
theorem shOk_nosig {ss : Sg} {tt : List (List Int)} (h1 : sigOk ss = false) : shOk ss tt = false := by
  cases tt with
  | nil => rfl
  | cons z r =>
    unfold shOk
    have : valOk ss z = false := by unfold valOk; rw [h1]; rfl
    simp [this]
theorem shOk_nolen {ss : Sg} {tt : List (List Int)} (h : ¬ (1 ≤ tt.length ∧ tt.length ≤ 60)) : shOk ss tt = false := by
  unfold shOk
  rw [decide_eq_false h]; rfl

set_option maxHeartbeats 400000 in
theorem within5_any (n lo hi : Int) (w : World) : Calls Try.prog 131 #[.int .i64 n, .int .i64 lo, .int .i64 hi] w fun e w' => e = .returned (.bool (decide (lo ≤ n) && decide (n ≤ hi))) ∧ w = w' := by
  by_cases h1 : lo ≤ n
  · by_cases h2 : n ≤ hi
    · have d1 : decide (lo ≤ n) = true := decide_eq_true h1
      have d2 : decide (n ≤ hi) = true := decide_eq_true h2
      go_enter Try.func131, Try.ntmps131
      go_wp2
      go_ret
      exact ⟨ret_b (by first | rfl | (rw [d1, d2]; rfl)), rfl⟩
    · have d1 : decide (lo ≤ n) = true := decide_eq_true h1
      have d2 : decide (n ≤ hi) = false := decide_eq_false h2
      go_enter Try.func131, Try.ntmps131
      go_wp2
      go_ret
      exact ⟨ret_b (by first | rfl | (rw [d1, d2]; rfl)), rfl⟩
  · have d1 : decide (lo ≤ n) = false := decide_eq_false h1
    go_enter Try.func131, Try.ntmps131
    go_wp2
    go_ret
    exact ⟨ret_b (by first | rfl | (rw [d1]; rfl)), rfl⟩

set_option maxRecDepth 100000 in
set_option maxHeartbeats 1000000 in
theorem refValid5_any (As At : Option Addr) (ns cs n c : Nat) (ss : Sg) (ls : List Hd) (tt : List (List Int)) (w : World) (B : Nat) (hs : SigAt w B As ns ss) (ht : TermsAt w B At n ls tt) (hn : n ≤ 1000000) :
    Calls Try.prog 60 #[.slice As ns cs, .slice At n c] w fun e w' => e = .returned (.bool (shOk ss tt)) ∧ ∃ k, w' = w.drewN k := by
  have C1 := Lib.hid (refSign_any As ns cs ss w B hs)
  have hlt := ht.len
  cases h1 : sigOk ss
  · have H := Lib.hid (shOk_nosig (tt := tt) h1)
    rw [h1] at C1
    clear hs ht hn h1 hlt
    go_enter Try.func60, Try.ntmps60
    go_wp2_with (go_at_call 108; refine C1.out.mono ?_; rintro e w1 ⟨rfl, k1, rfl⟩)
    go_ret
    exact ⟨ret_b (by rw [H.out]), _, rfl⟩
  · have C2 := Lib.hid (fun k => within5_any (n : Int) 1 60 (w.drewN k))
    rw [h1] at C1
    by_cases h2 : 1 ≤ tt.length ∧ tt.length ≤ 60
    · have C3 := Lib.hid (fun k => allValid_any As At ns cs n c ss ls tt (w.drewN k) B (hs.keep fun _ _ => rfl) (ht.keep fun _ _ => rfl) hn h1)
      have H := Lib.hid (shOk_ref h1 h2)
      obtain ⟨q, hq⟩ : ∃ q, tt.all (termOk ss) = q := ⟨_, rfl⟩
      rw [hq] at C3 H
      rw [show (decide ((1 : Int) ≤ (n : Int)) && decide ((n : Int) ≤ 60)) = true by rw [decide_eq_true (by omega), decide_eq_true (by omega)]; rfl] at C2
      clear hs ht hn h1 hlt h2 hq
      go_enter Try.func60, Try.ntmps60
      go_wp2_with (first
        | (go_at_call 108; refine C1.out.mono ?_; rintro e w1 ⟨rfl, k1, rfl⟩)
        | (go_at_call 131; refine (C2.out _).mono ?_; rintro e w2 ⟨rfl, rfl⟩)
        | (go_at_call 132; refine (C3.out _).mono ?_; rintro e w3 ⟨rfl, k3, rfl⟩))
      go_ret
      exact ⟨ret_b (by rw [H.out]), _, rfl⟩
    · have H := Lib.hid (shOk_nolen (ss := ss) h2)
      rw [show (decide ((1 : Int) ≤ (n : Int)) && decide ((n : Int) ≤ 60)) = false by
        rw [Bool.and_eq_false_iff, decide_eq_false_iff_not, decide_eq_false_iff_not]; omega] at C2
      clear hs ht hn h1 hlt h2
      go_enter Try.func60, Try.ntmps60
      go_wp2_with (first
        | (go_at_call 108; refine C1.out.mono ?_; rintro e w1 ⟨rfl, k1, rfl⟩)
        | (go_at_call 131; refine (C2.out _).mono ?_; rintro e w2 ⟨rfl, rfl⟩))
      go_ret
      exact ⟨ret_b (by rw [H.out]), _, rfl⟩

end Go.Proofs.Ytgbfccbnbgbknaa

namespace Go.Proofs.Ytgbfccbnbgbknaa
open Go.RowKit

set_option maxRecDepth 100000 in
set_option maxHeartbeats 1000000 in
theorem asked_any (As At Aq : Option Addr) (ns cs n c nq cq : Nat) (ss : Sg) (ls : List Hd) (tt : List (List Int)) (zq : List Int) (w : World) (B : Nat) (hs : SigAt w B As ns ss) (ht : TermsAt w B At n ls tt) (hq : IntsAt w B Aq nq zq) (hn : n ≤ 1000000) :
    Calls Try.prog 129 #[.slice As ns cs, .slice At n c, .slice Aq nq cq] w fun e w' => e = .returned (.bool (shOk ss tt && valOk ss zq)) ∧ ∃ k, w' = w.drewN k := by
  have C1 := Lib.hid (refValid5_any As At ns cs n c ss ls tt w B hs ht hn)
  have C2 := Lib.hid (fun k => refValid_any As Aq ns cs nq cq ss zq (w.drewN k) B (hs.keep fun _ _ => rfl) (hq.keep fun _ _ => rfl))
  obtain ⟨q, hqq⟩ : ∃ q, valOk ss zq = q := ⟨_, rfl⟩
  rw [hqq] at C2 ⊢
  cases h1 : shOk ss tt
  all_goals
    rw [h1] at C1
    clear hs ht hq hn h1 hqq
    go_enter Try.func129, Try.ntmps129
    go_wp2_with (first
      | (go_at_call 60; refine C1.out.mono ?_; rintro e w1 ⟨rfl, k1, rfl⟩)
      | (go_at_call 101; refine (C2.out _).mono ?_; rintro e w2 ⟨rfl, k2, rfl⟩))
    go_ret
    exact ⟨ret_b (by simp), _, rfl⟩

/-- The answers below k, the others not told yet. -/
def bcells (p : Nat → Bool) (n k : Nat) : Array Value := ((List.range n).map fun i => Value.bool (decide (i < k) && p i)).toArray
theorem bcells_zero (p : Nat → Bool) (n : Nat) : bcells p n 0 = madeCells #[.bool false] (n * 1) := by
  unfold bcells madeCells
  apply Array.ext
  · simp
  · intro i h1 h2
    simp [Nat.mod_one]
theorem bcells_at (p : Nat → Bool) {n k i : Nat} (h : i < n) : (bcells p n k)[i]? = some (.bool (decide (i < k) && p i)) := by
  unfold bcells
  rw [List.getElem?_toArray, List.getElem?_map, List.getElem?_range h]; rfl
theorem bcells_set (p : Nat → Bool) {n k : Nat} (h : k < n) : (bcells p n k).setIfInBounds k (.bool (p k)) = bcells p n (k + 1) := by
  apply Array.ext_getElem?
  intro i
  rw [Array.getElem?_setIfInBounds]
  have hs : ∀ j, (bcells p n j).size = n := fun j => by simp [bcells]
  by_cases e : k = i
  · subst e
    rw [if_pos rfl, if_pos (by rw [hs]; exact h), bcells_at p h]
    simp
  · rw [if_neg e]
    by_cases hi : i < n
    · rw [bcells_at p hi, bcells_at p hi]
      have : decide (i < k + 1) = decide (i < k) := by
        by_cases hik : i < k
        · rw [decide_eq_true hik, decide_eq_true (by omega)]
        · rw [decide_eq_false hik, decide_eq_false (by omega)]
      rw [this]
    · rw [Array.getElem?_eq_none (by rw [hs]; omega), Array.getElem?_eq_none (by rw [hs]; omega)]

set_option maxRecDepth 100000 in
set_option maxHeartbeats 1000000 in
theorem refChosen_any (b n c : Nat) (p : Nat → Bool) (w : World) (hb : Blk w b 4 (bcells p n n)) (hn : n ≤ 1000000) :
    Calls Try.prog 130 #[.slice (some ⟨b, 0, none⟩) n c] w (RetOwn w (chF p n)) := by
  obtain ⟨i0, hi, hz0, hz1, hz2⟩ := info_parts info_int
  have hlt0 := hb.lt
  have HC := Lib.hid (fun k (hk : k < n) => (hb.cell k).trans ((bcells_at p hk).trans (by rw [decide_eq_true hk, Bool.true_and])))
  clear hb
  go_enter Try.func130, Try.ntmps130
  go_wp2
  go_loopw [3, 4] (fun v i wr => ∃ (k : Nat) (Av : Option Addr) (cv : Nat), k ≤ n ∧ i = .int .i64 k ∧ v = .slice Av (chF p k).length cv ∧ wr.ownsRow w.heap.size 3 1 (.slice Av (chF p k).length cv) (chF p k).length ((chF p k).map (Value.int .i64)) ∧ Below w.heap.size w wr) (fun _ i _ => n - (intOf i).toNat)
  case atStart => exact ⟨0, none, 0, Nat.zero_le _, rfl, rfl, World.ownsRow_nil _ _ _ _, Below.refl _ w⟩
  case round =>
    obtain ⟨k, Av, cv, hk, rfl, rfl, hown, hB⟩ := hrel
    by_cases hlt : k < n
    · have q3 := (hB.cell (p := ⟨b, k, none⟩) hlt0).trans (HC.out k hlt)
      have hk0 : (0 : Int) ≤ (k : Int) := by omega
      have hk1 : (k : Int) < (n : Int) := by omega
      have hle := chF_len p k
      have HB := Lib.hid hB
      have HOWN := Lib.hid hown
      clear hB hown
      cases hq : p k
      · have H := Lib.hid (show chF p (k + 1) = chF p k by
          show (if p k = true then chF p k ++ [(k : Int)] else chF p k) = _
          rw [hq]; rfl)
        rw [hq] at q3
        clear hq
        obtain ⟨L, hL⟩ : ∃ L, (chF p k).length = L := ⟨_, rfl⟩
        rw [hL] at HOWN hle
        have HLL := Lib.hid hL
        rw [hL]
        clear hL
        go_wp2
        go_roundw
        case rel => exact ⟨k + 1, Av, cv, by omega, by go_num, by rw [H.out, HLL.out], by rw [H.out, HLL.out]; exact HOWN.out, HB.out⟩
        case measure => simp [intOf]; omega
      · have H := Lib.hid (show chF p (k + 1) = chF p k ++ [(k : Int)] by
          show (if p k = true then chF p k ++ [(k : Int)] else chF p k) = _
          rw [hq]; rfl)
        rw [hq] at q3
        clear hq
        generalize chF p k = V at *
        obtain ⟨L, hL⟩ : ∃ L, V.length = L := ⟨_, rfl⟩
        rw [hL] at HOWN hle
        have HLL := Lib.hid hL
        rw [hL]
        clear hL
        go_wp2_with (first
          | (at_builtin
             refine wpList_append_own_at _ rfl _ _ 24 rfl w.heap.size 3 i0 _ 1 8 Try.underlying24 hi hz0 hz1 hz2 rfl (by omega) _ _ _ rfl (HOWN.out.alloc _) ⟨wr.heap.size, 0, none⟩ 1 1 [.int .i64 k] rfl rfl
               (World.news_of_block (cs := #[.int .i64 k]) (t := 3) (fr := (0, 0)) (heap_alloc_new wr _)) (by simp [Value.oneCell']) (by unfold maxLen; omega) (by omega) (by have := HB.out.size; simp; omega) ?_
             intro v1 w2 hown1 hg1 _ _
             have HB2 := Lib.hid ((HB.out.alloc HB.out.size _).grown hg1 (by have := HB.out.size; simp; omega) (fun j e => (HOWN.out.lt j e).1))
             obtain ⟨g1, cap1, hv1, _⟩ := hown1.form (by omega)
             subst hv1
             have HOWN2 := Lib.hid hown1
             clear hown1 hg1))
        go_roundw
        case rel => exact ⟨k + 1, some ⟨g1, 0, none⟩, cap1, by omega, by go_num, by rw [H.out, List.length_append, HLL.out]; rfl, by rw [H.out, List.length_append, HLL.out, List.map_append]; exact HOWN2.out, HB2.out⟩
        case measure => simp [intOf]; omega
    · obtain rfl : k = n := by omega
      have HOWN := Lib.hid hown
      have HB := Lib.hid hB
      clear hown hB
      generalize chF p k = V at *
      go_wp2
      go_ret
      exact ⟨_, _, rfl, Nat.le_refl _, HOWN.out, HB.out⟩

set_option maxRecDepth 100000 in
set_option maxHeartbeats 1000000 in
/-- Whether two terms have one canonical form. -/
theorem refAlike5_any (Aa Ab : Option Addr) (na ca nb cb : Nat) (ss : Sg) (za zb : List Int) (w : World) (ha : IntsAt w w.heap.size Aa na za) (hb : IntsAt w w.heap.size Ab nb zb) (va : valOk ss za = true) (vb : valOk ss zb = true) :
    Calls Try.prog 136 #[.slice Aa na ca, .slice Ab nb cb] w fun e w' => e = .returned (.bool (alikeOk ss za zb)) ∧ Below w.heap.size w w' := by
  obtain ⟨a1, a60, anum, _⟩ := valOk_term va
  obtain ⟨b1, b60, bnum, _⟩ := valOk_term vb
  have hl := (sigOk_len (valOk_sig va)).2
  have hla := ha.len
  have hlb := hb.len
  have C1 := Lib.hid (refRenamed_k Aa na ca za w ha (by omega) (by omega) (fun z hz => by have := anum z hz; omega))
  have C2 := Lib.hid (fun V (h : Below w.heap.size w V) => refRenamed_k Ab nb cb zb V (hb.up h) (by omega) (by omega) (fun z hz => by have := bnum z hz; omega))
  have H := Lib.hid (show alikeOk ss za zb = decide (canon za = canon zb) by
    unfold alikeOk
    have : termOk ss zb = true := by unfold valOk at vb; rw [Bool.and_eq_true] at vb; exact vb.2
    rw [va, this]; rfl)
  clear ha hb va vb a1 a60 anum b1 b60 bnum hl hla hlb
  go_enter Try.func136, Try.ntmps136
  go_wp2_with (first
    | (go_at_call 102; (with_reducible refine C1.out.mono ?_); rintro e w1 ⟨A1, c1, rfl, ⟨hI1, _, _⟩, hB1⟩; have HI1 := Lib.hid hI1; have HB1 := Lib.hid hB1; clear hI1 hB1)
    | (go_at_call 102; (with_reducible refine (C2.out _ HB1.out).mono ?_); rintro e w2 ⟨A2, c2, rfl, ⟨hI2, _, _⟩, hB2⟩; have HI1' := Lib.hid (HI1.out.up hB2); have HI2 := Lib.hid hI2; have HB2 := Lib.hid (below_then HB1.out hB2); clear hI2 hB2)
    | (go_at_call 21; refine (same_any A1 A2 _ c1 _ c2 _ _ _ _ HI1'.out HI2.out).mono ?_; rintro e w3 ⟨rfl, k3, rfl⟩))
  go_ret
  exact ⟨ret_b (by rw [H.out]), below_drewN HB2.out _⟩

end Go.Proofs.Ytgbfccbnbgbknaa
