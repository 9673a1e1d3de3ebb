/- The walk of FindSearches. -/
import Derived.Test.YtcegbmibpkopaaaFCg
import Derived.Test.YtcegbmibpkopaaaZHg
import Derived.Test.YtcegbmibpkopaaaN23g
import Derived.Test.YtcegbmibpkopaaaB10g
import Derived.Test.YtcegbmibpkopaaaFEg
import Derived.Test.YtcegbmibpkopaaaG1g
/- Contracts: the reference's Valid, asked, chosen; its Meeting, Instances, Generals, Alike, Shaped. -/
namespace Go.Proofs.Ytcegbmibpkopaaa
open Go.RowKit

theorem shOk_ref {ss : Sg} {tt : List (List Int)} (h1 : sigOk ss = true) (h2 : 1 ≤ tt.length ∧ tt.length ≤ 60) : shOk ss tt = tt.all (termOk ss) := by
  unfold shOk
  rw [decide_eq_true h2, Bool.true_and]
  congr 1
  funext z
  unfold valOk
  rw [h1, Bool.true_and]
theorem shOk_nosig {ss : Sg} {tt : List (List Int)} (h1 : sigOk ss = false) : shOk ss tt = false := by
  cases tt with
  | nil => rfl
  | cons z r =>
    unfold shOk
    have : valOk ss z = false := by unfold valOk; rw [h1]; rfl
    simp [this]
theorem shOk_nolen {ss : Sg} {tt : List (List Int)} (h : ¬ (1 ≤ tt.length ∧ tt.length ≤ 60)) : shOk ss tt = false := by
  unfold shOk
  rw [decide_eq_false h]; rfl

set_option maxHeartbeats 400000 in
theorem within5_any (n lo hi : Int) (w : World) : Calls Try.prog 116 #[.int .i64 n, .int .i64 lo, .int .i64 hi] w fun e w' => e = .returned (.bool (decide (lo ≤ n) && decide (n ≤ hi))) ∧ w = w' := by
  by_cases h1 : lo ≤ n
  · by_cases h2 : n ≤ hi
    · have d1 : decide (lo ≤ n) = true := decide_eq_true h1
      have d2 : decide (n ≤ hi) = true := decide_eq_true h2
      go_enter Try.func116, Try.ntmps116
      go_wp2
      go_ret
      exact ⟨ret_b (by first | rfl | (rw [d1, d2]; rfl)), rfl⟩
    · have d1 : decide (lo ≤ n) = true := decide_eq_true h1
      have d2 : decide (n ≤ hi) = false := decide_eq_false h2
      go_enter Try.func116, Try.ntmps116
      go_wp2
      go_ret
      exact ⟨ret_b (by first | rfl | (rw [d1, d2]; rfl)), rfl⟩
  · have d1 : decide (lo ≤ n) = false := decide_eq_false h1
    go_enter Try.func116, Try.ntmps116
    go_wp2
    go_ret
    exact ⟨ret_b (by first | rfl | (rw [d1]; rfl)), rfl⟩

set_option maxRecDepth 100000 in
set_option maxHeartbeats 1000000 in
theorem refValid5_any (As At : Option Addr) (ns cs n c : Nat) (ss : Sg) (ls : List Hd) (tt : List (List Int)) (w : World) (B : Nat) (hs : SigAt w B As ns ss) (ht : TermsAt w B At n ls tt) (hn : n ≤ 1000000) :
    Calls Try.prog 59 #[.slice As ns cs, .slice At n c] w fun e w' => e = .returned (.bool (shOk ss tt)) ∧ ∃ k, w' = w.drewN k := by
  have C1 := Lib.hid (refSign_any As ns cs ss w B hs)
  have hlt := ht.len
  cases h1 : sigOk ss
  · have H := Lib.hid (shOk_nosig (tt := tt) h1)
    rw [h1] at C1
    clear hs ht hn h1 hlt
    go_enter Try.func59, Try.ntmps59
    go_wp2_with (go_at_call 92; refine C1.out.mono ?_; rintro e w1 ⟨rfl, k1, rfl⟩)
    go_ret
    exact ⟨ret_b (by rw [H.out]), _, rfl⟩
  · have C2 := Lib.hid (fun k => within5_any (n : Int) 1 60 (w.drewN k))
    rw [h1] at C1
    by_cases h2 : 1 ≤ tt.length ∧ tt.length ≤ 60
    · have C3 := Lib.hid (fun k => allValid_any As At ns cs n c ss ls tt (w.drewN k) B (hs.keep fun _ _ => rfl) (ht.keep fun _ _ => rfl) hn h1)
      have H := Lib.hid (shOk_ref h1 h2)
      obtain ⟨q, hq⟩ : ∃ q, tt.all (termOk ss) = q := ⟨_, rfl⟩
      rw [hq] at C3 H
      rw [show (decide ((1 : Int) ≤ (n : Int)) && decide ((n : Int) ≤ 60)) = true by rw [decide_eq_true (by omega), decide_eq_true (by omega)]; rfl] at C2
      clear hs ht hn h1 hlt h2 hq
      go_enter Try.func59, Try.ntmps59
      go_wp2_with (first
        | (go_at_call 92; refine C1.out.mono ?_; rintro e w1 ⟨rfl, k1, rfl⟩)
        | (go_at_call 116; refine (C2.out _).mono ?_; rintro e w2 ⟨rfl, rfl⟩)
        | (go_at_call 117; refine (C3.out _).mono ?_; rintro e w3 ⟨rfl, k3, rfl⟩))
      go_ret
      exact ⟨ret_b (by rw [H.out]), _, rfl⟩
    · have H := Lib.hid (shOk_nolen (ss := ss) h2)
      rw [show (decide ((1 : Int) ≤ (n : Int)) && decide ((n : Int) ≤ 60)) = false by
        rw [Bool.and_eq_false_iff, decide_eq_false_iff_not, decide_eq_false_iff_not]; omega] at C2
      clear hs ht hn h1 hlt h2
      go_enter Try.func59, Try.ntmps59
      go_wp2_with (first
        | (go_at_call 92; refine C1.out.mono ?_; rintro e w1 ⟨rfl, k1, rfl⟩)
        | (go_at_call 116; refine (C2.out _).mono ?_; rintro e w2 ⟨rfl, rfl⟩))
      go_ret
      exact ⟨ret_b (by rw [H.out]), _, rfl⟩

set_option maxRecDepth 100000 in
set_option maxHeartbeats 1000000 in
theorem asked_any (As At Aq : Option Addr) (ns cs n c nq cq : Nat) (ss : Sg) (ls : List Hd) (tt : List (List Int)) (zq : List Int) (w : World) (B : Nat) (hs : SigAt w B As ns ss) (ht : TermsAt w B At n ls tt) (hq : IntsAt w B Aq nq zq) (hn : n ≤ 1000000) :
    Calls Try.prog 114 #[.slice As ns cs, .slice At n c, .slice Aq nq cq] w fun e w' => e = .returned (.bool (shOk ss tt && valOk ss zq)) ∧ ∃ k, w' = w.drewN k := by
  have C1 := Lib.hid (refValid5_any As At ns cs n c ss ls tt w B hs ht hn)
  have C2 := Lib.hid (fun k => refValid_any As Aq ns cs nq cq ss zq (w.drewN k) B (hs.keep fun _ _ => rfl) (hq.keep fun _ _ => rfl))
  obtain ⟨q, hqq⟩ : ∃ q, valOk ss zq = q := ⟨_, rfl⟩
  rw [hqq] at C2 ⊢
  cases h1 : shOk ss tt
  all_goals
    rw [h1] at C1
    clear hs ht hq hn h1 hqq
    go_enter Try.func114, Try.ntmps114
    go_wp2_with (first
      | (go_at_call 59; refine C1.out.mono ?_; rintro e w1 ⟨rfl, k1, rfl⟩)
      | (go_at_call 85; refine (C2.out _).mono ?_; rintro e w2 ⟨rfl, k2, rfl⟩))
    go_ret
    exact ⟨ret_b (by simp), _, rfl⟩

/-- The answers below k, the others not told yet. -/
def bcells (p : Nat → Bool) (n k : Nat) : Array Value := ((List.range n).map fun i => Value.bool (decide (i < k) && p i)).toArray
theorem bcells_zero (p : Nat → Bool) (n : Nat) : bcells p n 0 = madeCells #[.bool false] (n * 1) := by
  unfold bcells madeCells
  apply Array.ext
  · simp
  · intro i h1 h2
    simp [Nat.mod_one]
theorem bcells_at (p : Nat → Bool) {n k i : Nat} (h : i < n) : (bcells p n k)[i]? = some (.bool (decide (i < k) && p i)) := by
  unfold bcells
  rw [List.getElem?_toArray, List.getElem?_map, List.getElem?_range h]; rfl
theorem bcells_set (p : Nat → Bool) {n k : Nat} (h : k < n) : (bcells p n k).setIfInBounds k (.bool (p k)) = bcells p n (k + 1) := by
  apply Array.ext_getElem?
  intro i
  rw [Array.getElem?_setIfInBounds]
  have hs : ∀ j, (bcells p n j).size = n := fun j => by simp [bcells]
  by_cases e : k = i
  · subst e
    rw [if_pos rfl, if_pos (by rw [hs]; exact h), bcells_at p h]
    simp
  · rw [if_neg e]
    by_cases hi : i < n
    · rw [bcells_at p hi, bcells_at p hi]
      have : decide (i < k + 1) = decide (i < k) := by
        by_cases hik : i < k
        · rw [decide_eq_true hik, decide_eq_true (by omega)]
        · rw [decide_eq_false hik, decide_eq_false (by omega)]
      rw [this]
    · rw [Array.getElem?_eq_none (by rw [hs]; omega), Array.getElem?_eq_none (by rw [hs]; omega)]

set_option maxRecDepth 100000 in
set_option maxHeartbeats 1000000 in
theorem refChosen_any (b n c : Nat) (p : Nat → Bool) (w : World) (hb : Blk w b 4 (bcells p n n)) (hn : n ≤ 1000000) :
    Calls Try.prog 115 #[.slice (some ⟨b, 0, none⟩) n c] w (RetOwn w (chF p n)) := by
  obtain ⟨i0, hi, hz0, hz1, hz2⟩ := info_parts info_int
  have hlt0 := hb.lt
  have HC := Lib.hid (fun k (hk : k < n) => (hb.cell k).trans ((bcells_at p hk).trans (by rw [decide_eq_true hk, Bool.true_and])))
  clear hb
  go_enter Try.func115, Try.ntmps115
  go_wp2
  go_loopw [3, 4] (fun v i wr => ∃ (k : Nat) (Av : Option Addr) (cv : Nat), k ≤ n ∧ i = .int .i64 k ∧ v = .slice Av (chF p k).length cv ∧ wr.ownsRow w.heap.size 3 1 (.slice Av (chF p k).length cv) (chF p k).length ((chF p k).map (Value.int .i64)) ∧ Below w.heap.size w wr) (fun _ i _ => n - (intOf i).toNat)
  case atStart => exact ⟨0, none, 0, Nat.zero_le _, rfl, rfl, World.ownsRow_nil _ _ _ _, Below.refl _ w⟩
  case round =>
    obtain ⟨k, Av, cv, hk, rfl, rfl, hown, hB⟩ := hrel
    by_cases hlt : k < n
    · have q3 := (hB.cell (p := ⟨b, k, none⟩) hlt0).trans (HC.out k hlt)
      have hk0 : (0 : Int) ≤ (k : Int) := by omega
      have hk1 : (k : Int) < (n : Int) := by omega
      have hle := chF_len p k
      have HB := Lib.hid hB
      have HOWN := Lib.hid hown
      clear hB hown
      cases hq : p k
      · have H := Lib.hid (show chF p (k + 1) = chF p k by
          show (if p k = true then chF p k ++ [(k : Int)] else chF p k) = _
          rw [hq]; rfl)
        rw [hq] at q3
        clear hq
        obtain ⟨L, hL⟩ : ∃ L, (chF p k).length = L := ⟨_, rfl⟩
        rw [hL] at HOWN hle
        have HLL := Lib.hid hL
        rw [hL]
        clear hL
        go_wp2
        go_roundw
        case rel => exact ⟨k + 1, Av, cv, by omega, by go_num, by rw [H.out, HLL.out], by rw [H.out, HLL.out]; exact HOWN.out, HB.out⟩
        case measure => simp [intOf]; omega
      · have H := Lib.hid (show chF p (k + 1) = chF p k ++ [(k : Int)] by
          show (if p k = true then chF p k ++ [(k : Int)] else chF p k) = _
          rw [hq]; rfl)
        rw [hq] at q3
        clear hq
        generalize chF p k = V at *
        obtain ⟨L, hL⟩ : ∃ L, V.length = L := ⟨_, rfl⟩
        rw [hL] at HOWN hle
        have HLL := Lib.hid hL
        rw [hL]
        clear hL
        go_wp2_with (first
          | (at_builtin
             refine wpList_append_own_at _ rfl _ _ 24 rfl w.heap.size 3 i0 _ 1 8 Try.underlying24 hi hz0 hz1 hz2 rfl (by omega) _ _ _ rfl (HOWN.out.alloc _) ⟨wr.heap.size, 0, none⟩ 1 1 [.int .i64 k] rfl rfl
               (World.news_of_block (cs := #[.int .i64 k]) (t := 3) (fr := (0, 0)) (heap_alloc_new wr _)) (by simp [Value.oneCell']) (by unfold maxLen; omega) (by omega) (by have := HB.out.size; simp; omega) ?_
             intro v1 w2 hown1 hg1 _ _
             have HB2 := Lib.hid ((HB.out.alloc HB.out.size _).grown hg1 (by have := HB.out.size; simp; omega) (fun j e => (HOWN.out.lt j e).1))
             obtain ⟨g1, cap1, hv1, _⟩ := hown1.form (by omega)
             subst hv1
             have HOWN2 := Lib.hid hown1
             clear hown1 hg1))
        go_roundw
        case rel => exact ⟨k + 1, some ⟨g1, 0, none⟩, cap1, by omega, by go_num, by rw [H.out, List.length_append, HLL.out]; rfl, by rw [H.out, List.length_append, HLL.out, List.map_append]; exact HOWN2.out, HB2.out⟩
        case measure => simp [intOf]; omega
    · obtain rfl : k = n := by omega
      have HOWN := Lib.hid hown
      have HB := Lib.hid hB
      clear hown hB
      generalize chF p k = V at *
      go_wp2
      go_ret
      exact ⟨_, _, rfl, Nat.le_refl _, HOWN.out, HB.out⟩

set_option maxRecDepth 100000 in
set_option maxHeartbeats 1000000 in
/-- Whether two terms have one canonical form. -/
theorem refAlike5_any (Aa Ab : Option Addr) (na ca nb cb : Nat) (ss : Sg) (za zb : List Int) (w : World) (ha : IntsAt w w.heap.size Aa na za) (hb : IntsAt w w.heap.size Ab nb zb) (va : valOk ss za = true) (vb : valOk ss zb = true) :
    Calls Try.prog 121 #[.slice Aa na ca, .slice Ab nb cb] w fun e w' => e = .returned (.bool (alikeOk ss za zb)) ∧ Below w.heap.size w w' := by
  obtain ⟨a1, a60, anum, _⟩ := valOk_term va
  obtain ⟨b1, b60, bnum, _⟩ := valOk_term vb
  have hl := (sigOk_len (valOk_sig va)).2
  have hla := ha.len
  have hlb := hb.len
  have C1 := Lib.hid (refRenamed_k Aa na ca za w ha (by omega) (by omega) (fun z hz => by have := anum z hz; omega))
  have C2 := Lib.hid (fun V (h : Below w.heap.size w V) => refRenamed_k Ab nb cb zb V (hb.up h) (by omega) (by omega) (fun z hz => by have := bnum z hz; omega))
  have H := Lib.hid (show alikeOk ss za zb = decide (canon za = canon zb) by
    unfold alikeOk
    have : termOk ss zb = true := by unfold valOk at vb; rw [Bool.and_eq_true] at vb; exact vb.2
    rw [va, this]; rfl)
  clear ha hb va vb a1 a60 anum b1 b60 bnum hl hla hlb
  go_enter Try.func121, Try.ntmps121
  go_wp2_with (first
    | (go_at_call 86; (with_reducible refine C1.out.mono ?_); rintro e w1 ⟨A1, c1, rfl, ⟨hI1, _, _⟩, hB1⟩; have HI1 := Lib.hid hI1; have HB1 := Lib.hid hB1; clear hI1 hB1)
    | (go_at_call 86; (with_reducible refine (C2.out _ HB1.out).mono ?_); rintro e w2 ⟨A2, c2, rfl, ⟨hI2, _, _⟩, hB2⟩; have HI1' := Lib.hid (HI1.out.up hB2); have HI2 := Lib.hid hI2; have HB2 := Lib.hid (below_then HB1.out hB2); clear hI2 hB2)
    | (go_at_call 20; refine (same_any A1 A2 _ c1 _ c2 _ _ _ _ HI1'.out HI2.out).mono ?_; rintro e w3 ⟨rfl, k3, rfl⟩))
  go_ret
  exact ⟨ret_b (by rw [H.out]), below_drewN HB2.out _⟩

set_option maxRecDepth 100000 in
set_option maxHeartbeats 2000000 in
theorem rMeeting_any (As At Aq : Option Addr) (ns cs n c nq cq : Nat) (ss : Sg) (ls : List Hd) (tt : List (List Int)) (zq : List Int) (w : World)
    (hs : SigAt w w.heap.size As ns ss) (ht : TermsAt w w.heap.size At n ls tt) (hq : IntsAt w w.heap.size Aq nq zq) (hn : n ≤ 1000000) (hcap : ∀ x ∈ ls, capOk x) (hcq : nq ≤ cq ∧ cq ≤ 9223372036854775807) :
    Calls Try.prog 56 #[.slice As ns cs, .slice At n c, .slice Aq nq cq] w (RetK w (srZ ss tt zq fun k => hasZ ss 12 (tt.getD k []) zq).1 (srZ ss tt zq fun k => hasZ ss 12 (tt.getD k []) zq).2) := by
  have C1 := Lib.hid (asked_any As At Aq ns cs n c nq cq ss ls tt zq w _ hs ht hq hn)
  cases hv : (shOk ss tt && valOk ss zq)
  · have H : Hid ((srZ ss tt zq fun k => hasZ ss 12 (tt.getD k []) zq) = ([], 1)) := Lib.hid (by unfold srZ; rw [hv]; rfl)
    rw [H.out]
    rw [hv] at C1
    clear hs ht hq hn hv
    go_enter Try.func56, Try.ntmps56
    go_wp2_with (go_at_call 114; refine C1.out.mono ?_; rintro e w1 ⟨rfl, k1, rfl⟩)
    go_ret2
    exact ⟨none, 0, 0, rfl, IntsAt.nil _ _ 0, by omega, below_drewN (Below.refl _ _) _⟩
  · obtain ⟨i0, hi, hz0, hz1, hz2⟩ := info_parts info_bool
    rw [hv] at C1
    rw [Bool.and_eq_true] at hv
    obtain ⟨hv1, hv2⟩ := hv
    have hsl := shOk_len hv1
    have htl := ht.len
    obtain ⟨p, hp⟩ : ∃ p : Nat → Bool, (fun k => hasZ ss 12 (tt.getD k []) zq) = p := ⟨_, rfl⟩
    have H : Hid ((srZ ss tt zq fun k => hasZ ss 12 (tt.getD k []) zq) = (chF p n, 0)) := Lib.hid (by unfold srZ; rw [hv1, hv2, htl, hp]; rfl)
    rw [H.out]
    have hmk : ∀ W : World, (Instr.makeSlice 104 (.int .i64 (n : Int)) (.int .i64 (n : Int))).run Try.prog W = .ok (.slice (some ⟨W.heap.size, 0, none⟩) n n) (W.alloc (.cells (bcells p n 0) 4)) := by
      intro W
      rw [bcells_zero]
      have := run_make_rowN (P := Try.prog) 104 4 i0 _ Try.underlying104 hi hz0 .i64 .i64 n n (Nat.le_refl _) (by rw [hz2]; omega) (by omega) W
      rw [hz1] at this
      exact this
    have CK := Lib.hid (fun (V : World) (k : Nat) (A' : Option Addr) (n' c' : Nat) (hV : Below w.heap.size w V) (hk : ls[k]? = some (A', n', c')) =>
      show Calls Try.prog 50 #[.slice As ns cs, .slice A' n' c', .slice Aq nq cq] V fun e w' => e = .returned (.bool (p k)) ∧ Below V.heap.size V w' from by
        obtain ⟨t, ht1, ht2, hI⟩ := ht.at hk
        have hpk : p k = hasZ ss 12 t zq := by rw [← hp]; simp only [ht2]
        rw [hpk]
        have hval := shOk_each hv1 ht1
        exact refMeets_all As A' Aq ns cs n' c' nq cq ss t zq V (hs.up hV) ⟨(hI.below hV).more hV.size, (cap_at hcap hk).1, (cap_at hcap hk).2⟩ ⟨hq.up hV, hcq.1, hcq.2⟩)
    have HT := Lib.hid ht
    have HN := Lib.hid (show (chF p n).length ≤ 1000000 by have := chF_len p n; omega)
    clear hs ht hq hv1 hv2 hp htl hcap hcq
    go_enter Try.func56, Try.ntmps56
    go_wp2_with (go_at_call 114; refine C1.out.mono ?_; rintro e w1 ⟨rfl, k1, hw1⟩; have HB1 := Lib.hid (show Below w.heap.size w w1 from by rw [hw1]; exact below_drewN (Below.refl _ _) _); clear hw1)
    clear hmk hi hz0 hz1 hz2
    go_loopw [9] (fun i wr => ∃ k : Nat, k ≤ n ∧ i = .int .i64 k ∧ Blk wr w1.heap.size 4 (bcells p n k) ∧ Below w1.heap.size w1 wr) (fun i _ => n - (intOf i).toNat)
    case atStart => exact ⟨0, Nat.zero_le _, rfl, Blk.new _ _ _, (Below.refl _ _).alloc (Nat.le_refl _) _⟩
    case round =>
      obtain ⟨k, hk, rfl, hF, hBr⟩ := hrel
      have hBw := HB1.out.trans (hBr.mono HB1.out.size)
      by_cases hlt : k < n
      · obtain ⟨b, off, A', n', c', rfl, hb, q1, q2⟩ := HT.out.hds.cellAt hlt
        have q3 := (hBw.cell (p := ⟨b, off + k, none⟩) hb).trans q1
        have hk0 : (0 : Int) ≤ (k : Int) := by omega
        have hk1 : (k : Int) < (n : Int) := by omega
        have CC := Lib.hid (CK.out wr k A' n' c' hBw q2)
        obtain ⟨q, hq⟩ : ∃ q, p k = q := ⟨_, rfl⟩
        have HQ := Lib.hid hq
        rw [hq] at CC
        have HF := Lib.hid hF
        have HBR := Lib.hid hBr
        have HS := Lib.hid (show w1.heap.size ≤ wr.heap.size from hBr.size)
        clear hq q1 q2 hF hBr hBw
        go_wp2_with (go_at_call 50; refine CC.out.mono ?_; rintro e w5 ⟨rfl, hB5⟩; have HF5 := Lib.hid (HF.out.below hB5 HF.out.lt); have HB5 := Lib.hid (HBR.out.trans (hB5.mono HS.out)); have c5 := (HF5.out.cell k).trans (bcells_at p hlt); have f5 := HF5.out.frozen k; clear hB5)
        go_roundw
        case rel => exact ⟨k + 1, by omega, by go_num, by have := (HF5.out.set_ k (.bool q)); rw [← HQ.out, bcells_set p hlt, HQ.out] at this; exact this, (HB5.out.setCell (p := ⟨w1.heap.size, k, none⟩) (Nat.le_refl _) (.bool q))⟩
        case measure => simp [intOf]; omega
      · obtain rfl : k = n := by omega
        have CF := Lib.hid (refChosen_any w1.heap.size k k p wr hF hn)
        have HBW := Lib.hid hBw
        clear hF hBr hBw
        go_wp2_with (go_at_call 115; refine CF.out.mono ?_; rintro e w6 ⟨v, base, rfl, hb6, hrow, hB6⟩; obtain ⟨A6, c6, rfl, hI6, hk6⟩ := row_intsk hrow HN.out; have HB6 := Lib.hid (below_then HBW.out hB6); have HI6 := Lib.hid hI6; have HK6 := Lib.hid hk6; clear hb6 hrow hB6 hI6 hk6)
        go_ret2
        exact ⟨A6, _, c6, rfl, HI6.out, HK6.out, HB6.out⟩

set_option maxRecDepth 100000 in
set_option maxHeartbeats 2000000 in
theorem rInstances_any (As At Aq : Option Addr) (ns cs n c nq cq : Nat) (ss : Sg) (ls : List Hd) (tt : List (List Int)) (zq : List Int) (w : World)
    (hs : SigAt w w.heap.size As ns ss) (ht : TermsAt w w.heap.size At n ls tt) (hq : IntsAt w w.heap.size Aq nq zq) (hn : n ≤ 1000000) (hcap : ∀ x ∈ ls, capOk x) (_hcq : nq ≤ cq ∧ cq ≤ 9223372036854775807) :
    Calls Try.prog 61 #[.slice As ns cs, .slice At n c, .slice Aq nq cq] w (RetK w (srZ ss tt zq fun k => insB ss zq (tt.getD k [])).1 (srZ ss tt zq fun k => insB ss zq (tt.getD k [])).2) := by
  have C1 := Lib.hid (asked_any As At Aq ns cs n c nq cq ss ls tt zq w _ hs ht hq hn)
  cases hv : (shOk ss tt && valOk ss zq)
  · have H : Hid ((srZ ss tt zq fun k => insB ss zq (tt.getD k [])) = ([], 1)) := Lib.hid (by unfold srZ; rw [hv]; rfl)
    rw [H.out]
    rw [hv] at C1
    clear hs ht hq hn hv
    go_enter Try.func61, Try.ntmps61
    go_wp2_with (go_at_call 114; refine C1.out.mono ?_; rintro e w1 ⟨rfl, k1, rfl⟩)
    go_ret2
    exact ⟨none, 0, 0, rfl, IntsAt.nil _ _ 0, by omega, below_drewN (Below.refl _ _) _⟩
  · obtain ⟨i0, hi, hz0, hz1, hz2⟩ := info_parts info_bool
    rw [hv] at C1
    rw [Bool.and_eq_true] at hv
    obtain ⟨hv1, hv2⟩ := hv
    have hsl := shOk_len hv1
    have htl := ht.len
    obtain ⟨p, hp⟩ : ∃ p : Nat → Bool, (fun k => insB ss zq (tt.getD k [])) = p := ⟨_, rfl⟩
    have H : Hid ((srZ ss tt zq fun k => insB ss zq (tt.getD k [])) = (chF p n, 0)) := Lib.hid (by unfold srZ; rw [hv1, hv2, htl, hp]; rfl)
    rw [H.out]
    have hmk : ∀ W : World, (Instr.makeSlice 104 (.int .i64 (n : Int)) (.int .i64 (n : Int))).run Try.prog W = .ok (.slice (some ⟨W.heap.size, 0, none⟩) n n) (W.alloc (.cells (bcells p n 0) 4)) := by
      intro W
      rw [bcells_zero]
      have := run_make_rowN (P := Try.prog) 104 4 i0 _ Try.underlying104 hi hz0 .i64 .i64 n n (Nat.le_refl _) (by rw [hz2]; omega) (by omega) W
      rw [hz1] at this
      exact this
    have CK := Lib.hid (fun (V : World) (k : Nat) (A' : Option Addr) (n' c' : Nat) (hV : Below w.heap.size w V) (hk : ls[k]? = some (A', n', c')) =>
      show Calls Try.prog 42 #[.slice As ns cs, .slice Aq nq cq, .slice A' n' c'] V fun e w' => e = .returned (.bool (p k)) ∧ Below V.heap.size V w' from by
        obtain ⟨t, ht1, ht2, hI⟩ := ht.at hk
        have hpk : p k = insB ss zq t := by rw [← hp]; simp only [ht2]
        rw [hpk]
        have hval := shOk_each hv1 ht1
        exact refInstance_any As Aq A' ns cs nq cq n' c' ss zq t V (hs.up hV) (hq.up hV) ((hI.below hV).more hV.size) (cap_at hcap hk).1 (cap_at hcap hk).2)
    have HT := Lib.hid ht
    have HN := Lib.hid (show (chF p n).length ≤ 1000000 by have := chF_len p n; omega)
    clear hs ht hq hv1 hv2 hp htl hcap _hcq
    go_enter Try.func61, Try.ntmps61
    go_wp2_with (go_at_call 114; refine C1.out.mono ?_; rintro e w1 ⟨rfl, k1, hw1⟩; have HB1 := Lib.hid (show Below w.heap.size w w1 from by rw [hw1]; exact below_drewN (Below.refl _ _) _); clear hw1)
    clear hmk hi hz0 hz1 hz2
    go_loopw [9] (fun i wr => ∃ k : Nat, k ≤ n ∧ i = .int .i64 k ∧ Blk wr w1.heap.size 4 (bcells p n k) ∧ Below w1.heap.size w1 wr) (fun i _ => n - (intOf i).toNat)
    case atStart => exact ⟨0, Nat.zero_le _, rfl, Blk.new _ _ _, (Below.refl _ _).alloc (Nat.le_refl _) _⟩
    case round =>
      obtain ⟨k, hk, rfl, hF, hBr⟩ := hrel
      have hBw := HB1.out.trans (hBr.mono HB1.out.size)
      by_cases hlt : k < n
      · obtain ⟨b, off, A', n', c', rfl, hb, q1, q2⟩ := HT.out.hds.cellAt hlt
        have q3 := (hBw.cell (p := ⟨b, off + k, none⟩) hb).trans q1
        have hk0 : (0 : Int) ≤ (k : Int) := by omega
        have hk1 : (k : Int) < (n : Int) := by omega
        have CC := Lib.hid (CK.out wr k A' n' c' hBw q2)
        obtain ⟨q, hq⟩ : ∃ q, p k = q := ⟨_, rfl⟩
        have HQ := Lib.hid hq
        rw [hq] at CC
        have HF := Lib.hid hF
        have HBR := Lib.hid hBr
        have HS := Lib.hid (show w1.heap.size ≤ wr.heap.size from hBr.size)
        clear hq q1 q2 hF hBr hBw
        go_wp2_with (go_at_call 42; refine CC.out.mono ?_; rintro e w5 ⟨rfl, hB5⟩; have HF5 := Lib.hid (HF.out.below hB5 HF.out.lt); have HB5 := Lib.hid (HBR.out.trans (hB5.mono HS.out)); have c5 := (HF5.out.cell k).trans (bcells_at p hlt); have f5 := HF5.out.frozen k; clear hB5)
        go_roundw
        case rel => exact ⟨k + 1, by omega, by go_num, by have := (HF5.out.set_ k (.bool q)); rw [← HQ.out, bcells_set p hlt, HQ.out] at this; exact this, (HB5.out.setCell (p := ⟨w1.heap.size, k, none⟩) (Nat.le_refl _) (.bool q))⟩
        case measure => simp [intOf]; omega
      · obtain rfl : k = n := by omega
        have CF := Lib.hid (refChosen_any w1.heap.size k k p wr hF hn)
        have HBW := Lib.hid hBw
        clear hF hBr hBw
        go_wp2_with (go_at_call 115; refine CF.out.mono ?_; rintro e w6 ⟨v, base, rfl, hb6, hrow, hB6⟩; obtain ⟨A6, c6, rfl, hI6, hk6⟩ := row_intsk hrow HN.out; have HB6 := Lib.hid (below_then HBW.out hB6); have HI6 := Lib.hid hI6; have HK6 := Lib.hid hk6; clear hb6 hrow hB6 hI6 hk6)
        go_ret2
        exact ⟨A6, _, c6, rfl, HI6.out, HK6.out, HB6.out⟩

set_option maxRecDepth 100000 in
set_option maxHeartbeats 2000000 in
theorem rGenerals_any (As At Aq : Option Addr) (ns cs n c nq cq : Nat) (ss : Sg) (ls : List Hd) (tt : List (List Int)) (zq : List Int) (w : World)
    (hs : SigAt w w.heap.size As ns ss) (ht : TermsAt w w.heap.size At n ls tt) (hq : IntsAt w w.heap.size Aq nq zq) (hn : n ≤ 1000000) (_hcap : ∀ x ∈ ls, capOk x) (hcq : nq ≤ cq ∧ cq ≤ 9223372036854775807) :
    Calls Try.prog 63 #[.slice As ns cs, .slice At n c, .slice Aq nq cq] w (RetK w (srZ ss tt zq fun k => insB ss (tt.getD k []) zq).1 (srZ ss tt zq fun k => insB ss (tt.getD k []) zq).2) := by
  have C1 := Lib.hid (asked_any As At Aq ns cs n c nq cq ss ls tt zq w _ hs ht hq hn)
  cases hv : (shOk ss tt && valOk ss zq)
  · have H : Hid ((srZ ss tt zq fun k => insB ss (tt.getD k []) zq) = ([], 1)) := Lib.hid (by unfold srZ; rw [hv]; rfl)
    rw [H.out]
    rw [hv] at C1
    clear hs ht hq hn hv
    go_enter Try.func63, Try.ntmps63
    go_wp2_with (go_at_call 114; refine C1.out.mono ?_; rintro e w1 ⟨rfl, k1, rfl⟩)
    go_ret2
    exact ⟨none, 0, 0, rfl, IntsAt.nil _ _ 0, by omega, below_drewN (Below.refl _ _) _⟩
  · obtain ⟨i0, hi, hz0, hz1, hz2⟩ := info_parts info_bool
    rw [hv] at C1
    rw [Bool.and_eq_true] at hv
    obtain ⟨hv1, hv2⟩ := hv
    have hsl := shOk_len hv1
    have htl := ht.len
    obtain ⟨p, hp⟩ : ∃ p : Nat → Bool, (fun k => insB ss (tt.getD k []) zq) = p := ⟨_, rfl⟩
    have H : Hid ((srZ ss tt zq fun k => insB ss (tt.getD k []) zq) = (chF p n, 0)) := Lib.hid (by unfold srZ; rw [hv1, hv2, htl, hp]; rfl)
    rw [H.out]
    have hmk : ∀ W : World, (Instr.makeSlice 104 (.int .i64 (n : Int)) (.int .i64 (n : Int))).run Try.prog W = .ok (.slice (some ⟨W.heap.size, 0, none⟩) n n) (W.alloc (.cells (bcells p n 0) 4)) := by
      intro W
      rw [bcells_zero]
      have := run_make_rowN (P := Try.prog) 104 4 i0 _ Try.underlying104 hi hz0 .i64 .i64 n n (Nat.le_refl _) (by rw [hz2]; omega) (by omega) W
      rw [hz1] at this
      exact this
    have CK := Lib.hid (fun (V : World) (k : Nat) (A' : Option Addr) (n' c' : Nat) (hV : Below w.heap.size w V) (hk : ls[k]? = some (A', n', c')) =>
      show Calls Try.prog 42 #[.slice As ns cs, .slice A' n' c', .slice Aq nq cq] V fun e w' => e = .returned (.bool (p k)) ∧ Below V.heap.size V w' from by
        obtain ⟨t, ht1, ht2, hI⟩ := ht.at hk
        have hpk : p k = insB ss t zq := by rw [← hp]; simp only [ht2]
        rw [hpk]
        have hval := shOk_each hv1 ht1
        exact refInstance_any As A' Aq ns cs n' c' nq cq ss t zq V (hs.up hV) ((hI.below hV).more hV.size) (hq.up hV) hcq.1 hcq.2)
    have HT := Lib.hid ht
    have HN := Lib.hid (show (chF p n).length ≤ 1000000 by have := chF_len p n; omega)
    clear hs ht hq hv1 hv2 hp htl _hcap hcq
    go_enter Try.func63, Try.ntmps63
    go_wp2_with (go_at_call 114; refine C1.out.mono ?_; rintro e w1 ⟨rfl, k1, hw1⟩; have HB1 := Lib.hid (show Below w.heap.size w w1 from by rw [hw1]; exact below_drewN (Below.refl _ _) _); clear hw1)
    clear hmk hi hz0 hz1 hz2
    go_loopw [9] (fun i wr => ∃ k : Nat, k ≤ n ∧ i = .int .i64 k ∧ Blk wr w1.heap.size 4 (bcells p n k) ∧ Below w1.heap.size w1 wr) (fun i _ => n - (intOf i).toNat)
    case atStart => exact ⟨0, Nat.zero_le _, rfl, Blk.new _ _ _, (Below.refl _ _).alloc (Nat.le_refl _) _⟩
    case round =>
      obtain ⟨k, hk, rfl, hF, hBr⟩ := hrel
      have hBw := HB1.out.trans (hBr.mono HB1.out.size)
      by_cases hlt : k < n
      · obtain ⟨b, off, A', n', c', rfl, hb, q1, q2⟩ := HT.out.hds.cellAt hlt
        have q3 := (hBw.cell (p := ⟨b, off + k, none⟩) hb).trans q1
        have hk0 : (0 : Int) ≤ (k : Int) := by omega
        have hk1 : (k : Int) < (n : Int) := by omega
        have CC := Lib.hid (CK.out wr k A' n' c' hBw q2)
        obtain ⟨q, hq⟩ : ∃ q, p k = q := ⟨_, rfl⟩
        have HQ := Lib.hid hq
        rw [hq] at CC
        have HF := Lib.hid hF
        have HBR := Lib.hid hBr
        have HS := Lib.hid (show w1.heap.size ≤ wr.heap.size from hBr.size)
        clear hq q1 q2 hF hBr hBw
        go_wp2_with (go_at_call 42; refine CC.out.mono ?_; rintro e w5 ⟨rfl, hB5⟩; have HF5 := Lib.hid (HF.out.below hB5 HF.out.lt); have HB5 := Lib.hid (HBR.out.trans (hB5.mono HS.out)); have c5 := (HF5.out.cell k).trans (bcells_at p hlt); have f5 := HF5.out.frozen k; clear hB5)
        go_roundw
        case rel => exact ⟨k + 1, by omega, by go_num, by have := (HF5.out.set_ k (.bool q)); rw [← HQ.out, bcells_set p hlt, HQ.out] at this; exact this, (HB5.out.setCell (p := ⟨w1.heap.size, k, none⟩) (Nat.le_refl _) (.bool q))⟩
        case measure => simp [intOf]; omega
      · obtain rfl : k = n := by omega
        have CF := Lib.hid (refChosen_any w1.heap.size k k p wr hF hn)
        have HBW := Lib.hid hBw
        clear hF hBr hBw
        go_wp2_with (go_at_call 115; refine CF.out.mono ?_; rintro e w6 ⟨v, base, rfl, hb6, hrow, hB6⟩; obtain ⟨A6, c6, rfl, hI6, hk6⟩ := row_intsk hrow HN.out; have HB6 := Lib.hid (below_then HBW.out hB6); have HI6 := Lib.hid hI6; have HK6 := Lib.hid hk6; clear hb6 hrow hB6 hI6 hk6)
        go_ret2
        exact ⟨A6, _, c6, rfl, HI6.out, HK6.out, HB6.out⟩

set_option maxRecDepth 100000 in
set_option maxHeartbeats 2000000 in
theorem rAlike_any (As At Aq : Option Addr) (ns cs n c nq cq : Nat) (ss : Sg) (ls : List Hd) (tt : List (List Int)) (zq : List Int) (w : World)
    (hs : SigAt w w.heap.size As ns ss) (ht : TermsAt w w.heap.size At n ls tt) (hq : IntsAt w w.heap.size Aq nq zq) (hn : n ≤ 1000000) :
    Calls Try.prog 65 #[.slice As ns cs, .slice At n c, .slice Aq nq cq] w (RetK w (srZ ss tt zq fun k => alikeOk ss (tt.getD k []) zq).1 (srZ ss tt zq fun k => alikeOk ss (tt.getD k []) zq).2) := by
  have C1 := Lib.hid (asked_any As At Aq ns cs n c nq cq ss ls tt zq w _ hs ht hq hn)
  cases hv : (shOk ss tt && valOk ss zq)
  · have H : Hid ((srZ ss tt zq fun k => alikeOk ss (tt.getD k []) zq) = ([], 1)) := Lib.hid (by unfold srZ; rw [hv]; rfl)
    rw [H.out]
    rw [hv] at C1
    clear hs ht hq hn hv
    go_enter Try.func65, Try.ntmps65
    go_wp2_with (go_at_call 114; refine C1.out.mono ?_; rintro e w1 ⟨rfl, k1, rfl⟩)
    go_ret2
    exact ⟨none, 0, 0, rfl, IntsAt.nil _ _ 0, by omega, below_drewN (Below.refl _ _) _⟩
  · obtain ⟨i0, hi, hz0, hz1, hz2⟩ := info_parts info_bool
    rw [hv] at C1
    rw [Bool.and_eq_true] at hv
    obtain ⟨hv1, hv2⟩ := hv
    have hsl := shOk_len hv1
    have htl := ht.len
    obtain ⟨p, hp⟩ : ∃ p : Nat → Bool, (fun k => alikeOk ss (tt.getD k []) zq) = p := ⟨_, rfl⟩
    have H : Hid ((srZ ss tt zq fun k => alikeOk ss (tt.getD k []) zq) = (chF p n, 0)) := Lib.hid (by unfold srZ; rw [hv1, hv2, htl, hp]; rfl)
    rw [H.out]
    have hmk : ∀ W : World, (Instr.makeSlice 104 (.int .i64 (n : Int)) (.int .i64 (n : Int))).run Try.prog W = .ok (.slice (some ⟨W.heap.size, 0, none⟩) n n) (W.alloc (.cells (bcells p n 0) 4)) := by
      intro W
      rw [bcells_zero]
      have := run_make_rowN (P := Try.prog) 104 4 i0 _ Try.underlying104 hi hz0 .i64 .i64 n n (Nat.le_refl _) (by rw [hz2]; omega) (by omega) W
      rw [hz1] at this
      exact this
    have CK := Lib.hid (fun (V : World) (k : Nat) (A' : Option Addr) (n' c' : Nat) (hV : Below w.heap.size w V) (hk : ls[k]? = some (A', n', c')) =>
      show Calls Try.prog 121 #[.slice A' n' c', .slice Aq nq cq] V fun e w' => e = .returned (.bool (p k)) ∧ Below V.heap.size V w' from by
        obtain ⟨t, ht1, ht2, hI⟩ := ht.at hk
        have hpk : p k = alikeOk ss t zq := by rw [← hp]; simp only [ht2]
        rw [hpk]
        have hval := shOk_each hv1 ht1
        exact refAlike5_any A' Aq n' c' nq cq ss t zq V ((hI.below hV).more hV.size) (hq.up hV) hval hv2)
    have HT := Lib.hid ht
    have HN := Lib.hid (show (chF p n).length ≤ 1000000 by have := chF_len p n; omega)
    clear hs ht hq hv1 hv2 hp htl
    go_enter Try.func65, Try.ntmps65
    go_wp2_with (go_at_call 114; refine C1.out.mono ?_; rintro e w1 ⟨rfl, k1, hw1⟩; have HB1 := Lib.hid (show Below w.heap.size w w1 from by rw [hw1]; exact below_drewN (Below.refl _ _) _); clear hw1)
    clear hmk hi hz0 hz1 hz2
    go_loopw [9] (fun i wr => ∃ k : Nat, k ≤ n ∧ i = .int .i64 k ∧ Blk wr w1.heap.size 4 (bcells p n k) ∧ Below w1.heap.size w1 wr) (fun i _ => n - (intOf i).toNat)
    case atStart => exact ⟨0, Nat.zero_le _, rfl, Blk.new _ _ _, (Below.refl _ _).alloc (Nat.le_refl _) _⟩
    case round =>
      obtain ⟨k, hk, rfl, hF, hBr⟩ := hrel
      have hBw := HB1.out.trans (hBr.mono HB1.out.size)
      by_cases hlt : k < n
      · obtain ⟨b, off, A', n', c', rfl, hb, q1, q2⟩ := HT.out.hds.cellAt hlt
        have q3 := (hBw.cell (p := ⟨b, off + k, none⟩) hb).trans q1
        have hk0 : (0 : Int) ≤ (k : Int) := by omega
        have hk1 : (k : Int) < (n : Int) := by omega
        have CC := Lib.hid (CK.out wr k A' n' c' hBw q2)
        obtain ⟨q, hq⟩ : ∃ q, p k = q := ⟨_, rfl⟩
        have HQ := Lib.hid hq
        rw [hq] at CC
        have HF := Lib.hid hF
        have HBR := Lib.hid hBr
        have HS := Lib.hid (show w1.heap.size ≤ wr.heap.size from hBr.size)
        clear hq q1 q2 hF hBr hBw
        go_wp2_with (go_at_call 121; refine CC.out.mono ?_; rintro e w5 ⟨rfl, hB5⟩; have HF5 := Lib.hid (HF.out.below hB5 HF.out.lt); have HB5 := Lib.hid (HBR.out.trans (hB5.mono HS.out)); have c5 := (HF5.out.cell k).trans (bcells_at p hlt); have f5 := HF5.out.frozen k; clear hB5)
        go_roundw
        case rel => exact ⟨k + 1, by omega, by go_num, by have := (HF5.out.set_ k (.bool q)); rw [← HQ.out, bcells_set p hlt, HQ.out] at this; exact this, (HB5.out.setCell (p := ⟨w1.heap.size, k, none⟩) (Nat.le_refl _) (.bool q))⟩
        case measure => simp [intOf]; omega
      · obtain rfl : k = n := by omega
        have CF := Lib.hid (refChosen_any w1.heap.size k k p wr hF hn)
        have HBW := Lib.hid hBw
        clear hF hBr hBw
        go_wp2_with (go_at_call 115; refine CF.out.mono ?_; rintro e w6 ⟨v, base, rfl, hb6, hrow, hB6⟩; obtain ⟨A6, c6, rfl, hI6, hk6⟩ := row_intsk hrow HN.out; have HB6 := Lib.hid (below_then HBW.out hB6); have HI6 := Lib.hid hI6; have HK6 := Lib.hid hk6; clear hb6 hrow hB6 hI6 hk6)
        go_ret2
        exact ⟨A6, _, c6, rfl, HI6.out, HK6.out, HB6.out⟩

set_option maxRecDepth 100000 in
set_option maxHeartbeats 2000000 in
theorem rShaped_any (As At Aq : Option Addr) (ns cs n c nq cq : Nat) (ss : Sg) (ls : List Hd) (tt : List (List Int)) (zq : List Int) (w : World)
    (hs : SigAt w w.heap.size As ns ss) (ht : TermsAt w w.heap.size At n ls tt) (hq : IntsAt w w.heap.size Aq nq zq) (hn : n ≤ 1000000) :
    Calls Try.prog 67 #[.slice As ns cs, .slice At n c, .slice Aq nq cq] w (RetK w (srZ ss tt zq fun k => decide (flat (tt.getD k []) = flat zq)).1 (srZ ss tt zq fun k => decide (flat (tt.getD k []) = flat zq)).2) := by
  have C1 := Lib.hid (asked_any As At Aq ns cs n c nq cq ss ls tt zq w _ hs ht hq hn)
  cases hv : (shOk ss tt && valOk ss zq)
  · have H : Hid ((srZ ss tt zq fun k => decide (flat (tt.getD k []) = flat zq)) = ([], 1)) := Lib.hid (by unfold srZ; rw [hv]; rfl)
    rw [H.out]
    rw [hv] at C1
    clear hs ht hq hn hv
    go_enter Try.func67, Try.ntmps67
    go_wp2_with (go_at_call 114; refine C1.out.mono ?_; rintro e w1 ⟨rfl, k1, rfl⟩)
    go_ret2
    exact ⟨none, 0, 0, rfl, IntsAt.nil _ _ 0, by omega, below_drewN (Below.refl _ _) _⟩
  · obtain ⟨i0, hi, hz0, hz1, hz2⟩ := info_parts info_bool
    rw [hv] at C1
    rw [Bool.and_eq_true] at hv
    obtain ⟨hv1, hv2⟩ := hv
    have hsl := shOk_len hv1
    have htl := ht.len
    obtain ⟨p, hp⟩ : ∃ p : Nat → Bool, (fun k => decide (flat (tt.getD k []) = flat zq)) = p := ⟨_, rfl⟩
    have H : Hid ((srZ ss tt zq fun k => decide (flat (tt.getD k []) = flat zq)) = (chF p n, 0)) := Lib.hid (by unfold srZ; rw [hv1, hv2, htl, hp]; rfl)
    rw [H.out]
    have hmk : ∀ W : World, (Instr.makeSlice 104 (.int .i64 (n : Int)) (.int .i64 (n : Int))).run Try.prog W = .ok (.slice (some ⟨W.heap.size, 0, none⟩) n n) (W.alloc (.cells (bcells p n 0) 4)) := by
      intro W
      rw [bcells_zero]
      have := run_make_rowN (P := Try.prog) 104 4 i0 _ Try.underlying104 hi hz0 .i64 .i64 n n (Nat.le_refl _) (by rw [hz2]; omega) (by omega) W
      rw [hz1] at this
      exact this
    have CK := Lib.hid (fun (V : World) (k : Nat) (A' : Option Addr) (n' c' : Nat) (hV : Below w.heap.size w V) (hk : ls[k]? = some (A', n', c')) =>
      show ∃ t, decide (flat t = flat zq) = p k ∧ Calls Try.prog 88 #[.slice A' n' c'] V fun e w' => ∃ A5 c5, e = .returned (.slice A5 n' c5) ∧ IntsAt w' w'.heap.size A5 n' (flat t) ∧ Below V.heap.size V w' from by
        obtain ⟨t, ht1, ht2, hI⟩ := ht.at hk
        have hpk : p k = decide (flat t = flat zq) := by rw [← hp]; simp only [ht2]
        rw [hpk]
        have hval := shOk_each hv1 ht1
        exact ⟨t, rfl, flat_any A' n' c' t V ((hI.below hV).more hV.size) (by have := (valOk_term hval).1; have := hI.len; omega) (by have := (valOk_term hval).2.1; have := hI.len; omega)⟩)
    have HT := Lib.hid ht
    have CQ := Lib.hid (fun V (h : Below w.heap.size w V) => flat_any Aq nq cq zq V (hq.up h) (by have := (valOk_term hv2).1; have := hq.len; omega) (by have := (valOk_term hv2).2.1; have := hq.len; omega))
    have HN := Lib.hid (show (chF p n).length ≤ 1000000 by have := chF_len p n; omega)
    clear hs ht hq hv1 hv2 hp htl
    go_enter Try.func67, Try.ntmps67
    go_wp2_with (go_at_call 114; refine C1.out.mono ?_; rintro e w1 ⟨rfl, k1, hw1⟩; have HB1 := Lib.hid (show Below w.heap.size w w1 from by rw [hw1]; exact below_drewN (Below.refl _ _) _); clear hw1)
    clear hmk hi hz0 hz1 hz2
    go_loopw [9] (fun i wr => ∃ k : Nat, k ≤ n ∧ i = .int .i64 k ∧ Blk wr w1.heap.size 4 (bcells p n k) ∧ Below w1.heap.size w1 wr) (fun i _ => n - (intOf i).toNat)
    case atStart => exact ⟨0, Nat.zero_le _, rfl, Blk.new _ _ _, (Below.refl _ _).alloc (Nat.le_refl _) _⟩
    case round =>
      obtain ⟨k, hk, rfl, hF, hBr⟩ := hrel
      have hBw := HB1.out.trans (hBr.mono HB1.out.size)
      by_cases hlt : k < n
      · obtain ⟨b, off, A', n', c', rfl, hb, q1, q2⟩ := HT.out.hds.cellAt hlt
        have q3 := (hBw.cell (p := ⟨b, off + k, none⟩) hb).trans q1
        have hk0 : (0 : Int) ≤ (k : Int) := by omega
        have hk1 : (k : Int) < (n : Int) := by omega
        have CC := Lib.hid (CK.out wr k A' n' c' hBw q2)
        obtain ⟨q, hq⟩ : ∃ q, p k = q := ⟨_, rfl⟩
        have HQ := Lib.hid hq
        rw [hq] at CC
        have HF := Lib.hid hF
        have HBR := Lib.hid hBr
        have HS := Lib.hid (show w1.heap.size ≤ wr.heap.size from hBr.size)
        obtain ⟨t, hpt, hct⟩ := CC.out
        have HPT := Lib.hid hpt
        have CT := Lib.hid hct
        have HBW := Lib.hid hBw
        clear hpt hct CC
        clear hq q1 q2 hF hBr hBw
        go_wp2_with (first
          | (go_at_call 88; (with_reducible refine CT.out.mono ?_); rintro e w3 ⟨A3, c3, rfl, hI3, hB3⟩; have HI3 := Lib.hid hI3; have HB3 := Lib.hid hB3; clear hI3 hB3)
          | (go_at_call 88; (with_reducible refine (CQ.out _ (below_then HBW.out HB3.out)).mono ?_); rintro e w4 ⟨A4, c4, rfl, hI4, hB4⟩; have HI3' := Lib.hid (HI3.out.up hB4); have HI4 := Lib.hid hI4; have HB4 := Lib.hid (below_then HB3.out hB4); clear hI4 hB4)
          | (go_at_call 20; refine (same_any A3 A4 _ c3 _ c4 _ _ _ _ HI3'.out HI4.out).mono ?_; rintro e w5 ⟨rfl, k5, hw5⟩; rw [HPT.out]; have hB5 := (show Below wr.heap.size wr w5 from by rw [hw5]; exact below_drewN HB4.out _); clear hw5; have HF5 := Lib.hid (HF.out.below hB5 HF.out.lt); have HB5 := Lib.hid (HBR.out.trans (hB5.mono HS.out)); have c5 := (HF5.out.cell k).trans (bcells_at p hlt); have f5 := HF5.out.frozen k; clear hB5))
        go_roundw
        case rel => exact ⟨k + 1, by omega, by go_num, by have := (HF5.out.set_ k (.bool q)); rw [← HQ.out, bcells_set p hlt, HQ.out] at this; exact this, (HB5.out.setCell (p := ⟨w1.heap.size, k, none⟩) (Nat.le_refl _) (.bool q))⟩
        case measure => simp [intOf]; omega
      · obtain rfl : k = n := by omega
        have CF := Lib.hid (refChosen_any w1.heap.size k k p wr hF hn)
        have HBW := Lib.hid hBw
        clear hF hBr hBw
        go_wp2_with (go_at_call 115; refine CF.out.mono ?_; rintro e w6 ⟨v, base, rfl, hb6, hrow, hB6⟩; obtain ⟨A6, c6, rfl, hI6, hk6⟩ := row_intsk hrow HN.out; have HB6 := Lib.hid (below_then HBW.out hB6); have HI6 := Lib.hid hI6; have HK6 := Lib.hid hk6; clear hb6 hrow hB6 hI6 hk6)
        go_ret2
        exact ⟨A6, _, c6, rfl, HI6.out, HK6.out, HB6.out⟩

end Go.Proofs.Ytcegbmibpkopaaa

namespace Go.Proofs.Ytcegbmibpkopaaa
open Go.RowKit

set_option maxRecDepth 100000 in
set_option maxHeartbeats 4000000 in
theorem searches_small (As At Aq : Option Addr) (ns cs n c nq cq : Nat) (ls : List Hd) (w : World) (ht : HdsAt w w.heap.size At n ls) (h : (fewB ns n 70 ls && smallOk ns [(Aq, nq, cq)]) = false) :
    Calls Try.prog 10 #[.slice As ns cs, .slice At n c, .slice Aq nq cq] w fun e w' => e = .returned (.bool true) ∧ Below w.heap.size w w' := by
  have C1 := Lib.hid (few5_any As At ns cs n c 70 ls w _ ht)
  have C2 := Lib.hid (small_any As (some ⟨w.heap.size, 0, none⟩) ns cs 1 1 [(Aq, nq, cq)] _ _ (hdF_one w Aq nq cq))
  have HB := Lib.hid (bel_al (Below.refl w.heap.size w) (.cells #[.slice Aq nq cq] 25))
  cases h1 : fewB ns n 70 ls
  · rw [h1] at C1
    clear ht h h1
    go_enter Try.func10, Try.ntmps10
    go_wp2_with (first
      | (go_at_call 53; refine C1.out.mono ?_; rintro e w' ⟨rfl, rfl⟩)
      | (go_at_call 54; refine (awakeF_any _).mono ?_; rintro e w3 ⟨rfl, hB3⟩; have HB3 := Lib.hid hB3; clear hB3))
    go_ret
    exact ⟨rfl, HB3.out⟩
  · rw [h1, Bool.true_and] at h
    rw [h1] at C1
    rw [h] at C2
    clear ht h h1
    go_enter Try.func10, Try.ntmps10
    go_wp2_with (first
      | (go_at_call 53; refine C1.out.mono ?_; rintro e w' ⟨rfl, rfl⟩)
      | (go_at_call 16; refine C2.out.mono ?_; rintro e w' ⟨rfl, rfl⟩)
      | (go_at_call 54; refine (awakeF_any _).mono ?_; rintro e w3 ⟨rfl, hB3⟩; have HB3 := Lib.hid (below_then HB.out hB3); clear hB3))
    go_ret
    exact ⟨rfl, HB3.out⟩

set_option maxRecDepth 100000 in
set_option maxHeartbeats 8000000 in
theorem searches_walk (As At Aq : Option Addr) (ns cs n c nq cq : Nat) (ss : Sg) (ls : List Hd) (tt : List (List Int)) (zq : List Int) (w : World)
    (hs : SigAt w w.heap.size As ns ss) (ht : TermsAt w w.heap.size At n ls tt) (hq : IntsAt w w.heap.size Aq nq zq) (hcap : ∀ x ∈ ls, capOk x) (hcq : nq ≤ cq ∧ cq ≤ 9223372036854775807) :
    Calls Try.prog 10 #[.slice As ns cs, .slice At n c, .slice Aq nq cq] w fun e w' => e = .returned (.bool true) ∧ Below w.heap.size w w' := by
  cases hsm : (fewB ns n 70 ls && smallOk ns [(Aq, nq, cq)])
  · exact searches_small As At Aq ns cs n c nq cq ls w ht.hds hsm
  · rw [Bool.and_eq_true] at hsm
    obtain ⟨hf, hsm⟩ := hsm
    have hn : n ≤ 70 := by
      unfold fewB at hf
      rw [Bool.and_eq_true, decide_eq_true_eq] at hf
      omega
    have C1 := Lib.hid (few5_any As At ns cs n c 70 ls w _ ht.hds)
    have C2 := Lib.hid (small_any As (some ⟨w.heap.size, 0, none⟩) ns cs 1 1 [(Aq, nq, cq)] _ _ (hdF_one w Aq nq cq))
    rw [hf] at C1
    rw [hsm] at C2
    have HB0 := Lib.hid (bel_al (Below.refl w.heap.size w) (.cells #[.slice Aq nq cq] 25))
    have CV := Lib.hid (fun V (h : Below w.heap.size w V) => fvalid_any As At ns cs n c ss ls tt V (hs.up h) (ht.up h) (by omega))
    have RV := Lib.hid (fun V (h : Below w.heap.size w V) => refValid5_any As At ns cs n c ss ls tt V _ (hs.up h) (ht.up h) (by omega))
    obtain ⟨sv, hsv⟩ : ∃ b, shOk ss tt = b := ⟨_, rfl⟩
    rw [hsv] at CV RV
    have P0 := Lib.hid (fun V (h : Below w.heap.size w V) => fMeeting_any As At Aq ns cs n c nq cq ss ls tt zq V (hs.up h) (ht.up h) (hq.up h) (by omega) hcap hcq)
    have R0 := Lib.hid (fun V (h : Below w.heap.size w V) => rMeeting_any As At Aq ns cs n c nq cq ss ls tt zq V (hs.up h) (ht.up h) (hq.up h) (by omega) hcap hcq)
    obtain ⟨S0, hS0⟩ : ∃ S, (srZ ss tt zq fun k => hasZ ss 12 (tt.getD k []) zq) = S := ⟨_, rfl⟩
    simp only [hS0] at P0 R0
    obtain ⟨L0, x0⟩ := S0
    simp only at P0 R0
    have b0 : (x0 != x0) = false := by simp
    have q0 : (x0 == x0) = true := by simp
    have P1 := Lib.hid (fun V (h : Below w.heap.size w V) => fInstances_any As At Aq ns cs n c nq cq ss ls tt zq V (hs.up h) (ht.up h) (hq.up h) (by omega) hcap hcq)
    have R1 := Lib.hid (fun V (h : Below w.heap.size w V) => rInstances_any As At Aq ns cs n c nq cq ss ls tt zq V (hs.up h) (ht.up h) (hq.up h) (by omega) hcap hcq)
    obtain ⟨S1, hS1⟩ : ∃ S, (srZ ss tt zq fun k => insB ss zq (tt.getD k [])) = S := ⟨_, rfl⟩
    simp only [hS1] at P1 R1
    obtain ⟨L1, x1⟩ := S1
    simp only at P1 R1
    have b1 : (x1 != x1) = false := by simp
    have q1 : (x1 == x1) = true := by simp
    have P2 := Lib.hid (fun V (h : Below w.heap.size w V) => fGenerals_any As At Aq ns cs n c nq cq ss ls tt zq V (hs.up h) (ht.up h) (hq.up h) (by omega) hcap hcq)
    have R2 := Lib.hid (fun V (h : Below w.heap.size w V) => rGenerals_any As At Aq ns cs n c nq cq ss ls tt zq V (hs.up h) (ht.up h) (hq.up h) (by omega) hcap hcq)
    obtain ⟨S2, hS2⟩ : ∃ S, (srZ ss tt zq fun k => insB ss (tt.getD k []) zq) = S := ⟨_, rfl⟩
    simp only [hS2] at P2 R2
    obtain ⟨L2, x2⟩ := S2
    simp only at P2 R2
    have b2 : (x2 != x2) = false := by simp
    have q2 : (x2 == x2) = true := by simp
    have P3 := Lib.hid (fun V (h : Below w.heap.size w V) => fAlike_any As At Aq ns cs n c nq cq ss ls tt zq V (hs.up h) (ht.up h) (hq.up h) (by omega) hcap hcq)
    have R3 := Lib.hid (fun V (h : Below w.heap.size w V) => rAlike_any As At Aq ns cs n c nq cq ss ls tt zq V (hs.up h) (ht.up h) (hq.up h) (by omega))
    obtain ⟨S3, hS3⟩ : ∃ S, (srZ ss tt zq fun k => alikeOk ss (tt.getD k []) zq) = S := ⟨_, rfl⟩
    simp only [hS3] at P3 R3
    obtain ⟨L3, x3⟩ := S3
    simp only at P3 R3
    have b3 : (x3 != x3) = false := by simp
    have q3 : (x3 == x3) = true := by simp
    have P4 := Lib.hid (fun V (h : Below w.heap.size w V) => shaped_any As At Aq ns cs n c nq cq ss ls tt zq V (hs.up h) (ht.up h) (hq.up h) (by omega))
    have R4 := Lib.hid (fun V (h : Below w.heap.size w V) => rShaped_any As At Aq ns cs n c nq cq ss ls tt zq V (hs.up h) (ht.up h) (hq.up h) (by omega))
    obtain ⟨S4, hS4⟩ : ∃ S, (srZ ss tt zq fun k => decide (flat (tt.getD k []) = flat zq)) = S := ⟨_, rfl⟩
    simp only [hS4] at P4 R4
    obtain ⟨L4, x4⟩ := S4
    simp only at P4 R4
    have b4 : (x4 != x4) = false := by simp
    have q4 : (x4 == x4) = true := by simp
    clear hs ht hq hcap hcq hf hsm hsv hS0 hS1 hS2 hS3 hS4
    go_enter Try.func10, Try.ntmps10
    go_wp2_with (first
      | (go_at_call 53; refine C1.out.mono ?_; rintro e w' ⟨rfl, rfl⟩)
      | (go_at_call 16; refine C2.out.mono ?_; rintro e w' ⟨rfl, rfl⟩)
      | (go_at_call 55; refine (P0.out _ HB0.out).mono ?_; rintro e wa0 ⟨A0a, n0a, c0a, rfl, hI, hk, hB⟩; have HBa0 := Lib.hid (below_then HB0.out hB); have HI0a := Lib.hid hI; clear hI hk hB)
      | (go_at_call 56; refine (R0.out _ HBa0.out).mono ?_; rintro e wb0 ⟨A0b, n0b, c0b, rfl, hI, hk, hB⟩; have HBb0 := Lib.hid (below_then HBa0.out hB); have HI0c := Lib.hid (HI0a.out.up hB); have HI0b := Lib.hid hI; clear hI hk hB)
      | (go_at_call 57; (with_reducible refine (sameInts_any A0a A0b n0a c0a n0b c0b L0 L0 _ _ HI0c.out HI0b.out).mono ?_); rintro e wc0 ⟨rfl, kc, hwc⟩; rw [decide_eq_true (show L0 = L0 from rfl)]; have HBc0 := Lib.hid (show Below w.heap.size w wc0 from by rw [hwc]; exact below_drewN HBb0.out _); clear hwc)
      | (go_at_call 58; refine (CV.out _ HBc0.out).mono ?_; rintro e wv ⟨rfl, hB⟩; have HBv := Lib.hid (below_then HBc0.out hB); clear hB)
      | (go_at_call 59; refine (RV.out _ HBv.out).mono ?_; rintro e wu ⟨rfl, ku, hwu⟩; have HBu := Lib.hid (show Below w.heap.size w wu from by rw [hwu]; exact below_drewN HBv.out _); clear hwu)
      | (go_at_call 60; refine (P1.out _ HBu.out).mono ?_; rintro e wa1 ⟨A1a, n1a, c1a, rfl, hI, hk, hB⟩; have HBa1 := Lib.hid (below_then HBu.out hB); have HI1a := Lib.hid hI; clear hI hk hB)
      | (go_at_call 61; refine (R1.out _ HBa1.out).mono ?_; rintro e wb1 ⟨A1b, n1b, c1b, rfl, hI, hk, hB⟩; have HBb1 := Lib.hid (below_then HBa1.out hB); have HI1c := Lib.hid (HI1a.out.up hB); have HI1b := Lib.hid hI; clear hI hk hB)
      | (go_at_call 57; (with_reducible refine (sameInts_any A1a A1b n1a c1a n1b c1b L1 L1 _ _ HI1c.out HI1b.out).mono ?_); rintro e wc1 ⟨rfl, kc, hwc⟩; rw [decide_eq_true (show L1 = L1 from rfl)]; have HBc1 := Lib.hid (show Below w.heap.size w wc1 from by rw [hwc]; exact below_drewN HBb1.out _); clear hwc)
      | (go_at_call 62; refine (P2.out _ HBc1.out).mono ?_; rintro e wa2 ⟨A2a, n2a, c2a, rfl, hI, hk, hB⟩; have HBa2 := Lib.hid (below_then HBc1.out hB); have HI2a := Lib.hid hI; clear hI hk hB)
      | (go_at_call 63; refine (R2.out _ HBa2.out).mono ?_; rintro e wb2 ⟨A2b, n2b, c2b, rfl, hI, hk, hB⟩; have HBb2 := Lib.hid (below_then HBa2.out hB); have HI2c := Lib.hid (HI2a.out.up hB); have HI2b := Lib.hid hI; clear hI hk hB)
      | (go_at_call 57; (with_reducible refine (sameInts_any A2a A2b n2a c2a n2b c2b L2 L2 _ _ HI2c.out HI2b.out).mono ?_); rintro e wc2 ⟨rfl, kc, hwc⟩; rw [decide_eq_true (show L2 = L2 from rfl)]; have HBc2 := Lib.hid (show Below w.heap.size w wc2 from by rw [hwc]; exact below_drewN HBb2.out _); clear hwc)
      | (go_at_call 64; refine (P3.out _ HBc2.out).mono ?_; rintro e wa3 ⟨A3a, n3a, c3a, rfl, hI, hk, hB⟩; have HBa3 := Lib.hid (below_then HBc2.out hB); have HI3a := Lib.hid hI; clear hI hk hB)
      | (go_at_call 65; refine (R3.out _ HBa3.out).mono ?_; rintro e wb3 ⟨A3b, n3b, c3b, rfl, hI, hk, hB⟩; have HBb3 := Lib.hid (below_then HBa3.out hB); have HI3c := Lib.hid (HI3a.out.up hB); have HI3b := Lib.hid hI; clear hI hk hB)
      | (go_at_call 57; (with_reducible refine (sameInts_any A3a A3b n3a c3a n3b c3b L3 L3 _ _ HI3c.out HI3b.out).mono ?_); rintro e wc3 ⟨rfl, kc, hwc⟩; rw [decide_eq_true (show L3 = L3 from rfl)]; have HBc3 := Lib.hid (show Below w.heap.size w wc3 from by rw [hwc]; exact below_drewN HBb3.out _); clear hwc)
      | (go_at_call 66; refine (P4.out _ HBc3.out).mono ?_; rintro e wa4 ⟨A4a, n4a, c4a, rfl, hI, hk, hB⟩; have HBa4 := Lib.hid (below_then HBc3.out hB); have HI4a := Lib.hid hI; clear hI hk hB)
      | (go_at_call 67; refine (R4.out _ HBa4.out).mono ?_; rintro e wb4 ⟨A4b, n4b, c4b, rfl, hI, hk, hB⟩; have HBb4 := Lib.hid (below_then HBa4.out hB); have HI4c := Lib.hid (HI4a.out.up hB); have HI4b := Lib.hid hI; clear hI hk hB)
      | (go_at_call 57; (with_reducible refine (sameInts_any A4a A4b n4a c4a n4b c4b L4 L4 _ _ HI4c.out HI4b.out).mono ?_); rintro e wc4 ⟨rfl, kc, hwc⟩; rw [decide_eq_true (show L4 = L4 from rfl)]; have HBc4 := Lib.hid (show Below w.heap.size w wc4 from by rw [hwc]; exact below_drewN HBb4.out _); clear hwc)
      | (go_at_call 54; refine (awakeF_any _).mono ?_; rintro e w9 ⟨rfl, hB⟩; have HB9 := Lib.hid (below_then HBc4.out hB); clear hB))
    go_ret
    exact ⟨rfl, HB9.out⟩

end Go.Proofs.Ytcegbmibpkopaaa
