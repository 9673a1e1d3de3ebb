/- Contract: the reference's IsBase. -/
import Derived.Test.YtgbfccbnbgbknaaBGg
import Derived.Test.YtgbfccbnbgbknaaGUg
import Derived.Deep.RegionHeldLaw
/- Contracts: the reference's under and Over. -/
namespace Go.Proofs.Ytgbfccbnbgbknaa
open Go.RowKit

theorem cell_far {w : World} {b q : Nat} {u : Value} {p : Addr} (h : p.block ≠ b) : (w.setCell ⟨b, q, none⟩ u).cell? p = w.cell? p :=
  World.cell?_of_block (w := w) (heap_setCell_other w ⟨b, q, none⟩ p.block u h)

set_option maxRecDepth 100000 in
set_option maxHeartbeats 1000000 in
theorem under_any (As Aa Ab : Option Addr) (ns cs na ca nb cb : Nat) (ss : Sg) (za zb : List Int) (w : World) (hs : SigAt w w.heap.size As ns ss) (ha : IntsAt w w.heap.size Aa na za) (hb : IntsAt w w.heap.size Ab nb zb) (hc : nb ≤ cb) (hc2 : cb ≤ 9223372036854775807) (va : valOk ss za = true) (vb : valOk ss zb = true) :
    Calls Try.prog 163 #[.slice As ns cs, .slice Aa na ca, .slice Ab nb cb] w fun e w' => e = .returned (.bool (insB ss za zb && !alikeOk ss za zb)) ∧ Below w.heap.size w w' := by
  have C1 := Lib.hid (refInstance_any As Aa Ab ns cs na ca nb cb ss za zb w hs ha hb hc hc2)
  have C2 := Lib.hid (fun V (h : Below w.heap.size w V) => refAlike5_any Aa Ab na ca nb cb ss za zb V (ha.up h) (hb.up h) va vb)
  obtain ⟨R2, hR2⟩ : ∃ R2, alikeOk ss za zb = R2 := ⟨_, rfl⟩
  rw [hR2] at C2 ⊢
  obtain ⟨R, hR⟩ : ∃ R, insB ss za zb = R := ⟨_, rfl⟩
  rw [hR] at C1 ⊢
  clear hs ha hb hR hR2 va vb
  cases R
  · go_enter Try.func163, Try.ntmps163
    go_wp2_with (go_at_call 43; refine C1.out.mono ?_; rintro e w1 ⟨rfl, hB1⟩; have HB1 := Lib.hid hB1; clear hB1)
    go_ret
    exact ⟨rfl, HB1.out⟩
  · go_enter Try.func163, Try.ntmps163
    go_wp2_with (first
      | (go_at_call 43; refine C1.out.mono ?_; rintro e w1 ⟨rfl, hB1⟩; have HB1 := Lib.hid hB1; clear hB1)
      | (go_at_call 136; refine (C2.out _ HB1.out).mono ?_; rintro e w2 ⟨rfl, hB2⟩; have HB2 := Lib.hid (below_then HB1.out hB2); clear hB2))
    go_ret
    exact ⟨ret_b (by cases R2 <;> rfl), HB2.out⟩

set_option maxRecDepth 100000 in
set_option maxHeartbeats 2000000 in
theorem rOver_any (As At : Option Addr) (ns cs n c : Nat) (i : Int) (ss : Sg) (ls : List Hd) (tt : List (List Int)) (w : World)
    (hs : SigAt w w.heap.size As ns ss) (ht : TermsAt w w.heap.size At n ls tt) (hn : n ≤ 1000000) (hcap : ∀ x ∈ ls, capOk x) :
    Calls Try.prog 94 #[.slice As ns cs, .slice At n c, .int .i64 i] w (RetK w (ovZ ss tt i).1 (ovZ ss tt i).2) := by
  have C1 := Lib.hid (refValid5_any As At ns cs n c ss ls tt w _ hs ht hn)
  have htl := ht.len
  cases h1 : shOk ss tt
  · have H : Hid (ovZ ss tt i = ([], 1)) := Lib.hid (by unfold ovZ; rw [h1]; rfl)
    rw [H.out]
    rw [h1] at C1
    clear hs ht hn hcap h1 htl
    go_enter Try.func94, Try.ntmps94
    go_wp2_with (go_at_call 60; refine C1.out.mono ?_; rintro e w1 ⟨rfl, k1, rfl⟩)
    go_ret2
    exact ⟨none, 0, 0, rfl, IntsAt.nil _ _ 0, by omega, below_drewN (Below.refl _ _) _⟩
  · have C2 := Lib.hid (fun V => within5_any i 0 ((n : Int) - 1) V)
    rw [h1] at C1
    have hsl := shOk_len h1
    by_cases hi : 0 ≤ i ∧ i < (n : Int)
    · obtain ⟨k0, rfl⟩ : ∃ k : Nat, i = (k : Int) := ⟨i.toNat, by omega⟩
      have hkn : k0 < n := by omega
      rw [show (decide ((0 : Int) ≤ (k0 : Int)) && decide ((k0 : Int) ≤ (n : Int) - 1)) = true by rw [decide_eq_true (by omega), decide_eq_true (by omega)]; rfl] at C2
      obtain ⟨bq, offq, Aq, nq, cq, rfl, hbq, p1, p2⟩ := ht.hds.cellAt hkn
      obtain ⟨zq, z1, z2, hIq⟩ := ht.at p2
      have hkc := cap_at hcap p2
      obtain ⟨i0, hi0, hz0, hz1, hz2⟩ := info_parts info_bool
      obtain ⟨p, hp⟩ : ∃ p : Nat → Bool, ovr ss tt k0 = p := ⟨_, rfl⟩
      have H : Hid (ovZ ss tt (k0 : Int) = (chF p n, 0)) := Lib.hid (by
        unfold ovZ
        rw [h1, if_pos rfl, if_pos ⟨by omega, by omega⟩, Int.toNat_natCast, hp, htl])
      rw [H.out]
      have hmk : ∀ W : World, (Instr.makeSlice 111 (.int .i64 (n : Int)) (.int .i64 (n : Int))).run Try.prog W = .ok (.slice (some ⟨W.heap.size, 0, none⟩) n n) (W.alloc (.cells (bcells p n 0) 4)) := by
        intro W
        rw [bcells_zero]
        have := run_make_rowN (P := Try.prog) 111 4 i0 _ Try.underlying111 hi0 hz0 .i64 .i64 n n (Nat.le_refl _) (by rw [hz2]; omega) (by omega) W
        rw [hz1] at this
        exact this
      have CK := Lib.hid (fun (V : World) (k : Nat) (A' : Option Addr) (n' c' : Nat) (hV : Below w.heap.size w V) (hk : ls[k]? = some (A', n', c')) =>
        show Calls Try.prog 163 #[.slice As ns cs, .slice A' n' c', .slice Aq nq cq] V fun e w' => e = .returned (.bool (p k)) ∧ Below V.heap.size V w' from by
          obtain ⟨t, ht1, ht2, hI⟩ := ht.at hk
          have hpk : p k = (insB ss t zq && !alikeOk ss t zq) := by rw [← hp]; unfold ovr; rw [ht2, z2]
          rw [hpk]
          exact under_any As A' Aq ns cs n' c' nq cq ss t zq V (hs.up hV) ((hI.below hV).more hV.size) (hIq.up hV) hkc.1 hkc.2 (shOk_each h1 ht1) (shOk_each h1 z1))
      have HT := Lib.hid ht
      have QQ := Lib.hid (fun V (h : Below w.heap.size w V) => (h.cell (p := ⟨bq, offq + k0, none⟩) hbq).trans p1)
      have HN := Lib.hid (show (chF p n).length ≤ 1000000 by have := chF_len p n; omega)
      have g0 : (0 : Int) ≤ (k0 : Int) := by omega
      have g1 : (k0 : Int) < (n : Int) := by omega
      clear hs ht hp htl hcap h1 p1 p2 z1 z2 hIq hkc hi
      go_enter Try.func94, Try.ntmps94
      go_wp2_with (first
        | (go_at_call 60; refine C1.out.mono ?_; rintro e w1 ⟨rfl, k1, hw1⟩; have HB1 := Lib.hid (show Below w.heap.size w w1 from by rw [hw1]; exact below_drewN (Below.refl _ _) _); clear hw1)
        | (go_at_call 131; refine (C2.out _).mono ?_; rintro e w2 ⟨rfl, rfl⟩))
      clear hmk hi0 hz0 hz1 hz2
      go_loopw [9] (fun i wr => ∃ k : Nat, k ≤ n ∧ i = .int .i64 k ∧ Blk wr w1.heap.size 4 (bcells p n k) ∧ Below w1.heap.size w1 wr) (fun i _ => n - (intOf i).toNat)
      case atStart => exact ⟨0, Nat.zero_le _, rfl, Blk.new _ _ _, (Below.refl _ _).alloc (Nat.le_refl _) _⟩
      case round =>
        obtain ⟨k, hk, rfl, hF, hBr⟩ := hrel
        have hBw := HB1.out.trans (hBr.mono HB1.out.size)
        by_cases hlt : k < n
        · obtain ⟨b, off, A', n', c', he, hb, q1, q2⟩ := HT.out.hds.cellAt hlt
          cases he
          have q3 := (hBw.cell (p := ⟨bq, offq + k, none⟩) hb).trans q1
          have q4 := QQ.out wr hBw
          have hk0 : (0 : Int) ≤ (k : Int) := by omega
          have hk1 : (k : Int) < (n : Int) := by omega
          have CC := Lib.hid (fun V (h : Below wr.heap.size wr V) => CK.out V k A' n' c' (below_then hBw h) q2)
          obtain ⟨q, hq⟩ : ∃ q, p k = q := ⟨_, rfl⟩
          have HQ := Lib.hid hq
          rw [hq] at CC
          have HF := Lib.hid hF
          have HBR := Lib.hid hBr
          have HS := Lib.hid (show w1.heap.size ≤ wr.heap.size from hBr.size)
          have hsz1 := HB1.out.size
          have HRK := Lib.hid (fun V (h : Below wr.heap.size wr V) => And.intro ((h.cell (p := ⟨bq, offq + k, none⟩) (Nat.lt_of_lt_of_le hb hBw.size)).trans q3) ((h.cell (p := ⟨bq, offq + k0, none⟩) (Nat.lt_of_lt_of_le hb hBw.size)).trans q4))
          clear hq q1 q2 hF hBr hBw
          go_wp2_with fail
          go_region_held3 (fun w' => w'.cell? ⟨bq, offq + k, none⟩ = some (.slice A' n' c') ∧ w'.cell? ⟨bq, offq + k0, none⟩ = some (.slice Aq nq cq))
            (first | exact HPUT.out _ | exact RK5.out | exact ⟨q3, q4⟩ | go_keep)
            ((go_at_call 163; refine (CC.out _ ((Below.refl _ _).drew)).mono ?_; rintro e w5 ⟨rfl, hB5⟩; have hB6 : Below wr.heap.size wr w5 := ((Below.refl _ wr).drew).trans hB5; have RK5 := Lib.hid (HRK.out w5 hB6); have HPUT := Lib.hid (fun v => show (w5.setCell ⟨w1.heap.size, k, none⟩ v).drew.cell? ⟨bq, offq + k, none⟩ = some (.slice A' n' c') ∧ (w5.setCell ⟨w1.heap.size, k, none⟩ v).drew.cell? ⟨bq, offq + k0, none⟩ = some (.slice Aq nq cq) from ⟨(cell_far (show bq ≠ w1.heap.size by omega)).trans RK5.out.1, (cell_far (show bq ≠ w1.heap.size by omega)).trans RK5.out.2⟩); have HF5 := Lib.hid (HF.out.below hB6 HF.out.lt); have HB5 := Lib.hid (HBR.out.trans (hB6.mono HS.out)); have c5 := (HF5.out.cell k).trans (bcells_at p hlt); have f5 := HF5.out.frozen k; clear hB5 hB6))
          go_wp2_with fail
          go_roundw
          case rel => exact ⟨k + 1, by omega, by go_num, by have := (HF5.out.set_ k (.bool q)); rw [← HQ.out, bcells_set p hlt, HQ.out] at this; exact this, (HB5.out.setCell (p := ⟨w1.heap.size, k, none⟩) (Nat.le_refl _) (.bool q))⟩
          case measure => simp [intOf]; omega
        · obtain rfl : k = n := by omega
          have CF := Lib.hid (refChosen_any w1.heap.size k k p wr hF hn)
          have HBW := Lib.hid hBw
          clear hF hBr hBw
          go_wp2_with (go_at_call 130; refine CF.out.mono ?_; rintro e w6 ⟨v, base, rfl, hb6, hrow, hB6⟩; obtain ⟨A6, c6, rfl, hI6, hk6⟩ := row_intsk hrow HN.out; have HB6 := Lib.hid (below_then HBW.out hB6); have HI6 := Lib.hid hI6; have HK6 := Lib.hid hk6; clear hb6 hrow hB6 hI6 hk6)
          go_ret2
          exact ⟨A6, _, c6, rfl, HI6.out, HK6.out, HB6.out⟩
    · rw [show (decide ((0 : Int) ≤ i) && decide (i ≤ (n : Int) - 1)) = false by
        rw [Bool.and_eq_false_iff, decide_eq_false_iff_not, decide_eq_false_iff_not]; omega] at C2
      have H : Hid (ovZ ss tt i = ([], 5)) := Lib.hid (by unfold ovZ; rw [h1, if_pos rfl, if_neg (by omega)])
      rw [H.out]
      clear hs ht hcap h1 htl hi
      go_enter Try.func94, Try.ntmps94
      go_wp2_with (first
        | (go_at_call 60; refine C1.out.mono ?_; rintro e w1 ⟨rfl, k1, rfl⟩)
        | (go_at_call 131; refine (C2.out _).mono ?_; rintro e w2 ⟨rfl, rfl⟩))
      go_ret2
      exact ⟨none, 0, 0, rfl, IntsAt.nil _ _ 0, by omega, below_drewN (Below.refl _ _) _⟩

end Go.Proofs.Ytgbfccbnbgbknaa

/- Contract: the reference's Base. -/
namespace Go.Proofs.Ytgbfccbnbgbknaa
open Go.RowKit

/-- Whether the statement m strikes the statement k out. -/
def strB (ss : Sg) (tt : List (List Int)) (k m : Nat) : Bool := ovr ss tt k m || (decide (m < k) && alikeOk ss (tt.getD m []) (tt.getD k []))
theorem basP_is (ss : Sg) (tt : List (List Int)) (n k : Nat) : basP ss tt n k = !anyB (strB ss tt k) n := rfl
/-- The answers, the one for k so far. -/
def dcells (p : Nat → Bool) (q : Nat → Bool) (n k m : Nat) : Array Value := (bcells p n k).setIfInBounds k (.bool (!anyB q m))
theorem dcells_at {p q : Nat → Bool} {n k m : Nat} (h : k < n) : (dcells p q n k m)[k]? = some (.bool (!anyB q m)) := by
  unfold dcells
  rw [Array.getElem?_setIfInBounds, if_pos rfl, if_pos (by simpa [bcells] using h)]
theorem dcells_yes {p q : Nat → Bool} {n k m : Nat} (h : q m = true) : (dcells p q n k m).setIfInBounds k (.bool false) = dcells p q n k (m + 1) := by
  unfold dcells
  rw [show anyB q (m + 1) = true by unfold anyB; rw [h, Bool.or_true]]
  apply Array.ext_getElem?
  intro i
  rw [Array.getElem?_setIfInBounds, Array.getElem?_setIfInBounds, Array.getElem?_setIfInBounds]
  by_cases e : k = i
  · subst e
    simp
  · rw [if_neg e, if_neg e, if_neg e]
theorem dcells_no {p q : Nat → Bool} {n k m : Nat} (h : q m = false) : dcells p q n k (m + 1) = dcells p q n k m := by
  unfold dcells
  rw [show anyB q (m + 1) = anyB q m by show (anyB q m || q m) = _; rw [h, Bool.or_false]]

set_option maxRecDepth 100000 in
set_option maxHeartbeats 4000000 in
theorem rBase_any (As At : Option Addr) (ns cs n c : Nat) (ss : Sg) (ls : List Hd) (tt : List (List Int)) (w : World) (hs : SigAt w w.heap.size As ns ss) (ht : TermsAt w w.heap.size At n ls tt) (hn : n ≤ 1000000) (hcap : ∀ x ∈ ls, capOk x) :
    Calls Try.prog 90 #[.slice As ns cs, .slice At n c] w (RetK w (basZ ss tt).1 (basZ ss tt).2) := by
  have C1 := Lib.hid (refValid5_any As At ns cs n c ss ls tt w _ hs ht hn)
  have htl := ht.len
  cases h1 : shOk ss tt
  · have H : Hid (basZ ss tt = ([], 1)) := Lib.hid (by unfold basZ; rw [h1]; rfl)
    rw [H.out]
    rw [h1] at C1
    clear hs ht hn hcap h1 htl
    go_enter Try.func90, Try.ntmps90
    go_wp2_with (go_at_call 60; refine C1.out.mono ?_; rintro e w1 ⟨rfl, k1, rfl⟩)
    go_ret2
    exact ⟨none, 0, 0, rfl, IntsAt.nil _ _ 0, by omega, below_drewN (Below.refl _ _) _⟩
  · rw [h1] at C1
    have hsl := shOk_len h1
    obtain ⟨i0, hi0, hz0, hz1, hz2⟩ := info_parts info_bool
    obtain ⟨p, hp⟩ : ∃ p : Nat → Bool, basP ss tt n = p := ⟨_, rfl⟩
    have H : Hid (basZ ss tt = (chF p n, 0)) := Lib.hid (by unfold basZ; rw [h1, if_pos rfl, ← htl, hp])
    rw [H.out]
    have hmk : ∀ W : World, (Instr.makeSlice 111 (.int .i64 (n : Int)) (.int .i64 (n : Int))).run Try.prog W = .ok (.slice (some ⟨W.heap.size, 0, none⟩) n n) (W.alloc (.cells (bcells p n 0) 4)) := by
      intro W
      rw [bcells_zero]
      have := run_make_rowN (P := Try.prog) 111 4 i0 _ Try.underlying111 hi0 hz0 .i64 .i64 n n (Nat.le_refl _) (by rw [hz2]; omega) (by omega) W
      rw [hz1] at this
      exact this
    have CU := Lib.hid (fun (V : World) (m : Nat) (A' : Option Addr) (n' c' : Nat) (k : Nat) (A2 : Option Addr) (n2 c2 : Nat) (hV : Below w.heap.size w V) (hk : ls[m]? = some (A', n', c')) (hk2 : ls[k]? = some (A2, n2, c2)) =>
      show Calls Try.prog 163 #[.slice As ns cs, .slice A' n' c', .slice A2 n2 c2] V fun e w' => e = .returned (.bool (ovr ss tt k m)) ∧ Below V.heap.size V w' from by
        obtain ⟨t, ht1, ht2, hI⟩ := ht.at hk
        obtain ⟨t2, ht3, ht4, hI2⟩ := ht.at hk2
        have hpk : ovr ss tt k m = (insB ss t t2 && !alikeOk ss t t2) := by unfold ovr; rw [ht2, ht4]
        rw [hpk]
        exact under_any As A' A2 ns cs n' c' n2 c2 ss t t2 V (hs.up hV) ((hI.below hV).more hV.size) ((hI2.below hV).more hV.size) (cap_at hcap hk2).1 (cap_at hcap hk2).2 (shOk_each h1 ht1) (shOk_each h1 ht3))
    have CA := Lib.hid (fun (V : World) (m : Nat) (A' : Option Addr) (n' c' : Nat) (k : Nat) (A2 : Option Addr) (n2 c2 : Nat) (hV : Below w.heap.size w V) (hk : ls[m]? = some (A', n', c')) (hk2 : ls[k]? = some (A2, n2, c2)) =>
      show Calls Try.prog 136 #[.slice A' n' c', .slice A2 n2 c2] V fun e w' => e = .returned (.bool (alikeOk ss (tt.getD m []) (tt.getD k []))) ∧ Below V.heap.size V w' from by
        obtain ⟨t, ht1, ht2, hI⟩ := ht.at hk
        obtain ⟨t2, ht3, ht4, hI2⟩ := ht.at hk2
        rw [ht2, ht4]
        exact refAlike5_any A' A2 n' c' n2 c2 ss t t2 V ((hI.below hV).more hV.size) ((hI2.below hV).more hV.size) (shOk_each h1 ht1) (shOk_each h1 ht3))
    have HT := Lib.hid ht
    have HN := Lib.hid (show (chF p n).length ≤ 1000000 by have := chF_len p n; omega)
    have HP := Lib.hid hp
    clear hs ht hp htl hcap h1
    go_enter Try.func90, Try.ntmps90
    go_wp2_with (go_at_call 60; refine C1.out.mono ?_; rintro e w1 ⟨rfl, k1, hw1⟩; have HB1 := Lib.hid (show Below w.heap.size w w1 from by rw [hw1]; exact below_drewN (Below.refl _ _) _); clear hw1)
    clear hmk hi0 hz0 hz1 hz2
    go_loopw [7] (fun i wr => ∃ k : Nat, k ≤ n ∧ i = .int .i64 k ∧ Blk wr w1.heap.size 4 (bcells p n k) ∧ Below w1.heap.size w1 wr) (fun i _ => n - (intOf i).toNat)
    case atStart => exact ⟨0, Nat.zero_le _, rfl, Blk.new _ _ _, (Below.refl _ _).alloc (Nat.le_refl _) _⟩
    case round =>
      obtain ⟨k, hk, rfl, hF, hBr⟩ := hrel
      have hBw := HB1.out.trans (hBr.mono HB1.out.size)
      by_cases hlt : k < n
      · obtain ⟨bq, offq, A2, n2, c2, rfl, hb, p1, p2⟩ := HT.out.hds.cellAt hlt
        have hk0 : (0 : Int) ≤ (k : Int) := by omega
        have hk1 : (k : Int) < (n : Int) := by omega
        have c0 := (hF.cell k).trans (bcells_at p hlt)
        have f0 := hF.frozen k
        have hsz1 := HB1.out.size
        obtain ⟨q, hq⟩ : ∃ q : Nat → Bool, strB ss tt k = q := ⟨_, rfl⟩
        have HQ := Lib.hid hq
        have hst := hF.set_ k (.bool true)
        have HF0 := Lib.hid (show Blk (wr.setCell ⟨w1.heap.size, k, none⟩ (.bool true)) w1.heap.size 4 (dcells p q n k 0) from hst)
        have HBR0 := Lib.hid (hBr.setCell (p := ⟨w1.heap.size, k, none⟩) (Nat.le_refl _) (.bool true))
        have HP1 := Lib.hid p1
        have HP2 := Lib.hid p2
        clear hF hBr hBw hst p1 p2 hq
        go_wp2
        go_loopw [8] (fun j wv => ∃ m : Nat, m ≤ n ∧ j = .int .i64 m ∧ Blk wv w1.heap.size 4 (dcells p q n k m) ∧ Below w1.heap.size w1 wv) (fun j _ => n - (intOf j).toNat)
        case atStart => exact ⟨0, Nat.zero_le _, rfl, HF0.out, HBR0.out⟩
        case round =>
          obtain ⟨m, hm, rfl, hF, hBr⟩ := hrel
          have hBw := HB1.out.trans (hBr.mono HB1.out.size)
          by_cases hmn : m < n
          · obtain ⟨b', off', A', n', c', he, _, r1, r2⟩ := HT.out.hds.cellAt hmn
            cases he
            have q3 := (hBw.cell (p := ⟨bq, offq + m, none⟩) hb).trans r1
            have q4 := (hBw.cell (p := ⟨bq, offq + k, none⟩) hb).trans HP1.out
            have hm0 : (0 : Int) ≤ (m : Int) := by omega
            have hm1 : (m : Int) < (n : Int) := by omega
            have C1' := Lib.hid (fun V (h : Below wr.heap.size wr V) => CU.out V m A' n' c' k A2 n2 c2 (below_then hBw h) r2 HP2.out)
            have C2' := Lib.hid (fun V (h : Below wr.heap.size wr V) => CA.out V m A' n' c' k A2 n2 c2 (below_then hBw h) r2 HP2.out)
            have HRK := Lib.hid (fun V (h : Below wr.heap.size wr V) => And.intro ((h.cell (p := ⟨bq, offq + m, none⟩) (Nat.lt_of_lt_of_le hb hBw.size)).trans q3) ((h.cell (p := ⟨bq, offq + k, none⟩) (Nat.lt_of_lt_of_le hb hBw.size)).trans q4))
            have hqm : q m = (ovr ss tt k m || (decide (m < k) && alikeOk ss (tt.getD m []) (tt.getD k []))) := by rw [← HQ.out]; rfl
            have HF := Lib.hid hF
            have HBR := Lib.hid hBr
            have HS := Lib.hid (show w1.heap.size ≤ wr.heap.size from hBr.size)
            clear hF hBr hBw r1 r2
            obtain ⟨y, hy⟩ : ∃ y, alikeOk ss (tt.getD m []) (tt.getD k []) = y := ⟨_, rfl⟩
            rw [hy] at C2' hqm
            obtain ⟨x, hx⟩ : ∃ x, ovr ss tt k m = x := ⟨_, rfl⟩
            rw [hx] at C1' hqm
            clear hx hy
            cases x
            · by_cases hmk : m < k
              · rw [decide_eq_true hmk, Bool.true_and, Bool.false_or] at hqm
                have d1 : decide ((m : Int) < (k : Int)) = true := decide_eq_true (by omega)
                cases y
                · have HQM := Lib.hid (dcells_no (p := p) (n := n) (k := k) hqm)
                  clear hqm
                  go_wp2_with fail
                  go_region_held3 (fun w' => w'.cell? ⟨bq, offq + m, none⟩ = some (.slice A' n' c') ∧ w'.cell? ⟨bq, offq + k, none⟩ = some (.slice A2 n2 c2))
                    (first | exact RK6.out | exact RK5.out | exact ⟨q3, q4⟩ | go_keep)
                    (first
                      | (go_at_call 163; refine (C1'.out _ ((Below.refl _ _).drew)).mono ?_; rintro e w5 ⟨rfl, hB5⟩; have hB6 : Below wr.heap.size wr w5 := ((Below.refl _ wr).drew).trans hB5; have RK5 := Lib.hid (HRK.out w5 hB6); have HF5 := Lib.hid (HF.out.below hB6 HF.out.lt); have c5 := (HF5.out.cell k).trans (dcells_at hlt); have f5 := HF5.out.frozen k; have HB5 := Lib.hid hB6; clear hB5 hB6)
                      | (go_at_call 136; refine (C2'.out _ HB5.out).mono ?_; rintro e w6 ⟨rfl, hB6⟩; have hB7 : Below wr.heap.size wr w6 := below_then HB5.out hB6; have RK6 := Lib.hid (HRK.out w6 hB7); have HF6 := Lib.hid (HF.out.below hB7 HF.out.lt); have c6 := (HF6.out.cell k).trans (dcells_at hlt); have f6 := HF6.out.frozen k; have HB6 := Lib.hid hB7; clear hB6 hB7))
                  all_goals
                    go_wp2_with fail
                    go_roundw
                    case rel => exact ⟨m + 1, by omega, by go_num, by rw [HQM.out]; exact HF6.out, HBR.out.trans (HB6.out.mono HS.out)⟩
                    case measure => simp [intOf]; omega
                · have HQM := Lib.hid (dcells_yes (p := p) (n := n) (k := k) hqm)
                  clear hqm
                  go_wp2_with fail
                  go_region_held3 (fun w' => w'.cell? ⟨bq, offq + m, none⟩ = some (.slice A' n' c') ∧ w'.cell? ⟨bq, offq + k, none⟩ = some (.slice A2 n2 c2))
                    (first | exact RK6.out | exact RK5.out | exact ⟨q3, q4⟩ | go_keep)
                    (first
                      | (go_at_call 163; refine (C1'.out _ ((Below.refl _ _).drew)).mono ?_; rintro e w5 ⟨rfl, hB5⟩; have hB6 : Below wr.heap.size wr w5 := ((Below.refl _ wr).drew).trans hB5; have RK5 := Lib.hid (HRK.out w5 hB6); have HF5 := Lib.hid (HF.out.below hB6 HF.out.lt); have c5 := (HF5.out.cell k).trans (dcells_at hlt); have f5 := HF5.out.frozen k; have HB5 := Lib.hid hB6; clear hB5 hB6)
                      | (go_at_call 136; refine (C2'.out _ HB5.out).mono ?_; rintro e w6 ⟨rfl, hB6⟩; have hB7 : Below wr.heap.size wr w6 := below_then HB5.out hB6; have RK6 := Lib.hid (HRK.out w6 hB7); have HF6 := Lib.hid (HF.out.below hB7 HF.out.lt); have c6 := (HF6.out.cell k).trans (dcells_at hlt); have f6 := HF6.out.frozen k; have HB6 := Lib.hid hB7; clear hB6 hB7))
                  all_goals
                    go_wp2_with fail
                    go_roundw
                    case rel => exact ⟨m + 1, by omega, by go_num, by have := HF6.out.set_ k (.bool false); rw [HQM.out] at this; exact this, (HBR.out.trans (HB6.out.mono HS.out)).setCell (p := ⟨w1.heap.size, k, none⟩) (Nat.le_refl _) (.bool false)⟩
                    case measure => simp [intOf]; omega
              · rw [decide_eq_false hmk, Bool.false_and, Bool.false_or] at hqm
                have d1 : decide ((m : Int) < (k : Int)) = false := decide_eq_false (by omega)
                have HQM := Lib.hid (dcells_no (p := p) (n := n) (k := k) hqm)
                clear hqm
                go_upto_region 11 with fail
                refine wp_region_held_drew (S := (fun w' => w'.cell? ⟨bq, offq + m, none⟩ = some (.slice A' n' c') ∧ w'.cell? ⟨bq, offq + k, none⟩ = some (.slice A2 n2 c2))) (by kernel_rfl) ?_ (fun hHeld => ?_)
                · first | exact RK5.out | exact ⟨q3, q4⟩ | go_keep
                refine wpAnyH_take (i := 0) (v := ?_) rfl (by kernel_rfl) (by kernel_rfl) (by kernel_rfl) (fun _ _ _ h => h) (Or.inl ⟨by rfl, ?_⟩) (by assumption) ?_
                rotate_left
                · intro w hSw; (try dsimp only at hSw); go_simp <;> with_reducible rfl
                try simp only [List.getElem_toArray, List.getElem_cons_zero, Act.put, List.setIfInBounds_toArray, List.set_cons_zero, List.set_cons_succ]
                refine wpAnyH_take (i := 1) (v := ?_) rfl (by kernel_rfl) (by kernel_rfl) (by kernel_rfl) (fun _ _ _ h => h) (Or.inl ⟨by rfl, ?_⟩) (by assumption) ?_
                rotate_left
                · intro w hSw; (try dsimp only at hSw); go_simp <;> with_reducible rfl
                try simp only [List.getElem_toArray, List.getElem_cons_succ, List.getElem_cons_zero, Act.put, List.setIfInBounds_toArray, List.set_cons_zero, List.set_cons_succ]
                refine wpAnyH_take (i := 2) (v := ?_) rfl (by kernel_rfl) (by kernel_rfl) (by kernel_rfl) (fun _ _ _ h => h) (Or.inl ⟨by rfl, ?_⟩) (by assumption) ?_
                rotate_left
                · intro w hSw; (try dsimp only at hSw); go_simp <;> with_reducible rfl
                try simp only [List.getElem_toArray, List.getElem_cons_succ, List.getElem_cons_zero, Act.put, List.setIfInBounds_toArray, List.set_cons_zero, List.set_cons_succ]
                refine wpAnyH_take (i := 3) (v := ?_) rfl (by kernel_rfl) (by kernel_rfl) (by kernel_rfl) (fun _ _ _ h => h) (Or.inl ⟨by rfl, ?_⟩) (by assumption) ?_
                rotate_left
                · intro w hSw; (try dsimp only at hSw); go_simp <;> with_reducible rfl
                try simp only [List.getElem_toArray, List.getElem_cons_succ, List.getElem_cons_zero, Act.put, List.setIfInBounds_toArray, List.set_cons_zero, List.set_cons_succ]
                refine wpAnyH_take (i := 4) (v := ?_) rfl (by kernel_rfl) (by kernel_rfl) (by kernel_rfl) (fun _ _ _ h => h) (Or.inl ⟨by rfl, ?_⟩) (by assumption) ?_
                rotate_left
                · intro w hSw; (try dsimp only at hSw); go_simp <;> with_reducible rfl
                try simp only [List.getElem_toArray, List.getElem_cons_succ, List.getElem_cons_zero, Act.put, List.setIfInBounds_toArray, List.set_cons_zero, List.set_cons_succ]
                refine wpAnyH_take (i := 5) (v := ?_) rfl (by kernel_rfl) (by kernel_rfl) (by kernel_rfl) (fun _ _ _ h => h) (Or.inl ⟨by rfl, ?_⟩) (by assumption) ?_
                rotate_left
                · intro w hSw; (try dsimp only at hSw); go_simp <;> with_reducible rfl
                try simp only [List.getElem_toArray, List.getElem_cons_succ, List.getElem_cons_zero, Act.put, List.setIfInBounds_toArray, List.set_cons_zero, List.set_cons_succ]
                refine wpAnyH_take (i := 6) (v := ?_) rfl (by kernel_rfl) (by kernel_rfl) (by kernel_rfl) (fun _ _ _ h => h) (Or.inl ⟨by rfl, ?_⟩) (by assumption) ?_
                rotate_left
                · intro w hSw; (try dsimp only at hSw); go_simp <;> with_reducible rfl
                try simp only [List.getElem_toArray, List.getElem_cons_succ, List.getElem_cons_zero, Act.put, List.setIfInBounds_toArray, List.set_cons_zero, List.set_cons_succ]
                refine wpAnyH_take (i := 7) (v := ?_) rfl (by kernel_rfl) (by kernel_rfl) (by kernel_rfl) (fun _ _ _ h => h) (Or.inl ⟨by rfl, ?_⟩) (by assumption) ?_
                rotate_left
                · intro w hSw; (try dsimp only at hSw); go_simp <;> with_reducible rfl
                try simp only [List.getElem_toArray, List.getElem_cons_succ, List.getElem_cons_zero, Act.put, List.setIfInBounds_toArray, List.set_cons_zero, List.set_cons_succ]
                refine wpAnyH_take (i := 8) (v := ?_) rfl (by kernel_rfl) (by kernel_rfl) (by kernel_rfl) (fun _ _ _ h => h) (Or.inl ⟨by rfl, ?_⟩) (by assumption) ?_
                rotate_left
                · intro w hSw; (try dsimp only at hSw); go_simp <;> with_reducible rfl
                try simp only [List.getElem_toArray, List.getElem_cons_succ, List.getElem_cons_zero, Act.put, List.setIfInBounds_toArray, List.set_cons_zero, List.set_cons_succ]
                refine wpAnyH_ready (rs := [9]) (by kernel_rfl) (by simp) (AllReadyH.cons rfl (fun K hK => ?_) AllReadyH.nil)
                go_simp
                (go_at_call 163; refine (C1'.out _ ((Below.refl _ _).drew)).mono ?_; rintro e w5 ⟨rfl, hB5⟩; have hB6 : Below wr.heap.size wr w5 := ((Below.refl _ wr).drew).trans hB5; have RK5 := Lib.hid (HRK.out w5 hB6); have HF5 := Lib.hid (HF.out.below hB6 HF.out.lt); have c5 := (HF5.out.cell k).trans (dcells_at hlt); have f5 := HF5.out.frozen k; have HB5 := Lib.hid hB6; clear hB5 hB6)
                try go_wp2_with fail
                refine hK.out _ _ ?_ (fun hHeld => ?_)
                · first | exact RK5.out | exact ⟨q3, q4⟩ | go_keep
                clear hK K
                try simp only [List.getElem_toArray, List.getElem_cons_succ, List.getElem_cons_zero, Act.put, List.setIfInBounds_toArray, List.set_cons_zero, List.set_cons_succ]
                refine wpAnyH_take (i := 10) (v := ?_) rfl (by kernel_rfl) (by kernel_rfl) (by kernel_rfl) (fun _ _ _ h => h) (Or.inl ⟨by rfl, ?_⟩) (by assumption) ?_
                rotate_left
                · intro w hSw; (try dsimp only at hSw); go_simp <;> with_reducible rfl
                try simp only [List.getElem_toArray, List.getElem_cons_succ, List.getElem_cons_zero, Act.put, List.setIfInBounds_toArray, List.set_cons_zero, List.set_cons_succ]
                refine wpAnyH_take (i := 11) (v := ?_) rfl (by kernel_rfl) (by kernel_rfl) (by kernel_rfl) (fun _ _ _ h => h) (Or.inl ⟨by rfl, ?_⟩) (by assumption) ?_
                rotate_left
                · intro w hSw; (try dsimp only at hSw); go_simp <;> with_reducible rfl
                try simp only [List.getElem_toArray, List.getElem_cons_succ, List.getElem_cons_zero, Act.put, List.setIfInBounds_toArray, List.set_cons_zero, List.set_cons_succ]
                refine wpAnyH_take (i := 12) (v := ?_) rfl (by kernel_rfl) (by kernel_rfl) (by kernel_rfl) (fun _ _ _ h => h) (Or.inl ⟨by rfl, ?_⟩) (by assumption) ?_
                rotate_left
                · intro w hSw; (try dsimp only at hSw); go_simp <;> with_reducible rfl
                try simp only [List.getElem_toArray, List.getElem_cons_succ, List.getElem_cons_zero, Act.put, List.setIfInBounds_toArray, List.set_cons_zero, List.set_cons_succ]
                refine wpAnyH_take (i := 13) (v := ?_) rfl (by kernel_rfl) (by kernel_rfl) (by kernel_rfl) (fun _ _ _ h => h) (Or.inl ⟨by rfl, ?_⟩) (by assumption) ?_
                rotate_left
                · intro w hSw; (try dsimp only at hSw); go_simp <;> with_reducible rfl
                try simp only [List.getElem_toArray, List.getElem_cons_succ, List.getElem_cons_zero, Act.put, List.setIfInBounds_toArray, List.set_cons_zero, List.set_cons_succ]
                refine wpAnyH_take (i := 14) (v := ?_) rfl (by kernel_rfl) (by kernel_rfl) (by kernel_rfl) (fun _ _ _ h => h) (Or.inl ⟨by rfl, ?_⟩) (by assumption) ?_
                rotate_left
                · intro w hSw; (try dsimp only at hSw); go_simp <;> with_reducible rfl
                try simp only [List.getElem_toArray, List.getElem_cons_succ, List.getElem_cons_zero, Act.put, List.setIfInBounds_toArray, List.set_cons_zero, List.set_cons_succ]
                refine wpAnyH_take (i := 15) rfl (by kernel_rfl) (by kernel_rfl) (by kernel_rfl) (fun _ _ _ h => h) (Or.inr ⟨by rfl, rfl⟩) (by assumption) ?_
                simp only [List.getElem_toArray, List.getElem_cons_succ, List.getElem_cons_zero, Act.put, List.setIfInBounds_toArray, List.set_cons_zero, List.set_cons_succ]
                refine wpAnyH_take (i := 16) rfl (by kernel_rfl) (by kernel_rfl) (by kernel_rfl) (fun _ _ _ h => h) (Or.inr ⟨by rfl, rfl⟩) (by assumption) ?_
                simp only [List.getElem_toArray, List.getElem_cons_succ, List.getElem_cons_zero, Act.put, List.setIfInBounds_toArray, List.set_cons_zero, List.set_cons_succ]
                refine wpAnyH_take (i := 17) rfl (by kernel_rfl) (by kernel_rfl) (by kernel_rfl) (fun _ _ _ h => h) (Or.inr ⟨by rfl, rfl⟩) (by assumption) ?_
                simp only [List.getElem_toArray, List.getElem_cons_succ, List.getElem_cons_zero, Act.put, List.setIfInBounds_toArray, List.set_cons_zero, List.set_cons_succ]
                refine wpAnyH_take (i := 18) rfl (by kernel_rfl) (by kernel_rfl) (by kernel_rfl) (fun _ _ _ h => h) (Or.inr ⟨by rfl, rfl⟩) (by assumption) ?_
                simp only [List.getElem_toArray, List.getElem_cons_succ, List.getElem_cons_zero, Act.put, List.setIfInBounds_toArray, List.set_cons_zero, List.set_cons_succ]
                refine wpAnyH_take (i := 19) rfl (by kernel_rfl) (by kernel_rfl) (by kernel_rfl) (fun _ _ _ h => h) (Or.inr ⟨by rfl, rfl⟩) (by assumption) ?_
                simp only [List.getElem_toArray, List.getElem_cons_succ, List.getElem_cons_zero, Act.put, List.setIfInBounds_toArray, List.set_cons_zero, List.set_cons_succ]
                refine wpAnyH_take (i := 20) rfl (by kernel_rfl) (by kernel_rfl) (by kernel_rfl) (fun _ _ _ h => h) (Or.inr ⟨by rfl, rfl⟩) (by assumption) ?_
                simp only [List.getElem_toArray, List.getElem_cons_succ, List.getElem_cons_zero, Act.put, List.setIfInBounds_toArray, List.set_cons_zero, List.set_cons_succ]
                refine wpAnyH_take (i := 21) rfl (by kernel_rfl) (by kernel_rfl) (by kernel_rfl) (fun _ _ _ h => h) (Or.inr ⟨by rfl, rfl⟩) (by assumption) ?_
                simp only [List.getElem_toArray, List.getElem_cons_succ, List.getElem_cons_zero, Act.put, List.setIfInBounds_toArray, List.set_cons_zero, List.set_cons_succ]
                refine wpAnyH_take (i := 22) rfl (by kernel_rfl) (by kernel_rfl) (by kernel_rfl) (fun _ _ _ h => h) (Or.inr ⟨by rfl, rfl⟩) (by assumption) ?_
                simp only [List.getElem_toArray, List.getElem_cons_succ, List.getElem_cons_zero, Act.put, List.setIfInBounds_toArray, List.set_cons_zero, List.set_cons_succ]
                refine wpAnyH_take (i := 23) rfl (by kernel_rfl) (by kernel_rfl) (by kernel_rfl) (fun _ _ _ h => h) (Or.inr ⟨by rfl, rfl⟩) (by assumption) ?_
                simp only [List.getElem_toArray, List.getElem_cons_succ, List.getElem_cons_zero, Act.put, List.setIfInBounds_toArray, List.set_cons_zero, List.set_cons_succ]
                refine wpAnyH_take (i := 24) (v := ?_) rfl (by kernel_rfl) (by kernel_rfl) (by kernel_rfl) (fun _ _ _ h => h) (Or.inl ⟨by rfl, ?_⟩) (by assumption) ?_
                rotate_left
                · intro w hSw; (try dsimp only at hSw); go_simp <;> with_reducible rfl
                try simp only [List.getElem_toArray, List.getElem_cons_succ, List.getElem_cons_zero, Act.put, List.setIfInBounds_toArray, List.set_cons_zero, List.set_cons_succ]
                refine wpAnyH_take (i := 25) (v := ?_) rfl (by kernel_rfl) (by kernel_rfl) (by kernel_rfl) (fun _ _ _ h => h) (Or.inl ⟨by rfl, ?_⟩) (by assumption) ?_
                rotate_left
                · intro w hSw; (try dsimp only at hSw); go_simp <;> with_reducible rfl
                try simp only [List.getElem_toArray, List.getElem_cons_succ, List.getElem_cons_zero, Act.put, List.setIfInBounds_toArray, List.set_cons_zero, List.set_cons_succ]
                refine wpAnyH_done (by kernel_rfl) ?_ _
                all_goals
                  go_wp2_with fail
                  go_roundw
                  case rel => exact ⟨m + 1, by omega, by go_num, by rw [HQM.out]; exact HF5.out, HBR.out.trans (HB5.out.mono HS.out)⟩
                  case measure => simp [intOf]; omega
            · rw [Bool.true_or] at hqm
              have HQM := Lib.hid (dcells_yes (p := p) (n := n) (k := k) hqm)
              clear hqm
              go_upto_region 11 with fail
              refine wp_region_held_drew (S := (fun w' => w'.cell? ⟨bq, offq + m, none⟩ = some (.slice A' n' c') ∧ w'.cell? ⟨bq, offq + k, none⟩ = some (.slice A2 n2 c2))) (by kernel_rfl) ?_ (fun hHeld => ?_)
              · first | exact RK5.out | exact ⟨q3, q4⟩ | go_keep
              refine wpAnyH_take (i := 0) (v := ?_) rfl (by kernel_rfl) (by kernel_rfl) (by kernel_rfl) (fun _ _ _ h => h) (Or.inl ⟨by rfl, ?_⟩) (by assumption) ?_
              rotate_left
              · intro w hSw; (try dsimp only at hSw); go_simp <;> with_reducible rfl
              try simp only [List.getElem_toArray, List.getElem_cons_zero, Act.put, List.setIfInBounds_toArray, List.set_cons_zero, List.set_cons_succ]
              refine wpAnyH_take (i := 1) (v := ?_) rfl (by kernel_rfl) (by kernel_rfl) (by kernel_rfl) (fun _ _ _ h => h) (Or.inl ⟨by rfl, ?_⟩) (by assumption) ?_
              rotate_left
              · intro w hSw; (try dsimp only at hSw); go_simp <;> with_reducible rfl
              try simp only [List.getElem_toArray, List.getElem_cons_succ, List.getElem_cons_zero, Act.put, List.setIfInBounds_toArray, List.set_cons_zero, List.set_cons_succ]
              refine wpAnyH_take (i := 2) (v := ?_) rfl (by kernel_rfl) (by kernel_rfl) (by kernel_rfl) (fun _ _ _ h => h) (Or.inl ⟨by rfl, ?_⟩) (by assumption) ?_
              rotate_left
              · intro w hSw; (try dsimp only at hSw); go_simp <;> with_reducible rfl
              try simp only [List.getElem_toArray, List.getElem_cons_succ, List.getElem_cons_zero, Act.put, List.setIfInBounds_toArray, List.set_cons_zero, List.set_cons_succ]
              refine wpAnyH_take (i := 3) (v := ?_) rfl (by kernel_rfl) (by kernel_rfl) (by kernel_rfl) (fun _ _ _ h => h) (Or.inl ⟨by rfl, ?_⟩) (by assumption) ?_
              rotate_left
              · intro w hSw; (try dsimp only at hSw); go_simp <;> with_reducible rfl
              try simp only [List.getElem_toArray, List.getElem_cons_succ, List.getElem_cons_zero, Act.put, List.setIfInBounds_toArray, List.set_cons_zero, List.set_cons_succ]
              refine wpAnyH_take (i := 4) (v := ?_) rfl (by kernel_rfl) (by kernel_rfl) (by kernel_rfl) (fun _ _ _ h => h) (Or.inl ⟨by rfl, ?_⟩) (by assumption) ?_
              rotate_left
              · intro w hSw; (try dsimp only at hSw); go_simp <;> with_reducible rfl
              try simp only [List.getElem_toArray, List.getElem_cons_succ, List.getElem_cons_zero, Act.put, List.setIfInBounds_toArray, List.set_cons_zero, List.set_cons_succ]
              refine wpAnyH_take (i := 5) (v := ?_) rfl (by kernel_rfl) (by kernel_rfl) (by kernel_rfl) (fun _ _ _ h => h) (Or.inl ⟨by rfl, ?_⟩) (by assumption) ?_
              rotate_left
              · intro w hSw; (try dsimp only at hSw); go_simp <;> with_reducible rfl
              try simp only [List.getElem_toArray, List.getElem_cons_succ, List.getElem_cons_zero, Act.put, List.setIfInBounds_toArray, List.set_cons_zero, List.set_cons_succ]
              refine wpAnyH_take (i := 6) (v := ?_) rfl (by kernel_rfl) (by kernel_rfl) (by kernel_rfl) (fun _ _ _ h => h) (Or.inl ⟨by rfl, ?_⟩) (by assumption) ?_
              rotate_left
              · intro w hSw; (try dsimp only at hSw); go_simp <;> with_reducible rfl
              try simp only [List.getElem_toArray, List.getElem_cons_succ, List.getElem_cons_zero, Act.put, List.setIfInBounds_toArray, List.set_cons_zero, List.set_cons_succ]
              refine wpAnyH_take (i := 7) (v := ?_) rfl (by kernel_rfl) (by kernel_rfl) (by kernel_rfl) (fun _ _ _ h => h) (Or.inl ⟨by rfl, ?_⟩) (by assumption) ?_
              rotate_left
              · intro w hSw; (try dsimp only at hSw); go_simp <;> with_reducible rfl
              try simp only [List.getElem_toArray, List.getElem_cons_succ, List.getElem_cons_zero, Act.put, List.setIfInBounds_toArray, List.set_cons_zero, List.set_cons_succ]
              refine wpAnyH_take (i := 8) (v := ?_) rfl (by kernel_rfl) (by kernel_rfl) (by kernel_rfl) (fun _ _ _ h => h) (Or.inl ⟨by rfl, ?_⟩) (by assumption) ?_
              rotate_left
              · intro w hSw; (try dsimp only at hSw); go_simp <;> with_reducible rfl
              try simp only [List.getElem_toArray, List.getElem_cons_succ, List.getElem_cons_zero, Act.put, List.setIfInBounds_toArray, List.set_cons_zero, List.set_cons_succ]
              refine wpAnyH_ready (rs := [9]) (by kernel_rfl) (by simp) (AllReadyH.cons rfl (fun K hK => ?_) AllReadyH.nil)
              go_simp
              (go_at_call 163; refine (C1'.out _ ((Below.refl _ _).drew)).mono ?_; rintro e w5 ⟨rfl, hB5⟩; have hB6 : Below wr.heap.size wr w5 := ((Below.refl _ wr).drew).trans hB5; have RK5 := Lib.hid (HRK.out w5 hB6); have HF5 := Lib.hid (HF.out.below hB6 HF.out.lt); have c5 := (HF5.out.cell k).trans (dcells_at hlt); have f5 := HF5.out.frozen k; have HB5 := Lib.hid hB6; clear hB5 hB6)
              try go_wp2_with fail
              refine hK.out _ _ ?_ (fun hHeld => ?_)
              · first | exact RK5.out | exact ⟨q3, q4⟩ | go_keep
              clear hK K
              try simp only [List.getElem_toArray, List.getElem_cons_succ, List.getElem_cons_zero, Act.put, List.setIfInBounds_toArray, List.set_cons_zero, List.set_cons_succ]
              refine wpAnyH_take (i := 10) (v := ?_) rfl (by kernel_rfl) (by kernel_rfl) (by kernel_rfl) (fun _ _ _ h => h) (Or.inl ⟨by rfl, ?_⟩) (by assumption) ?_
              rotate_left
              · intro w hSw; (try dsimp only at hSw); go_simp <;> with_reducible rfl
              try simp only [List.getElem_toArray, List.getElem_cons_succ, List.getElem_cons_zero, Act.put, List.setIfInBounds_toArray, List.set_cons_zero, List.set_cons_succ]
              refine wpAnyH_take (i := 11) rfl (by kernel_rfl) (by kernel_rfl) (by kernel_rfl) (fun _ _ _ h => h) (Or.inr ⟨by rfl, rfl⟩) (by assumption) ?_
              simp only [List.getElem_toArray, List.getElem_cons_succ, List.getElem_cons_zero, Act.put, List.setIfInBounds_toArray, List.set_cons_zero, List.set_cons_succ]
              refine wpAnyH_take (i := 12) rfl (by kernel_rfl) (by kernel_rfl) (by kernel_rfl) (fun _ _ _ h => h) (Or.inr ⟨by rfl, rfl⟩) (by assumption) ?_
              simp only [List.getElem_toArray, List.getElem_cons_succ, List.getElem_cons_zero, Act.put, List.setIfInBounds_toArray, List.set_cons_zero, List.set_cons_succ]
              refine wpAnyH_take (i := 13) rfl (by kernel_rfl) (by kernel_rfl) (by kernel_rfl) (fun _ _ _ h => h) (Or.inr ⟨by rfl, rfl⟩) (by assumption) ?_
              simp only [List.getElem_toArray, List.getElem_cons_succ, List.getElem_cons_zero, Act.put, List.setIfInBounds_toArray, List.set_cons_zero, List.set_cons_succ]
              refine wpAnyH_take (i := 14) rfl (by kernel_rfl) (by kernel_rfl) (by kernel_rfl) (fun _ _ _ h => h) (Or.inr ⟨by rfl, rfl⟩) (by assumption) ?_
              simp only [List.getElem_toArray, List.getElem_cons_succ, List.getElem_cons_zero, Act.put, List.setIfInBounds_toArray, List.set_cons_zero, List.set_cons_succ]
              refine wpAnyH_take (i := 15) rfl (by kernel_rfl) (by kernel_rfl) (by kernel_rfl) (fun _ _ _ h => h) (Or.inr ⟨by rfl, rfl⟩) (by assumption) ?_
              simp only [List.getElem_toArray, List.getElem_cons_succ, List.getElem_cons_zero, Act.put, List.setIfInBounds_toArray, List.set_cons_zero, List.set_cons_succ]
              refine wpAnyH_take (i := 16) rfl (by kernel_rfl) (by kernel_rfl) (by kernel_rfl) (fun _ _ _ h => h) (Or.inr ⟨by rfl, rfl⟩) (by assumption) ?_
              simp only [List.getElem_toArray, List.getElem_cons_succ, List.getElem_cons_zero, Act.put, List.setIfInBounds_toArray, List.set_cons_zero, List.set_cons_succ]
              refine wpAnyH_take (i := 17) rfl (by kernel_rfl) (by kernel_rfl) (by kernel_rfl) (fun _ _ _ h => h) (Or.inr ⟨by rfl, rfl⟩) (by assumption) ?_
              simp only [List.getElem_toArray, List.getElem_cons_succ, List.getElem_cons_zero, Act.put, List.setIfInBounds_toArray, List.set_cons_zero, List.set_cons_succ]
              refine wpAnyH_take (i := 18) rfl (by kernel_rfl) (by kernel_rfl) (by kernel_rfl) (fun _ _ _ h => h) (Or.inr ⟨by rfl, rfl⟩) (by assumption) ?_
              simp only [List.getElem_toArray, List.getElem_cons_succ, List.getElem_cons_zero, Act.put, List.setIfInBounds_toArray, List.set_cons_zero, List.set_cons_succ]
              refine wpAnyH_take (i := 19) rfl (by kernel_rfl) (by kernel_rfl) (by kernel_rfl) (fun _ _ _ h => h) (Or.inr ⟨by rfl, rfl⟩) (by assumption) ?_
              simp only [List.getElem_toArray, List.getElem_cons_succ, List.getElem_cons_zero, Act.put, List.setIfInBounds_toArray, List.set_cons_zero, List.set_cons_succ]
              refine wpAnyH_take (i := 20) rfl (by kernel_rfl) (by kernel_rfl) (by kernel_rfl) (fun _ _ _ h => h) (Or.inr ⟨by rfl, rfl⟩) (by assumption) ?_
              simp only [List.getElem_toArray, List.getElem_cons_succ, List.getElem_cons_zero, Act.put, List.setIfInBounds_toArray, List.set_cons_zero, List.set_cons_succ]
              refine wpAnyH_take (i := 21) rfl (by kernel_rfl) (by kernel_rfl) (by kernel_rfl) (fun _ _ _ h => h) (Or.inr ⟨by rfl, rfl⟩) (by assumption) ?_
              simp only [List.getElem_toArray, List.getElem_cons_succ, List.getElem_cons_zero, Act.put, List.setIfInBounds_toArray, List.set_cons_zero, List.set_cons_succ]
              refine wpAnyH_take (i := 22) rfl (by kernel_rfl) (by kernel_rfl) (by kernel_rfl) (fun _ _ _ h => h) (Or.inr ⟨by rfl, rfl⟩) (by assumption) ?_
              simp only [List.getElem_toArray, List.getElem_cons_succ, List.getElem_cons_zero, Act.put, List.setIfInBounds_toArray, List.set_cons_zero, List.set_cons_succ]
              refine wpAnyH_take (i := 23) rfl (by kernel_rfl) (by kernel_rfl) (by kernel_rfl) (fun _ _ _ h => h) (Or.inr ⟨by rfl, rfl⟩) (by assumption) ?_
              simp only [List.getElem_toArray, List.getElem_cons_succ, List.getElem_cons_zero, Act.put, List.setIfInBounds_toArray, List.set_cons_zero, List.set_cons_succ]
              refine wpAnyH_take (i := 24) rfl (by kernel_rfl) (by kernel_rfl) (by kernel_rfl) (fun _ _ _ h => h) (Or.inr ⟨by rfl, rfl⟩) (by assumption) ?_
              simp only [List.getElem_toArray, List.getElem_cons_succ, List.getElem_cons_zero, Act.put, List.setIfInBounds_toArray, List.set_cons_zero, List.set_cons_succ]
              refine wpAnyH_take (i := 25) (v := ?_) rfl (by kernel_rfl) (by kernel_rfl) (by kernel_rfl) (fun _ _ _ h => h) (Or.inl ⟨by rfl, ?_⟩) (by assumption) ?_
              rotate_left
              · intro w hSw; (try dsimp only at hSw); go_simp <;> with_reducible rfl
              try simp only [List.getElem_toArray, List.getElem_cons_succ, List.getElem_cons_zero, Act.put, List.setIfInBounds_toArray, List.set_cons_zero, List.set_cons_succ]
              refine wpAnyH_done (by kernel_rfl) ?_ _
              all_goals
                go_wp2_with fail
                go_roundw
                case rel => exact ⟨m + 1, by omega, by go_num, by have := HF5.out.set_ k (.bool false); rw [HQM.out] at this; exact this, (HBR.out.trans (HB5.out.mono HS.out)).setCell (p := ⟨w1.heap.size, k, none⟩) (Nat.le_refl _) (.bool false)⟩
                case measure => simp [intOf]; omega
          · obtain rfl : m = n := by omega
            have HFN := Lib.hid (show Blk wr w1.heap.size 4 (bcells p m (k + 1)) by
              have hpk : p k = !anyB q m := by rw [← HP.out, ← HQ.out]; exact basP_is ss tt m k
              rw [← bcells_set p hlt, hpk]; exact hF)
            have HBN := Lib.hid hBr
            clear hF hBr hBw
            go_wp2
            go_roundw
            case rel => exact ⟨k + 1, by omega, by go_num, HFN.out, HBN.out⟩
            case measure => simp [intOf]; omega
      · obtain rfl : k = n := by omega
        have CF := Lib.hid (refChosen_any w1.heap.size k k p wr hF hn)
        have HBW := Lib.hid hBw
        clear hF hBr hBw
        go_wp2_with (go_at_call 130; refine CF.out.mono ?_; rintro e w6 ⟨v, base, rfl, hb6, hrow, hB6⟩; obtain ⟨A6, c6, rfl, hI6, hk6⟩ := row_intsk hrow HN.out; have HB6 := Lib.hid (below_then HBW.out hB6); have HI6 := Lib.hid hI6; have HK6 := Lib.hid hk6; clear hb6 hrow hB6 hI6 hk6)
        go_ret2
        exact ⟨A6, _, c6, rfl, HI6.out, HK6.out, HB6.out⟩

end Go.Proofs.Ytgbfccbnbgbknaa

namespace Go.Proofs.Ytgbfccbnbgbknaa
open Go.RowKit

theorem any_succ {xs : List Int} {q : Int → Bool} {k : Nat} (h : k < xs.length) : (xs.take (k + 1)).any q = ((xs.take k).any q || q xs[k]) := by
  rw [List.take_succ_eq_append_getElem h, List.any_append]
  simp

set_option maxRecDepth 100000 in
set_option maxHeartbeats 4000000 in
theorem rIsBase_any (As At Ab : Option Addr) (ns cs n c nb cb : Nat) (ss : Sg) (ls : List Hd) (tt : List (List Int)) (xs : List Int) (w : World)
    (hs : SigAt w w.heap.size As ns ss) (ht : TermsAt w w.heap.size At n ls tt) (hx : IntsAt w w.heap.size Ab nb xs) (hn : n ≤ 1000000) (hcap : ∀ x ∈ ls, capOk x) :
    Calls Try.prog 92 #[.slice As ns cs, .slice At n c, .slice Ab nb cb] w fun e w' => e = .returned (.bool (isbB ss tt xs)) ∧ Below w.heap.size w w' := by
  have C1 := Lib.hid (refValid5_any As At ns cs n c ss ls tt w _ hs ht hn)
  have htl := ht.len
  have hmx := hx.max
  obtain ⟨R, hR⟩ : ∃ R, isbB ss tt xs = R := ⟨_, rfl⟩
  rw [hR]
  have HR := Lib.hid hR
  cases h1 : shOk ss tt
  · have H := Lib.hid (show R = false by rw [← HR.out]; unfold isbB; rw [h1]; rfl)
    rw [h1] at C1
    clear hs ht hx hn hcap h1 htl hR
    go_enter Try.func92, Try.ntmps92
    go_wp2_with (go_at_call 60; refine C1.out.mono ?_; rintro e w1 ⟨rfl, k1, rfl⟩)
    go_ret
    exact ⟨ret_b H.out.symm, below_drewN (Below.refl _ _) _⟩
  · rw [h1] at C1
    have hsl := shOk_len h1
    have H1 := Lib.hid h1
    have HX := Lib.hid hx
    have HXL := Lib.hid hx.len
    have HT := Lib.hid ht
    have HTL := Lib.hid htl
    have HCAP := Lib.hid hcap
    have CI := Lib.hid (fun (V : World) (m : Nat) (A' : Option Addr) (n' c' : Nat) (k : Nat) (A2 : Option Addr) (n2 c2 : Nat) (hV : Below w.heap.size w V) (hk : ls[m]? = some (A', n', c')) (hk2 : ls[k]? = some (A2, n2, c2)) =>
      show Calls Try.prog 43 #[.slice As ns cs, .slice A' n' c', .slice A2 n2 c2] V fun e w' => e = .returned (.bool (insB ss (tt.getD m []) (tt.getD k []))) ∧ Below V.heap.size V w' from by
        obtain ⟨t, ht1, ht2, hI⟩ := ht.at hk
        obtain ⟨t2, ht3, ht4, hI2⟩ := ht.at hk2
        rw [ht2, ht4]
        exact refInstance_any As A' A2 ns cs n' c' n2 c2 ss t t2 V (hs.up hV) ((hI.below hV).more hV.size) ((hI2.below hV).more hV.size) (cap_at hcap hk2).1 (cap_at hcap hk2).2)
    clear hs ht hx hcap h1 htl hR
    go_enter Try.func92, Try.ntmps92
    go_wp2_with (go_at_call 60; refine C1.out.mono ?_; rintro e w1 ⟨rfl, k1, hw1⟩; have HB1 := Lib.hid (show Below w.heap.size w w1 from by rw [hw1]; exact below_drewN (Below.refl _ _) _); clear hw1)
    go_loopw [7] (fun i wr => ∃ k q : Nat, k ≤ nb ∧ i = .int .i64 k ∧ AscP xs n k ∧ wr = w1.drewN q) (fun i _ => nb - (intOf i).toNat)
    case atStart => exact ⟨0, 0, Nat.zero_le _, rfl, fun j hj => absurd hj (by omega), rfl⟩
    case round =>
      obtain ⟨k, q, hk, rfl, hA, hwr⟩ := hrel
      have HBR := Lib.hid (show Below w.heap.size w wr by rw [hwr]; exact below_drewN HB1.out _)
      by_cases hlt : k < nb
      · obtain ⟨bx, ox, rfl, hbx, hcx⟩ := HX.out.mem (by omega)
        have hkx : k < xs.length := by rw [← HXL.out]; exact hlt
        have cz : wr.cell? ⟨bx, ox + k, none⟩ = some (.int .i64 xs[k]) := (HBR.out.cell (p := ⟨bx, ox + k, none⟩) hbx).trans (hcx k hkx)
        obtain ⟨z, hz⟩ : ∃ z, xs[k] = z := ⟨_, rfl⟩
        rw [hz] at cz
        have hget : xs.getD k 0 = z := by rw [List.getD_eq_getElem?_getD, List.getElem?_eq_getElem hkx]; exact hz
        have hk0 : (0 : Int) ≤ (k : Int) := by omega
        have hk1 : (k : Int) < (nb : Int) := by omega
        have CW := Lib.hid (fun V => within5_any z 0 ((n : Int) - 1) V)
        have HA := Lib.hid hA
        have HW := Lib.hid hwr
        clear hA hwr
        by_cases hzr : 0 ≤ z ∧ z < (n : Int)
        · rw [show (decide ((0 : Int) ≤ z) && decide (z ≤ (n : Int) - 1)) = true by rw [decide_eq_true (by omega), decide_eq_true (by omega)]; rfl] at CW
          by_cases hkp : 0 < k
          · have cy : wr.cell? ⟨bx, ox + (k - 1), none⟩ = some (.int .i64 (xs[k - 1]'(by omega))) := (HBR.out.cell (p := ⟨bx, ox + (k - 1), none⟩) hbx).trans (hcx (k - 1) (by omega))
            obtain ⟨y, hy⟩ : ∃ y, xs[k - 1]'(by omega) = y := ⟨_, rfl⟩
            rw [hy] at cy
            have hgy : xs.getD (k - 1) 0 = y := by rw [List.getD_eq_getElem?_getD, List.getElem?_eq_getElem (show k - 1 < xs.length by omega)]; exact hy
            have d1 : decide ((0 : Int) < (k : Int)) = true := decide_eq_true (by omega)
            have hki : ((k : Int) - 1) = ((k - 1 : Nat) : Int) := by omega
            have hj0 : (0 : Int) ≤ ((k - 1 : Nat) : Int) := by omega
            have hj1 : ((k - 1 : Nat) : Int) < (nb : Int) := by omega
            by_cases hyz : y < z
            · have d2 : decide (z ≤ y) = false := decide_eq_false (by omega)
              have H := Lib.hid (asc_succ HA.out (by rw [hget]; omega) (by rw [hget]; omega) (fun _ => by rw [hget, hgy]; exact hyz))
              clear hz hget hy hgy hcx
              go_wp2_with fail
              go_quiet ((go_at_call 131; with_reducible exact quiet_same2 (CW.out _)))
              all_goals
                go_wp2_with fail
                go_roundw
                case rel => exact ⟨k + 1, _, by omega, by go_num, H.out, by rw [HW.out, World.drewN_drewN]⟩
                case measure => simp [intOf]; omega
            · have d2 : decide (z ≤ y) = true := decide_eq_true (by omega)
              have H := Lib.hid (show R = false by
                rw [← HR.out]
                unfold isbB
                rw [show decide (AscP xs tt.length xs.length) = false from decide_eq_false fun h => by
                  have h3 := (h k hkx).2.2 hkp
                  rw [hget, hgy] at h3
                  exact hyz h3]
                simp)
              clear hz hget hy hgy hcx
              go_wp2_with fail
              go_quiet ((go_at_call 131; with_reducible exact quiet_same2 (CW.out _)))
              all_goals
                go_wp2_with fail
                go_ret
                exact ⟨ret_b H.out.symm, below_drewN HBR.out _⟩
          · have d1 : decide ((0 : Int) < (k : Int)) = false := decide_eq_false (by omega)
            have H := Lib.hid (asc_succ HA.out (by rw [hget]; omega) (by rw [hget]; omega) (fun h => absurd h hkp))
            clear hz hget hcx
            go_wp2_with fail
            go_quiet ((go_at_call 131; with_reducible exact quiet_same2 (CW.out _)))
            all_goals
              go_wp2_with fail
              go_roundw
              case rel => exact ⟨k + 1, _, by omega, by go_num, H.out, by rw [HW.out, World.drewN_drewN]⟩
              case measure => simp [intOf]; omega
        · rw [show (decide ((0 : Int) ≤ z) && decide (z ≤ (n : Int) - 1)) = false by
            rw [Bool.and_eq_false_iff, decide_eq_false_iff_not, decide_eq_false_iff_not]; omega] at CW
          have H := Lib.hid (show R = false by
            rw [← HR.out]
            unfold isbB
            rw [show decide (AscP xs tt.length xs.length) = false from decide_eq_false fun h => by
              have h3 := h k hkx
              rw [hget, ← HTL.out] at h3
              exact hzr ⟨h3.1, h3.2.1⟩]
            simp)
          clear hz hget hcx
          go_wp2_with fail
          go_quiet ((go_at_call 131; with_reducible exact quiet_same2 (CW.out _)))
          all_goals
            go_wp2_with fail
            go_ret
            exact ⟨ret_b H.out.symm, below_drewN HBR.out _⟩
      · obtain rfl : k = nb := by omega
        have HASC := Lib.hid (show AscP xs n xs.length by rw [← HXL.out]; exact hA)
        have HRR := Lib.hid (show R = tt.all fun t => xs.any fun z => insB ss (tt.getD z.toNat []) t by
          rw [← HR.out]; unfold isbB; rw [H1.out, ← HTL.out, decide_eq_true HASC.out]; simp)
        obtain ⟨W5, hW5⟩ : ∃ W5, wr = W5 := ⟨_, rfl⟩
        rw [hW5] at HBR ⊢
        clear hA hwr hW5
        go_wp2
        go_loopw [8] (fun i wv => ∃ m : Nat, m ≤ n ∧ i = .int .i64 m ∧ (tt.take m).all (fun t => xs.any fun z => insB ss (tt.getD z.toNat []) t) = true ∧ Below w.heap.size w wv) (fun i _ => n - (intOf i).toNat)
        case atStart => exact ⟨0, Nat.zero_le _, rfl, by simp, HBR.out⟩
        case round =>
          obtain ⟨m, hm, rfl, hA, hBm⟩ := hrel
          by_cases hmn : m < n
          · obtain ⟨b, off, A', n', c', rfl, hb, p1, p2⟩ := HT.out.hds.cellAt hmn
            obtain ⟨t, ht1, ht2, _⟩ := HT.out.at p2
            have HA := Lib.hid hA
            have HBM := Lib.hid hBm
            have HSUC := Lib.hid (all_succ (q := fun t => xs.any fun z => insB ss (tt.getD z.toNat []) t) ht1)
            have HT1 := Lib.hid ht1
            have HT2 := Lib.hid ht2
            have HP1 := Lib.hid p1
            have HP2 := Lib.hid p2
            have hm0 : (0 : Int) ≤ (m : Int) := by omega
            have hm1 : (m : Int) < (n : Int) := by omega
            obtain ⟨W6, hW6⟩ : ∃ W6, wr = W6 := ⟨_, rfl⟩
            rw [hW6] at HBM ⊢
            clear hA hBm hW6 ht1 ht2 p1 p2
            go_wp2
            go_loopw [9, 10] (fun f j wv => ∃ l : Nat, l ≤ k ∧ j = .int .i64 l ∧ f = .bool ((xs.take l).any fun z => insB ss (tt.getD z.toNat []) t) ∧ Below w.heap.size w wv) (fun _ j _ => k - (intOf j).toNat)
            case atStart => exact ⟨0, Nat.zero_le _, rfl, rfl, HBM.out⟩
            case round =>
              obtain ⟨l, hl, rfl, rfl, hBl⟩ := hrel
              by_cases hlk : l < k
              · have hlx : l < xs.length := by rw [← HXL.out]; exact hlk
                obtain ⟨bx, ox, rfl, hbx, hcx⟩ := HX.out.mem (by omega)
                have hasc := HASC.out l hlx
                rw [List.getD_eq_getElem?_getD, List.getElem?_eq_getElem hlx, Option.getD_some] at hasc
                have cz : wr.cell? ⟨bx, ox + l, none⟩ = some (.int .i64 xs[l]) := (hBl.cell (p := ⟨bx, ox + l, none⟩) hbx).trans (hcx l hlx)
                have HSL := Lib.hid (any_succ (q := fun z => insB ss (tt.getD z.toNat []) t) hlx)
                obtain ⟨zk, hzk⟩ : ∃ zk : Nat, xs[l] = (zk : Int) := ⟨xs[l].toNat, by omega⟩
                rw [hzk] at cz hasc HSL
                have hzn : zk < n := by omega
                obtain ⟨b2, off2, A2, n2, c2, he, _, p3, p4⟩ := HT.out.hds.cellAt hzn
                cases he
                have c3 := (hBl.cell (p := ⟨b, off + zk, none⟩) hb).trans p3
                have c4 := (hBl.cell (p := ⟨b, off + m, none⟩) hb).trans HP1.out
                have hl0 : (0 : Int) ≤ (l : Int) := by omega
                have hl1 : (l : Int) < (k : Int) := by omega
                have hz0 : (0 : Int) ≤ (zk : Int) := by omega
                have hz1 : (zk : Int) < (n : Int) := by omega
                have HBL := Lib.hid hBl
                have HSZ := Lib.hid hBl.size
                have CC := Lib.hid (fun V (h : Below wr.heap.size wr V) => CI.out V zk A2 n2 c2 m A' n' c' (below_then hBl h) p4 HP2.out)
                have HRK := Lib.hid (fun V (h : Below wr.heap.size wr V) => And.intro ((h.cell (p := ⟨bx, ox + l, none⟩) (Nat.lt_of_lt_of_le hbx hBl.size)).trans cz) (And.intro ((h.cell (p := ⟨b, off + zk, none⟩) (Nat.lt_of_lt_of_le hb hBl.size)).trans c3) ((h.cell (p := ⟨b, off + m, none⟩) (Nat.lt_of_lt_of_le hb hBl.size)).trans c4)))
                simp only [Int.toNat_natCast, HT2.out] at CC HSL
                obtain ⟨x, hx⟩ : ∃ x, insB ss (tt.getD zk []) t = x := ⟨_, rfl⟩
                rw [hx] at CC HSL
                generalize ((xs.take l).any fun z => insB ss (tt.getD z.toNat []) t) = y at *
                clear hcx hasc hzk p3 p4 hBl hx
                cases y
                · go_wp2_with fail
                  go_region_held3 (fun w' => w'.cell? ⟨bx, ox + l, none⟩ = some (.int .i64 (zk : Int)) ∧ w'.cell? ⟨b, off + zk, none⟩ = some (.slice A2 n2 c2) ∧ w'.cell? ⟨b, off + m, none⟩ = some (.slice A' n' c'))
                    (first | exact RK5.out | exact ⟨cz, c3, c4⟩ | go_keep)
                    ((go_at_call 43; refine (CC.out _ ((Below.refl _ _).drew)).mono ?_; rintro e w5 ⟨rfl, hB5⟩; have hB6 : Below wr.heap.size wr w5 := ((Below.refl _ wr).drew).trans hB5; have RK5 := Lib.hid (HRK.out w5 hB6); have HB5 := Lib.hid (below_then HBL.out hB6); clear hB5 hB6))
                  all_goals
                    go_wp2_with fail
                    go_roundw
                    case rel => exact ⟨l + 1, by omega, by go_num, by rw [HSL.out]; simp, HB5.out⟩
                    case measure => simp [intOf]; omega
                · go_wp2_with fail
                  go_quiet (fail)
                  all_goals
                    go_wp2_with fail
                    go_roundw
                    case rel => exact ⟨l + 1, by omega, by go_num, by rw [HSL.out]; simp, below_drewN HBL.out _⟩
                    case measure => simp [intOf]; omega
              · obtain rfl : l = k := by omega
                have hall : xs.take l = xs := List.take_of_length_le (by rw [← HXL.out]; exact Nat.le_refl _)
                rw [hall]
                obtain ⟨x, hx⟩ : ∃ x, (xs.any fun z => insB ss (tt.getD z.toNat []) t) = x := ⟨_, rfl⟩
                have HXX := Lib.hid hx
                simp only [hx] at HSUC ⊢
                have HBL := Lib.hid hBl
                clear hBl hall hx
                cases x
                · have H := Lib.hid (show R = false by
                    rw [HRR.out]
                    cases e : (tt.all fun t => xs.any fun z => insB ss (tt.getD z.toNat []) t)
                    · rfl
                    · have h9 := List.all_eq_true.1 e t (List.mem_of_getElem? HT1.out)
                      rw [HXX.out] at h9; cases h9)
                  go_wp2
                  go_ret
                  exact ⟨ret_b H.out.symm, HBL.out⟩
                · go_wp2
                  go_roundw
                  case rel => exact ⟨m + 1, by omega, by go_num, by rw [HSUC.out, HA.out]; rfl, HBL.out⟩
                  case measure => simp [intOf]; omega
          · obtain rfl : m = n := by omega
            have H := Lib.hid (show R = true by
              rw [HRR.out]
              rw [List.take_of_length_le (by rw [← HTL.out]; exact Nat.le_refl _)] at hA
              exact hA)
            have HBM := Lib.hid hBm
            clear hA hBm
            go_wp2
            go_ret
            exact ⟨ret_b H.out.symm, HBM.out⟩

end Go.Proofs.Ytgbfccbnbgbknaa
