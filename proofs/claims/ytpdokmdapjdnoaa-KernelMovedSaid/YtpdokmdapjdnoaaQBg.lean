/- Contracts: lemmarylaw04's shelf; the reference's ValidGivens. -/
import Derived.Test.YtpdokmdapjdnoaaPOg
import Derived.Test.YtpdokmdapjdnoaaPYg
import Derived.Test.YtpdokmdapjdnoaaPJg
import Derived.Test.YtpdokmdapjdnoaaO3g
import Derived.Test.YtpdokmdapjdnoaaB4g
/- What moved proofs say (pure): KernelMoved's mathematics. -/
namespace Go.Proofs.Ytpdokmdapjdnoaa
open Go.RowKit

/-- The givens that are cited after a move. -/
def oldG (gg : List (List Int)) (xs : List Int) : List (List Int) := xs.map fun z => gg.getD z.toNat []
theorem oldG_len (gg : List (List Int)) (xs : List Int) : (oldG gg xs).length = xs.length := by simp [oldG]
theorem movZ_ok {g : Int} {pp : List Stp} {xs : List Int} {c : Int} (h : (movZ g pp xs c).2 = 0) : proofOk g pp = true ∧ (xs.length : Int) = g ∧ (0 ≤ c ∧ c ≤ 60) ∧ xs.all (btw c) = true ∧ (movZ g pp xs c).1 = pp.map (movAt xs) := by
  unfold movZ at h ⊢
  split at h
  · split at h
    · split at h
      · rename_i h1 h2 h3
        rw [if_pos h1, if_pos h2, if_pos h3]
        simp only [Bool.and_eq_true, decide_eq_true_iff] at h3
        exact ⟨h1, h2, h3.1, h3.2, rfl⟩
      · cases h
    · cases h
  · cases h
theorem says_moved {ss : Sg} {gg T : List (List Int)} {xs : List Int} {x : Stp} (h : x.1 = 1 → x.2.1.toNat < xs.length) : saysZ ss gg T (movAt xs x) = saysZ ss (oldG gg xs) T x := by
  unfold saysZ movAt
  by_cases h1 : x.1 = 1
  · rw [if_pos h1, if_pos h1, if_pos h1]
    have hy := h h1
    simp only [oldG, List.getD_eq_getElem?_getD, List.getElem?_map, List.getElem?_eq_getElem hy, Option.map_some, Option.getD_some]
  · rw [if_neg h1, if_neg h1, if_neg h1]
theorem sayL_moved {ss : Sg} {gg : List (List Int)} {xs : List Int} {pp : List Stp} (h : ∀ (j : Nat) (x : Stp), pp[j]? = some x → x.1 = 1 → x.2.1.toNat < xs.length) : ∀ k, k ≤ pp.length → sayL ss gg (pp.map (movAt xs)) k = sayL ss (oldG gg xs) pp k
  | 0, _ => rfl
  | k + 1, hk => by
    rw [sayL, sayL, sayL_moved h k (by omega)]
    have hx : pp[k]? = some pp[k] := List.getElem?_eq_getElem (by omega)
    rw [show (pp.map (movAt xs)).getD k (0, 0, 0) = movAt xs pp[k] from by rw [List.getD_eq_getElem?_getD, List.getElem?_map, hx]; rfl, show pp.getD k (0, 0, 0) = pp[k] from by rw [List.getD_eq_getElem?_getD, hx]; rfl, says_moved (h k _ hx)]
theorem sayE_moved {ss : Sg} {gg : List (List Int)} {xs : List Int} {pp : List Stp} (h : ∀ (j : Nat) (x : Stp), pp[j]? = some x → x.1 = 1 → x.2.1.toNat < xs.length) (k : Nat) (hk : k < pp.length) : sayE ss gg (pp.map (movAt xs)) k = sayE ss (oldG gg xs) pp k := by
  unfold sayE
  rw [sayL_moved h k (by omega)]
  have hx : pp[k]? = some pp[k] := List.getElem?_eq_getElem (by omega)
  rw [show (pp.map (movAt xs)).getD k (0, 0, 0) = movAt xs pp[k] from by rw [List.getD_eq_getElem?_getD, List.getElem?_map, hx]; rfl, show pp.getD k (0, 0, 0) = pp[k] from by rw [List.getD_eq_getElem?_getD, hx]; rfl, says_moved (h k _ hx)]
theorem runF_moved {ss : Sg} {gg : List (List Int)} {xs : List Int} {pp : List Stp} (h : ∀ (j : Nat) (x : Stp), pp[j]? = some x → x.1 = 1 → x.2.1.toNat < xs.length) : ∀ f k, k + f = pp.length → runF ss gg (pp.map (movAt xs)) f k = runF ss (oldG gg xs) pp f k
  | 0, k, e => by rw [runF, runF, sayL_moved h k (by omega)]
  | f + 1, k, e => by
    rw [runF, runF, sayE_moved h k (by omega), sayL_moved h k (by omega), runF_moved h f (k + 1) (by omega)]
theorem proofOk_moved {g c : Int} {pp : List Stp} {xs : List Int} (hp : proofOk g pp = true) (hl : (xs.length : Int) = g) (hc : 0 ≤ c ∧ c ≤ 60) (hx : xs.all (btw c) = true) : proofOk c (pp.map (movAt xs)) = true := by
  obtain ⟨_, h2, h3⟩ := proofOk_to hp
  refine proofOk_all hc (by simpa using h2) ?_
  intro j hj x hxj
  rw [List.getElem?_map] at hxj
  obtain ⟨y, hy, rfl⟩ := Option.map_eq_some_iff.1 hxj
  have h := h3 j (by simpa using hj) y hy
  unfold movAt
  rcases stepOk_num h with ⟨a1, a2, a3, a4⟩ | ⟨a1, a2, a3, a4, a5⟩
  · rw [if_pos a1]
    have hn : y.2.1.toNat < xs.length := by omega
    have hb := List.all_eq_true.1 hx _ (List.getElem_mem hn)
    unfold btw at hb
    rw [decide_eq_true_iff] at hb
    unfold stepOk
    rw [if_pos a1]
    simp only [List.getD_eq_getElem?_getD, List.getElem?_eq_getElem hn, Option.getD_some, a4]
    rw [decide_eq_true hb]
    rfl
  · rw [if_neg (by omega)]
    unfold stepOk at h ⊢
    rw [if_neg (by omega)] at h ⊢
    exact h
theorem givOk_old {ss : Sg} {gg : List (List Int)} {xs : List Int} (hg : givOk ss gg = true) (hl : xs.length ≤ 60) (hx : xs.all (btw gg.length) = true) : givOk ss (oldG gg xs) = true := by
  obtain ⟨h1, _, h3⟩ := givOk_to hg
  unfold givOk
  rw [h1, decide_eq_true (by rw [oldG_len]; exact hl)]
  simp only [Bool.true_and, List.all_eq_true]
  intro t ht
  obtain ⟨z, hz, rfl⟩ := List.mem_map.1 ht
  have hb := List.all_eq_true.1 hx _ hz
  unfold btw at hb
  rw [decide_eq_true_iff] at hb
  have hn : z.toNat < gg.length := by omega
  show valOk ss (gg.getD z.toNat []) = true
  rw [List.getD_eq_getElem?_getD, List.getElem?_eq_getElem hn]
  exact h3 _ (List.getElem_mem hn)
/-- Moved proofs say of the moved givens what the proofs say. -/
theorem moved_says {ss : Sg} {gg : List (List Int)} {xs : List Int} {pp : List Stp} (hg : givOk ss gg = true) (hm : (movZ (xs.length : Int) pp xs (gg.length : Int)).2 = 0) : sayZ ss gg (movZ (xs.length : Int) pp xs (gg.length : Int)).1 = sayZ ss (oldG gg xs) pp := by
  obtain ⟨h1, _, h3, h4, h5⟩ := movZ_ok hm
  obtain ⟨q1, q2, q3⟩ := proofOk_to h1
  have hL : ∀ (j : Nat) (x : Stp), pp[j]? = some x → x.1 = 1 → x.2.1.toNat < xs.length := fun j x hx hk => by
    have hj := (List.getElem?_eq_some_iff.1 hx).1
    rcases stepOk_num (q3 j hj x hx) with h | h
    · omega
    · omega
  have hr : runZ ss gg (pp.map (movAt xs)) = runZ ss (oldG gg xs) pp := by
    unfold runZ
    rw [hg, proofOk_moved h1 rfl h3 h4, givOk_old hg (by omega) h4, oldG_len, h1, List.length_map, runF_moved hL pp.length 0 (by omega)]
  rw [h5]
  unfold sayZ
  rw [hr]

end Go.Proofs.Ytpdokmdapjdnoaa

namespace Go.Proofs.Ytpdokmdapjdnoaa
open Go.RowKit

set_option maxHeartbeats 400000 in
theorem shelf_any (As At : Option Addr) (ns cs n c : Nat) (ls : List Hd) (w : World) (B : Nat) (hl : HdsAt w B At n ls) :
    Calls Try.prog 42 #[.slice As ns cs, .slice At n c] w fun e w' => e = .returned (.bool (decide (n ≤ 80) && smallOk ns ls)) ∧ w = w' := by
  have HS := Lib.hid (small_any As At ns cs n c ls w B hl)
  by_cases h : n ≤ 80
  · rw [decide_eq_true h, Bool.true_and]
    have h' : (n : Int) ≤ 80 := by omega
    clear h hl
    go_enter Try.func42, Try.ntmps42
    go_wp2_with (go_at_call 16; ((with_reducible refine HS.out.mono ?_); rintro e w' ⟨rfl, rfl⟩))
    go_ret
    exact ⟨rfl, rfl⟩
  · rw [decide_eq_false h, Bool.false_and]
    have h' : (80 : Int) < (n : Int) := by omega
    clear h hl
    go_enter Try.func42, Try.ntmps42
    go_wp2
    go_ret
    exact ⟨rfl, rfl⟩

set_option maxRecDepth 100000 in
set_option maxHeartbeats 1000000 in
theorem refValidGivens_any (As At : Option Addr) (ns cs n c : Nat) (ss : Sg) (ls : List Hd) (tt : List (List Int)) (w : World) (hs : SigAt w w.heap.size As ns ss) (ht : TermsAt w w.heap.size At n ls tt) (hn : n ≤ 1000000) :
    Calls Try.prog 48 #[.slice As ns cs, .slice At n c] w fun e w' => e = .returned (.bool (givOk ss tt)) ∧ Below w.heap.size w w' := by
  have CS := Lib.hid (refSign_any As ns cs ss w _ hs)
  have hl := ht.len
  cases hsg : sigOk ss
  · rw [hsg] at CS
    rw [show givOk ss tt = false from by unfold givOk; rw [hsg]; rfl]
    clear hs ht hsg
    go_enter Try.func48, Try.ntmps48
    go_wp2_with (go_at_call 95; ((with_reducible refine CS.out.mono ?_); rintro e w1 ⟨rfl, j, hw1⟩; have HB1 := Lib.hid (show Below w.heap.size w w1 from by rw [hw1]; exact below_drewN (Below.refl _ _) j); clear hw1))
    go_ret
    exact ⟨rfl, HB1.out⟩
  · rw [hsg] at CS
    have CN := Lib.hid (isCount4_any (n : Int))
    by_cases h1 : n ≤ 60
    · rw [decide_eq_true (show 0 ≤ (n : Int) ∧ (n : Int) ≤ 60 by omega)] at CN
      have CA := Lib.hid (fun (V : World) (hB : Below w.heap.size w V) => allValid_any As At ns cs n c ss ls tt V V.heap.size (hs.up hB) (ht.up hB) hn hsg)
      obtain ⟨q, hq⟩ : ∃ q, tt.all (termOk ss) = q := ⟨_, rfl⟩
      rw [show givOk ss tt = q from by
        unfold givOk
        rw [hsg, decide_eq_true (by omega : tt.length ≤ 60), ← hq]
        simp only [Bool.true_and]
        exact List.all_congr rfl fun t => by unfold valOk; rw [hsg, Bool.true_and]]
      rw [hq] at CA
      clear hs ht hsg hq hl
      go_enter Try.func48, Try.ntmps48
      go_wp2_with (first
        | (go_at_call 95; ((with_reducible refine CS.out.mono ?_); rintro e w1 ⟨rfl, j, hw1⟩; have HB1 := Lib.hid (show Below w.heap.size w w1 from by rw [hw1]; exact below_drewN (Below.refl _ _) j); clear hw1))
        | (go_at_call 96; ((with_reducible refine (CN.out _).mono ?_); rintro e w2 ⟨rfl, rfl⟩))
        | (go_at_call 97; ((with_reducible refine (CA.out _ HB1.out).mono ?_); rintro e w3 ⟨rfl, j3, hw3⟩; have HB3 := Lib.hid (show Below w.heap.size w w3 from by rw [hw3]; exact below_drewN HB1.out j3); clear hw3)))
      go_ret
      exact ⟨rfl, HB3.out⟩
    · rw [decide_eq_false (show ¬ (0 ≤ (n : Int) ∧ (n : Int) ≤ 60) by omega)] at CN
      rw [show givOk ss tt = false from by unfold givOk; rw [decide_eq_false (by omega : ¬ tt.length ≤ 60)]; simp]
      clear hs ht hsg hl
      go_enter Try.func48, Try.ntmps48
      go_wp2_with (first
        | (go_at_call 95; ((with_reducible refine CS.out.mono ?_); rintro e w1 ⟨rfl, j, hw1⟩; have HB1 := Lib.hid (show Below w.heap.size w w1 from by rw [hw1]; exact below_drewN (Below.refl _ _) j); clear hw1))
        | (go_at_call 96; ((with_reducible refine (CN.out _).mono ?_); rintro e w2 ⟨rfl, rfl⟩)))
      go_ret
      exact ⟨rfl, HB1.out⟩

end Go.Proofs.Ytpdokmdapjdnoaa
