/- Contracts: lemmarylaw04's shelf; the reference's ValidGivens. -/
import Derived.Test.YtapcdhagkbfccaaPOg
import Derived.Test.YtapcdhagkbfccaaPYg
import Derived.Test.YtapcdhagkbfccaaPJg
import Derived.Test.YtapcdhagkbfccaaO3g
import Derived.Test.YtapcdhagkbfccaaB4g
/- The walk of KernelMoves. -/
namespace Go.Proofs.Ytapcdhagkbfccaa
open Go.RowKit

set_option maxHeartbeats 400000 in
theorem light_any (A : Option Addr) (n c : Nat) (w : World) : Calls Try.prog 43 #[.slice A n c] w fun e w' => e = .returned (.bool (decide (n ≤ 100))) ∧ w = w' := by
  by_cases h : n ≤ 100
  · rw [decide_eq_true h]
    go_enter Try.func43, Try.ntmps43
    go_wp2
    go_ret
    simp; omega
  · rw [decide_eq_false h]
    go_enter Try.func43, Try.ntmps43
    go_wp2
    go_ret
    simp; omega

end Go.Proofs.Ytapcdhagkbfccaa

namespace Go.Proofs.Ytapcdhagkbfccaa
open Go.RowKit

set_option maxHeartbeats 400000 in
theorem shelf_any (As At : Option Addr) (ns cs n c : Nat) (ls : List Hd) (w : World) (B : Nat) (hl : HdsAt w B At n ls) :
    Calls Try.prog 42 #[.slice As ns cs, .slice At n c] w fun e w' => e = .returned (.bool (decide (n ≤ 80) && smallOk ns ls)) ∧ w = w' := by
  have HS := Lib.hid (small_any As At ns cs n c ls w B hl)
  by_cases h : n ≤ 80
  · rw [decide_eq_true h, Bool.true_and]
    have h' : (n : Int) ≤ 80 := by omega
    clear h hl
    go_enter Try.func42, Try.ntmps42
    go_wp2_with (go_at_call 16; ((with_reducible refine HS.out.mono ?_); rintro e w' ⟨rfl, rfl⟩))
    go_ret
    exact ⟨rfl, rfl⟩
  · rw [decide_eq_false h, Bool.false_and]
    have h' : (80 : Int) < (n : Int) := by omega
    clear h hl
    go_enter Try.func42, Try.ntmps42
    go_wp2
    go_ret
    exact ⟨rfl, rfl⟩

set_option maxRecDepth 100000 in
set_option maxHeartbeats 1000000 in
theorem refValidGivens_any (As At : Option Addr) (ns cs n c : Nat) (ss : Sg) (ls : List Hd) (tt : List (List Int)) (w : World) (hs : SigAt w w.heap.size As ns ss) (ht : TermsAt w w.heap.size At n ls tt) (hn : n ≤ 1000000) :
    Calls Try.prog 48 #[.slice As ns cs, .slice At n c] w fun e w' => e = .returned (.bool (givOk ss tt)) ∧ Below w.heap.size w w' := by
  have CS := Lib.hid (refSign_any As ns cs ss w _ hs)
  have hl := ht.len
  cases hsg : sigOk ss
  · rw [hsg] at CS
    rw [show givOk ss tt = false from by unfold givOk; rw [hsg]; rfl]
    clear hs ht hsg
    go_enter Try.func48, Try.ntmps48
    go_wp2_with (go_at_call 95; ((with_reducible refine CS.out.mono ?_); rintro e w1 ⟨rfl, j, hw1⟩; have HB1 := Lib.hid (show Below w.heap.size w w1 from by rw [hw1]; exact below_drewN (Below.refl _ _) j); clear hw1))
    go_ret
    exact ⟨rfl, HB1.out⟩
  · rw [hsg] at CS
    have CN := Lib.hid (isCount4_any (n : Int))
    by_cases h1 : n ≤ 60
    · rw [decide_eq_true (show 0 ≤ (n : Int) ∧ (n : Int) ≤ 60 by omega)] at CN
      have CA := Lib.hid (fun (V : World) (hB : Below w.heap.size w V) => allValid_any As At ns cs n c ss ls tt V V.heap.size (hs.up hB) (ht.up hB) hn hsg)
      obtain ⟨q, hq⟩ : ∃ q, tt.all (termOk ss) = q := ⟨_, rfl⟩
      rw [show givOk ss tt = q from by
        unfold givOk
        rw [hsg, decide_eq_true (by omega : tt.length ≤ 60), ← hq]
        simp only [Bool.true_and]
        exact List.all_congr rfl fun t => by unfold valOk; rw [hsg, Bool.true_and]]
      rw [hq] at CA
      clear hs ht hsg hq hl
      go_enter Try.func48, Try.ntmps48
      go_wp2_with (first
        | (go_at_call 95; ((with_reducible refine CS.out.mono ?_); rintro e w1 ⟨rfl, j, hw1⟩; have HB1 := Lib.hid (show Below w.heap.size w w1 from by rw [hw1]; exact below_drewN (Below.refl _ _) j); clear hw1))
        | (go_at_call 96; ((with_reducible refine (CN.out _).mono ?_); rintro e w2 ⟨rfl, rfl⟩))
        | (go_at_call 97; ((with_reducible refine (CA.out _ HB1.out).mono ?_); rintro e w3 ⟨rfl, j3, hw3⟩; have HB3 := Lib.hid (show Below w.heap.size w w3 from by rw [hw3]; exact below_drewN HB1.out j3); clear hw3)))
      go_ret
      exact ⟨rfl, HB3.out⟩
    · rw [decide_eq_false (show ¬ (0 ≤ (n : Int) ∧ (n : Int) ≤ 60) by omega)] at CN
      rw [show givOk ss tt = false from by unfold givOk; rw [decide_eq_false (by omega : ¬ tt.length ≤ 60)]; simp]
      clear hs ht hsg hl
      go_enter Try.func48, Try.ntmps48
      go_wp2_with (first
        | (go_at_call 95; ((with_reducible refine CS.out.mono ?_); rintro e w1 ⟨rfl, j, hw1⟩; have HB1 := Lib.hid (show Below w.heap.size w w1 from by rw [hw1]; exact below_drewN (Below.refl _ _) j); clear hw1))
        | (go_at_call 96; ((with_reducible refine (CN.out _).mono ?_); rintro e w2 ⟨rfl, rfl⟩)))
      go_ret
      exact ⟨rfl, HB1.out⟩

end Go.Proofs.Ytapcdhagkbfccaa
