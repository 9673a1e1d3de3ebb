/- Contracts: the reference's within, isName, ValidSign. -/
import Derived.Test.YtmccdmpemlmkkaaQ1
import Derived.Test.YtmccdmpemlmkkaaS3
namespace Go.Proofs.Ytmccdmpemlmkkaa
open Go.RowKit

def witB (n lo hi : Int) : Bool := decide (lo ≤ n) && decide (n ≤ hi)
set_option maxHeartbeats 400000 in
theorem within_any (n lo hi : Int) (w : World) : Calls Try.prog 41 #[.int .i64 n, .int .i64 lo, .int .i64 hi] w fun e w' => e = .returned (.bool (witB n lo hi)) ∧ w = w' := by
  unfold witB
  by_cases h1 : lo ≤ n <;> by_cases h2 : n ≤ hi
  all_goals
    go_enter Try.func41, Try.ntmps41
    go_wp2
    go_ret
    simp [*]

theorem nameOk_eq {s : ByteArray} (h : Lets s s.size) : nameOk s.data.toList = witB (s.size : Int) 1 8 := by
  by_cases h1 : s.size < 1 ∨ 8 < s.size
  · rw [nameOk_long h1]
    unfold witB
    rcases h1 with h1 | h1
    · rw [decide_eq_false (by omega : ¬ (1 : Int) ≤ s.size)]; rfl
    · rw [decide_eq_false (by omega : ¬ (s.size : Int) ≤ 8)]; simp
  · rw [nameOk_good (by omega) (by omega) h]
    unfold witB
    rw [decide_eq_true (by omega : (1 : Int) ≤ s.size), decide_eq_true (by omega : (s.size : Int) ≤ 8)]; rfl

set_option maxRecDepth 100000 in
set_option maxHeartbeats 1000000 in
theorem isName_any (s : ByteArray) (w : World) (hs : s.size ≤ maxLen) :
    Calls Try.prog 42 #[.string s] w fun e w' => e = .returned (.bool (nameOk s.data.toList)) ∧ w = w' := by
  unfold maxLen at hs
  go_enter Try.func42, Try.ntmps42
  go_wp2
  go_loop [3] (fun i => ∃ k : Nat, k ≤ s.size ∧ i = .int .i64 k ∧ Lets s k) (fun i => s.size - (intOf i).toNat)
  case atStart => exact ⟨0, Nat.zero_le _, rfl, Lets.zero s⟩
  case round =>
    obtain ⟨k, hk, rfl, hL⟩ := hrel
    by_cases hlt : k < s.size
    · have hbad := nameOk_bad hlt
      have hgood := hL.succ hlt
      have hb0 : (s[k].toNat : Int) < 256 := by have := s[k].toNat_lt; omega
      have hb1 : (0 : Int) ≤ (s[k].toNat : Int) := by omega
      cases e1 : witB (s[k].toNat : Int) 97 122
      · cases e2 : witB (s[k].toNat : Int) 65 90
        · have H := Lib.hid (hbad (by
            unfold witB at e1 e2
            unfold ltrI
            rw [e1, e2]; rfl))
          have E1 := Lib.hid e1
          have E2 := Lib.hid e2
          clear e1 e2 hbad hgood hL
          go_wp2_with (first
            | (go_at_call 41; ((with_reducible refine (within_any _ 97 122 _).mono ?_); rintro e w' ⟨rfl, rfl⟩; rw [E1.out]))
            | (go_at_call 41; ((with_reducible refine (within_any _ 65 90 _).mono ?_); rintro e w' ⟨rfl, rfl⟩; rw [E2.out])))
          go_ret
          exact ⟨ret_b H.out.symm, rfl⟩
        · have H := Lib.hid (hgood (by
            unfold witB at e1 e2
            unfold ltrI
            rw [e2]; simp))
          have E1 := Lib.hid e1
          have E2 := Lib.hid e2
          clear e1 e2 hbad hgood hL
          go_wp2_with (first
            | (go_at_call 41; ((with_reducible refine (within_any _ 97 122 _).mono ?_); rintro e w' ⟨rfl, rfl⟩; rw [E1.out]))
            | (go_at_call 41; ((with_reducible refine (within_any _ 65 90 _).mono ?_); rintro e w' ⟨rfl, rfl⟩; rw [E2.out])))
          go_round
          case rel => exact ⟨k + 1, by omega, by go_num, H.out⟩
          case measure => simp [intOf]; omega
      · have H := Lib.hid (hgood (by
          unfold witB at e1
          unfold ltrI
          rw [e1]; simp))
        have E1 := Lib.hid e1
        clear e1 hbad hgood hL
        go_wp2_with (go_at_call 41; ((with_reducible refine (within_any _ 97 122 _).mono ?_); rintro e w' ⟨rfl, rfl⟩; rw [E1.out]))
        go_round
        case rel => exact ⟨k + 1, by omega, by go_num, H.out⟩
        case measure => simp [intOf]; omega
    · obtain rfl : k = s.size := by omega
      have H := Lib.hid (nameOk_eq hL)
      clear hL
      go_wp2_with (go_at_call 41; ((with_reducible refine (within_any _ 1 8 _).mono ?_); rintro e w' ⟨rfl, rfl⟩))
      go_ret
      exact ⟨ret_b H.out.symm, rfl⟩

end Go.Proofs.Ytmccdmpemlmkkaa
