/- Contracts: validName. -/
import Derived.Test.YtmccdmpemlmkkaaS1
namespace Go.Proofs.Ytmccdmpemlmkkaa
open Go.RowKit

def nameOk (l : List UInt8) : Bool := decide (1 ≤ l.length) && decide (l.length ≤ 8) && l.all ltrB
def Lets (s : ByteArray) (k : Nat) : Prop := ∀ j (h : j < s.size), j < k → ltrB s[j] = true
theorem Lets.zero (s : ByteArray) : Lets s 0 := fun _ _ h => absurd h (by omega)
theorem Lets.succ {s : ByteArray} {k : Nat} (h : Lets s k) (hk : k < s.size) (e : ltrI (s[k].toNat : Int) = true) : Lets s (k + 1) := by
  intro j hj hlt
  by_cases hjk : j < k
  · exact h j hj hjk
  · obtain rfl : j = k := by omega
    exact e
theorem nameOk_long {s : ByteArray} (h : s.size < 1 ∨ 8 < s.size) : nameOk s.data.toList = false := by
  have e : s.data.toList.length = s.size := by simp
  unfold nameOk
  rw [e]
  rcases h with h | h
  · rw [decide_eq_false (by omega : ¬ 1 ≤ s.size)]; rfl
  · rw [decide_eq_false (by omega : ¬ s.size ≤ 8)]; simp
theorem nameOk_bad {s : ByteArray} {k : Nat} (hk : k < s.size) (e : ltrI (s[k].toNat : Int) = false) : nameOk s.data.toList = false := by
  unfold nameOk
  have : s.data.toList.all ltrB = false := by
    rw [List.all_eq_false]
    refine ⟨s[k], ?_, by show ¬ ltrI _ = true; rw [e]; simp⟩
    exact Array.getElem_mem_toList (xs := s.data) hk
  rw [this]; simp
theorem nameOk_good {s : ByteArray} (h1 : 1 ≤ s.size) (h8 : s.size ≤ 8) (h : Lets s s.size) : nameOk s.data.toList = true := by
  have e : s.data.toList.length = s.size := by simp
  unfold nameOk
  rw [e, decide_eq_true h1, decide_eq_true h8]
  simp only [Bool.true_and, List.all_eq_true]
  intro c hc
  obtain ⟨i, hi, rfl⟩ := List.mem_iff_getElem.1 hc
  have hi' : i < s.size := by simpa using hi
  exact h i hi' hi'

theorem validName_out (s : ByteArray) (w : World) (hs : s.size ≤ maxLen) (h : s.size < 1 ∨ 8 < s.size) :
    Calls Try.prog 40 #[.string s] w fun e w' => e = .returned (.bool (nameOk s.data.toList)) ∧ w = w' := by
  have H := Lib.hid (nameOk_long h)
  unfold maxLen at hs
  rcases h with h | h
  · go_enter Try.func40, Try.ntmps40
    go_wp2
    go_ret
    exact ⟨ret_b H.out.symm, rfl⟩
  · have h' : ¬ s.size < 1 := by omega
    go_enter Try.func40, Try.ntmps40
    go_wp2
    go_ret
    exact ⟨ret_b H.out.symm, rfl⟩

set_option maxHeartbeats 400000 in
theorem validName_in (s : ByteArray) (w : World) (h1 : 1 ≤ s.size) (h8 : s.size ≤ 8) :
    Calls Try.prog 40 #[.string s] w fun e w' => e = .returned (.bool (nameOk s.data.toList)) ∧ w = w' := by
  have h1' : ¬ s.size < 1 := by omega
  go_enter Try.func40, Try.ntmps40
  go_wp2
  go_loop [14] (fun i => ∃ k : Nat, k ≤ s.size ∧ i = .int .i64 k ∧ Lets s k) (fun i => s.size - (intOf i).toNat)
  case atStart => exact ⟨0, Nat.zero_le _, rfl, Lets.zero s⟩
  case round =>
    obtain ⟨k, hk, rfl, hL⟩ := hrel
    by_cases hlt : k < s.size
    · cases hb : ltrI (s[k].toNat : Int)
      · have H := Lib.hid (nameOk_bad hlt hb)
        have HB := Lib.hid hb
        clear hb
        go_wp2_with (go_at_call 67; refine (letter_any _ _).mono ?_; rintro e w' ⟨rfl, rfl⟩; rw [HB.out])
        go_ret
        exact ⟨ret_b H.out.symm, rfl⟩
      · have H := Lib.hid (hL.succ hlt hb)
        have HB := Lib.hid hb
        clear hb
        go_wp2_with (go_at_call 67; refine (letter_any _ _).mono ?_; rintro e w' ⟨rfl, rfl⟩; rw [HB.out])
        go_round
        case rel => exact ⟨k + 1, by omega, by go_num, H.out⟩
        case measure => simp [intOf]; omega
    · obtain rfl : k = s.size := by omega
      have H := Lib.hid (nameOk_good h1 h8 hL)
      go_wp2
      go_ret
      exact ⟨ret_b H.out.symm, rfl⟩

theorem validName_any (s : ByteArray) (w : World) (hs : s.size ≤ maxLen) :
    Calls Try.prog 40 #[.string s] w fun e w' => e = .returned (.bool (nameOk s.data.toList)) ∧ w = w' := by
  by_cases h : s.size < 1 ∨ 8 < s.size
  · exact validName_out s w hs h
  · exact validName_in s w (by omega) (by omega)

end Go.Proofs.Ytmccdmpemlmkkaa
