/- Contracts: cmp.isNaN, cmp.Compare, slices.Compare, Compare. -/
import Derived.Test.YtcegbmibpkopaaaW0g
namespace Go.Proofs.Ytcegbmibpkopaaa
open Go.RowKit

def cmpI (x y : Int) : Int := if x < y then -1 else if y < x then 1 else 0
def lexC : List Int → List Int → Int
  | [], [] => 0
  | [], _ :: _ => -1
  | _ :: _, [] => 1
  | x :: xs, y :: ys => if cmpI x y = 0 then lexC xs ys else cmpI x y
def cmpL (xs ys : List Int) : Int := if xs.length = ys.length then lexC xs ys else cmpI xs.length ys.length

theorem isNaN_any (x : Int) (w : World) : Calls Try.prog 192 #[.int .i64 x] w fun e w' => e = .returned (.bool false) ∧ w = w' := by
  go_enter Try.func192, Try.ntmps192
  go_wp2
  go_ret
  exact ⟨by simp, rfl⟩

set_option maxHeartbeats 400000 in
theorem cmpI_any (x y : Int) (w : World) : Calls Try.prog 162 #[.int .i64 x, .int .i64 y] w fun e w' => e = .returned (.int .i64 (cmpI x y)) ∧ w = w' := by
  have c := fun z => isNaN_any z w
  have C := Lib.hid c
  clear c
  by_cases h1 : x < y
  · have H := Lib.hid (show cmpI x y = -1 by simp [cmpI, h1])
    go_enter Try.func162, Try.ntmps162
    go_wp2_with (go_at_call 192; refine (isNaN_any _ _).mono ?_; rintro e w' ⟨rfl, rfl⟩)
    go_ret
    exact ⟨ret_i H.out.symm, rfl⟩
  · by_cases h2 : y < x
    · have H := Lib.hid (show cmpI x y = 1 by simp [cmpI, h1, h2])
      go_enter Try.func162, Try.ntmps162
      go_wp2_with (go_at_call 192; refine (isNaN_any _ _).mono ?_; rintro e w' ⟨rfl, rfl⟩)
      go_ret
      exact ⟨ret_i H.out.symm, rfl⟩
    · have H := Lib.hid (show cmpI x y = 0 by simp [cmpI, h1, h2])
      go_enter Try.func162, Try.ntmps162
      go_wp2_with (go_at_call 192; refine (isNaN_any _ _).mono ?_; rintro e w' ⟨rfl, rfl⟩)
      go_ret
      exact ⟨ret_i H.out.symm, rfl⟩

theorem lexC_agree : ∀ (k : Nat) (xs ys : List Int), xs.take k = ys.take k → k ≤ xs.length → k ≤ ys.length → lexC xs ys = lexC (xs.drop k) (ys.drop k)
  | 0, xs, ys, _, _, _ => by simp
  | k + 1, [], ys, _, h, _ => by simp at h
  | k + 1, xs, [], _, _, h => by simp at h
  | k + 1, x :: xs, y :: ys, h, h1, h2 => by
    simp only [List.take_succ_cons, List.cons.injEq] at h
    obtain ⟨rfl, h⟩ := h
    simp only [List.drop_succ_cons]
    rw [← lexC_agree k xs ys h (by simpa using h1) (by simpa using h2)]
    simp [lexC, cmpI]
theorem lexC_diff {xs ys : List Int} {k : Nat} (h : Agree xs ys k) (h1 : k < xs.length) (h2 : k < ys.length) (e : cmpI xs[k] ys[k] ≠ 0) : lexC xs ys = cmpI xs[k] ys[k] := by
  rw [lexC_agree k xs ys h (by omega) (by omega), List.drop_eq_getElem_cons h1, List.drop_eq_getElem_cons h2]
  simp [lexC, e]
theorem lexC_end {xs ys : List Int} (h : Agree xs ys xs.length) (hl : xs.length = ys.length) : lexC xs ys = 0 := by
  rw [lexC_agree xs.length xs ys h (by omega) (by omega), List.drop_length, hl, List.drop_length]
  rfl
theorem cmpI_zero {x y : Int} : cmpI x y = 0 ↔ x = y := by
  unfold cmpI
  split
  · constructor <;> intro h <;> omega
  · split
    · constructor <;> intro h <;> omega
    · constructor <;> intro h <;> omega

set_option maxRecDepth 100000 in
set_option maxHeartbeats 1000000 in
theorem lex_any (A A2 : Option Addr) (n c n2 c2 : Nat) (xs ys : List Int) (w : World) (B : Nat) (hx : IntsAt w B A n xs) (hy : IntsAt w B A2 n2 ys) (hn : n = n2) :
    Calls Try.prog 163 #[.slice A n c, .slice A2 n2 c2] w fun e w' => e = .returned (.int .i64 (lexC xs ys)) ∧ w = w' := by
  have hmx := hx.max
  have HLX := Lib.hid hx.len
  have HL := Lib.hid (show xs.length = ys.length by have := hx.len; have := hy.len; omega)
  have HX := Lib.hid hx
  have HY := Lib.hid hy
  subst hn
  clear hx hy
  go_enter Try.func163, Try.ntmps163
  go_wp2
  go_loop [11] (fun i => ∃ k : Nat, k ≤ n ∧ i = .int .i64 k ∧ Agree xs ys k) (fun i => n - (intOf i).toNat)
  case atStart => exact ⟨0, Nat.zero_le _, rfl, Agree.zero _ _⟩
  case round =>
    obtain ⟨k, hk, rfl, hA⟩ := hrel
    by_cases hlt : k < n
    · obtain ⟨b, off, z, rfl, c1, k1, e1⟩ := HX.out.cellAt hlt
      obtain ⟨b2, off2, y, rfl, c2, k2, e2⟩ := HY.out.cellAt hlt
      have hnk : ¬ n ≤ k := by omega
      by_cases e : cmpI z y = 0
      · have H := Lib.hid (hA.succ k1 k2 (by rw [e1, e2]; exact cmpI_zero.1 e))
        have E := Lib.hid e
        clear e e1 e2 hA
        go_wp2_with (go_at_call 162; refine (cmpI_any _ _ _).mono ?_; rintro e w' ⟨rfl, rfl⟩; rw [E.out])
        go_round
        case rel => exact ⟨k + 1, by omega, by go_num, H.out⟩
        case measure => simp [intOf]; omega
      · have H := Lib.hid (lexC_diff hA k1 k2 (by rw [e1, e2]; exact e))
        have E12 := Lib.hid (And.intro e1 e2)
        have he : (cmpI z y != 0) = true := by simp [e]
        clear e1 e2 hA e
        obtain ⟨q, hq⟩ : ∃ q, cmpI z y = q := ⟨_, rfl⟩
        rw [hq] at he
        have HQ := Lib.hid hq
        clear hq
        go_wp2_with (go_at_call 162; refine (cmpI_any _ _ _).mono ?_; rintro e w' ⟨rfl, rfl⟩; rw [HQ.out])
        go_ret
        exact ⟨ret_i (by rw [H.out, E12.out.1, E12.out.2, HQ.out]), rfl⟩
    · obtain rfl : k = n := by omega
      have H := Lib.hid (lexC_end (by rw [← HLX.out]; exact hA) HL.out)
      clear hA
      go_wp2
      go_ret
      exact ⟨ret_i H.out.symm, rfl⟩

set_option maxHeartbeats 400000 in
theorem compare_any (A A2 : Option Addr) (n c n2 c2 : Nat) (xs ys : List Int) (w : World) (B : Nat) (hx : IntsAt w B A n xs) (hy : IntsAt w B A2 n2 ys) :
    Calls Try.prog 128 #[.slice A n c, .slice A2 n2 c2] w fun e w' => e = .returned (.int .i64 (cmpL xs ys)) ∧ w = w' := by
  have hlx := hx.len
  have hly := hy.len
  by_cases h : n = n2
  · have H := Lib.hid (show cmpL xs ys = lexC xs ys by unfold cmpL; rw [if_pos (by omega)])
    have C := Lib.hid (lex_any A A2 n c n2 c2 xs ys w B hx hy h)
    have hb : ((n : Int) != (n2 : Int)) = false := by simp [h]
    clear hlx hly hx hy h
    go_enter Try.func128, Try.ntmps128
    go_wp2_with (go_at_call 163; refine C.out.mono ?_; rintro e w' ⟨rfl, rfl⟩)
    go_ret
    exact ⟨ret_i H.out.symm, rfl⟩
  · have H := Lib.hid (show cmpL xs ys = cmpI n n2 by unfold cmpL; rw [if_neg (by omega), ← hlx, ← hly])
    have hb : ((n : Int) != (n2 : Int)) = true := by simp; omega
    clear hlx hly hx hy h
    go_enter Try.func128, Try.ntmps128
    go_wp2_with (go_at_call 162; refine (cmpI_any _ _ _).mono ?_; rintro e w' ⟨rfl, rfl⟩)
    go_ret
    exact ⟨ret_i H.out.symm, rfl⟩

end Go.Proofs.Ytcegbmibpkopaaa
