/- Contract: the reference's Compare; the statement's Small. -/
import Derived.Test.YtmccdmpemlmkkaaO1
import Derived.Test.YtmccdmpemlmkkaaW1
namespace Go.Proofs.Ytmccdmpemlmkkaa
open Go.RowKit

set_option maxRecDepth 100000 in
set_option maxHeartbeats 1000000 in
theorem refCompare_any (A A2 : Option Addr) (n c n2 c2 : Nat) (xs ys : List Int) (w : World) (B : Nat) (hx : IntsAt w B A n xs) (hy : IntsAt w B A2 n2 ys) :
    Calls Try.prog 77 #[.slice A n c, .slice A2 n2 c2] w fun e w' => e = .returned (.int .i64 (cmpL xs ys)) ∧ ∃ k, w' = w.drewN k := by
  have hlx := hx.len
  have hly := hy.len
  have hmx := hx.max
  by_cases h1 : n < n2
  · have H := Lib.hid (show cmpL xs ys = -1 by unfold cmpL cmpI; rw [if_neg (by omega), if_pos (by omega)])
    have hb : (n : Int) < (n2 : Int) := by omega
    clear hlx hly hx hy hmx
    go_enter Try.func77, Try.ntmps77
    go_wp2
    go_ret
    exact ⟨ret_i H.out.symm, 0, rfl⟩
  · by_cases h2 : n2 < n
    · have H := Lib.hid (show cmpL xs ys = 1 by unfold cmpL cmpI; rw [if_neg (by omega), if_neg (by omega), if_pos (by omega)])
      have hb : (n2 : Int) < (n : Int) := by omega
      clear hlx hly hx hy hmx
      go_enter Try.func77, Try.ntmps77
      go_wp2
      go_ret
      exact ⟨ret_i H.out.symm, 0, rfl⟩
    · obtain rfl : n = n2 := by omega
      have HL := Lib.hid (show xs.length = ys.length by omega)
      have HE := Lib.hid (show cmpL xs ys = lexC xs ys by unfold cmpL; rw [if_pos (by omega)])
      have HX := Lib.hid hx
      have HY := Lib.hid hy
      have HLX := Lib.hid hlx
      clear hx hy hlx hly h1 h2
      go_enter Try.func77, Try.ntmps77
      go_wp2
      go_loopw [5] (fun i wr => ∃ k : Nat, k ≤ n ∧ i = .int .i64 k ∧ Agree xs ys k ∧ ∃ m, wr = w.drewN m) (fun i _ => n - (intOf i).toNat)
      case atStart => exact ⟨0, Nat.zero_le _, rfl, Agree.zero _ _, 0, rfl⟩
      case round =>
        obtain ⟨k, hk, rfl, hA, m, rfl⟩ := hrel
        by_cases hlt : k < n
        · obtain ⟨b, off, z, rfl, c1, k1, e1⟩ := HX.out.cellAt hlt
          obtain ⟨b2, off2, y, rfl, c2, k2, e2⟩ := HY.out.cellAt hlt
          have hk0 : (0 : Int) ≤ (k : Int) := by omega
          have hk1 : (k : Int) < (n : Int) := by omega
          by_cases h3 : z < y
          · have H := Lib.hid (show lexC xs ys = -1 by rw [lexC_diff hA k1 k2 (by rw [e1, e2]; simp [cmpI, h3])]; rw [e1, e2]; simp [cmpI, h3])
            clear e1 e2 hA
            go_wp2_with fail
            go_quiet (fail)
            go_wp2
            go_ret
            exact ⟨ret_i (by rw [HE.out, H.out]), _, World.drewN_drewN ..⟩
          · by_cases h4 : y < z
            · have H := Lib.hid (show lexC xs ys = 1 by rw [lexC_diff hA k1 k2 (by rw [e1, e2]; simp [cmpI, h3, h4])]; rw [e1, e2]; simp [cmpI, h3, h4])
              clear e1 e2 hA
              have h3' : y ≤ z := by omega
              go_wp2_with fail
              go_quiet (fail)
              go_wp2_with fail
              go_quiet (fail)
              go_wp2
              go_ret
              exact ⟨ret_i (by rw [HE.out, H.out]), _, by simp only [World.drewN_drewN]; rfl⟩
            · have H := Lib.hid (hA.succ k1 k2 (by rw [e1, e2]; omega))
              clear e1 e2 hA
              have h3' : y ≤ z := by omega
              have h4' : z ≤ y := by omega
              go_wp2_with fail
              go_quiet (fail)
              go_wp2_with fail
              go_quiet (fail)
              go_wp2
              go_roundw
              case rel => exact ⟨k + 1, by omega, by go_num, H.out, _, rfl⟩
              case measure => simp [intOf]; omega
        · obtain rfl : k = n := by omega
          have H := Lib.hid (lexC_end (by rw [← HLX.out]; exact hA) HL.out)
          clear hA
          go_wp2
          go_ret
          exact ⟨ret_i (by rw [HE.out, H.out]), _, rfl⟩

end Go.Proofs.Ytmccdmpemlmkkaa
