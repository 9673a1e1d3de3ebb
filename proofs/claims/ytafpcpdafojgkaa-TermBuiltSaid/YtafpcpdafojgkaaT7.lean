/- The walk of TermBuilt. -/
import Derived.Test.YtafpcpdafojgkaaB2
import Derived.Test.YtafpcpdafojgkaaB3
namespace Go.Proofs.Ytafpcpdafojgkaa
open Go.RowKit

set_option maxRecDepth 100000 in
set_option maxHeartbeats 2000000 in
theorem bld_small (As A : Option Addr) (ns cs n c : Nat) (sy : Int) (ls : List Hd) (w : World) (hl : HdsAt w w.heap.size A n ls) (hsm : smallOk ns ls = false) :
    Calls Try.prog 5 #[.slice As ns cs, .int .i64 sy, .slice A n c] w fun e w' => e = .returned (.bool true) ∧ Below w.heap.size w w' := by
  have HS := Lib.hid (small_any As A ns cs n c ls w _ hl)
  have HSM := Lib.hid hsm
  clear hl hsm
  go_enter Try.func5, Try.ntmps5
  go_wp2_with (first
    | (go_at_call 14; refine HS.out.mono ?_; rintro e w' ⟨rfl, rfl⟩; rw [HSM.out])
    | (go_at_call 15; refine (awake_any _).mono ?_; rintro e w' ⟨rfl, hB'⟩; have HB' := Lib.hid hB'))
  go_ret
  exact ⟨rfl, HB'.out⟩

set_option maxRecDepth 100000 in
set_option maxHeartbeats 2000000 in
theorem bld_many (As A : Option Addr) (ns cs n c : Nat) (sy : Int) (ls : List Hd) (w : World) (hl : HdsAt w w.heap.size A n ls) (hsm : smallOk ns ls = true) (hn : 20 < n) :
    Calls Try.prog 5 #[.slice As ns cs, .int .i64 sy, .slice A n c] w fun e w' => e = .returned (.bool true) ∧ Below w.heap.size w w' := by
  have HS := Lib.hid (small_any As A ns cs n c ls w _ hl)
  have HSM := Lib.hid hsm
  have hn' : (20 : Int) < (n : Int) := by omega
  clear hl hsm
  go_enter Try.func5, Try.ntmps5
  go_wp2_with (first
    | (go_at_call 14; refine HS.out.mono ?_; rintro e w' ⟨rfl, rfl⟩; rw [HSM.out])
    | (go_at_call 15; refine (awake_any _).mono ?_; rintro e w' ⟨rfl, hB'⟩; have HB' := Lib.hid hB'))
  go_ret
  exact ⟨rfl, HB'.out⟩

set_option maxRecDepth 100000 in
set_option maxHeartbeats 2000000 in
theorem bld_ok (As A : Option Addr) (ns cs n c : Nat) (sy : Int) (ss : Sg) (ls : List Hd) (tt : List (List Int)) (w : World) (hs : SigAt w w.heap.size As ns ss) (ht : TermsAt w w.heap.size A n ls tt) (hsm : smallOk ns ls = true) (hn : n ≤ 20) :
    Calls Try.prog 5 #[.slice As ns cs, .int .i64 sy, .slice A n c] w fun e w' => e = .returned (.bool true) ∧ Below w.heap.size w w' := by
  have HS := Lib.hid (small_any As A ns cs n c ls w _ ht.hds)
  have HSM := Lib.hid hsm
  have C1 := Lib.hid (built_any As A ns cs n c sy ss ls tt w hs ht (by omega))
  have C2 := Lib.hid (fun V (hb : Below w.heap.size w V) => refBuilt_any As A ns cs n c sy ss ls tt V (hs.up hb) (ht.up hb) (by omega))
  obtain ⟨R, hR⟩ : ∃ R, builtR ss sy tt = R := ⟨_, rfl⟩
  simp only [hR] at C1 C2
  obtain ⟨xs, er⟩ := R
  simp only at C1 C2
  have hn' : ¬ (20 : Int) < (n : Int) := by omega
  have heq : (er == er) = true := by simp
  clear hs ht hsm hR
  go_enter Try.func5, Try.ntmps5
  go_wp2_with (first
    | (go_at_call 14; refine HS.out.mono ?_; rintro e w' ⟨rfl, rfl⟩; rw [HSM.out])
    | (go_at_call 30; ((with_reducible refine C1.out.mono ?_); clear C1; rintro e V1 ⟨A1, n1, c1, rfl, hI1, hB1⟩; have HI1 := Lib.hid hI1; have HB1 := Lib.hid hB1; clear hI1 hB1))
    | (go_at_call 32; ((with_reducible refine (C2.out _ HB1.out).mono ?_); rintro e V2 ⟨A2, n2, c2, rfl, hI2, hB2⟩; have HI12 := Lib.hid (HI1.out.up hB2); have HI2 := Lib.hid hI2; have HB2 := Lib.hid (below_then HB1.out hB2); clear hI2 hB2))
    | (go_at_call 31; ((with_reducible refine (same_self _ _ _ _ _ _ xs _ _ HI12.out HI2.out).mono ?_); rintro e V3 ⟨rfl, j3, rfl⟩; have HB3 := Lib.hid (below_drewN HB2.out j3)))
    | (go_at_call 15; refine (awake_any _).mono ?_; rintro e V4 ⟨rfl, hB4⟩; have HB4 := Lib.hid (below_then HB3.out hB4)))
  go_ret
  exact ⟨rfl, HB4.out⟩

theorem bld_walk (As A : Option Addr) (ns cs n c : Nat) (sy : Int) (ss : Sg) (ls : List Hd) (tt : List (List Int)) (w : World) (hs : SigAt w w.heap.size As ns ss) (ht : TermsAt w w.heap.size A n ls tt) :
    Calls Try.prog 5 #[.slice As ns cs, .int .i64 sy, .slice A n c] w fun e w' => e = .returned (.bool true) ∧ Below w.heap.size w w' := by
  cases hsm : smallOk ns ls
  · exact bld_small As A ns cs n c sy ls w ht.hds hsm
  · by_cases hn : n ≤ 20
    · exact bld_ok As A ns cs n c sy ss ls tt w hs ht hsm hn
    · exact bld_many As A ns cs n c sy ls w ht.hds hsm (by omega)

end Go.Proofs.Ytafpcpdafojgkaa
