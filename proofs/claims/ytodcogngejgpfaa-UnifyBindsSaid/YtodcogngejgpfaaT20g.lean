/- The walk of UnifyBinds. -/
import Derived.Test.YtodcogngejgpfaaN10g
import Derived.Test.YtodcogngejgpfaaY21g
import Derived.Test.YtodcogngejgpfaaO3g
namespace Go.Proofs.Ytodcogngejgpfaa
open Go.RowKit

set_option maxRecDepth 100000 in
set_option maxHeartbeats 2000000 in
theorem ubi_small (As Ab : Option Addr) (ns cs n c : Nat) (ls : List Hd) (bb : List Bd) (w : World) (hb : BindsAt w w.heap.size Ab n ls bb) (hsm : smallOk ns [] = false) :
    Calls Try.prog 3 #[.slice As ns cs, .slice Ab n c] w fun e w' => e = .returned (.bool true) ∧ Below w.heap.size w w' := by
  have HS := Lib.hid (small_any As none ns cs 0 0 [] w w.heap.size ⟨rfl, by omega, fun h => absurd h (by omega)⟩)
  have HSM := Lib.hid hsm
  clear hb hsm
  go_enter Try.func3, Try.ntmps3
  go_wp2_with (first
    | (go_at_call 15; refine HS.out.mono ?_; rintro e w' ⟨rfl, rfl⟩; rw [HSM.out])
    | (go_at_call 17; refine (awake2_any _).mono ?_; rintro e w' ⟨rfl, hB'⟩; have HB' := Lib.hid hB'))
  go_ret
  exact ⟨rfl, HB'.out⟩

set_option maxRecDepth 100000 in
set_option maxHeartbeats 2000000 in
theorem ubi_few (As Ab : Option Addr) (ns cs n c : Nat) (ls : List Hd) (bb : List Bd) (w : World) (hb : BindsAt w w.heap.size Ab n ls bb) (hsm : smallOk ns [] = true) (hf : fewOk ls = false) :
    Calls Try.prog 3 #[.slice As ns cs, .slice Ab n c] w fun e w' => e = .returned (.bool true) ∧ Below w.heap.size w w' := by
  have HS := Lib.hid (small_any As none ns cs 0 0 [] w w.heap.size ⟨rfl, by omega, fun h => absurd h (by omega)⟩)
  have HF := Lib.hid (few_any Ab n c ls bb w _ hb)
  have HSM := Lib.hid hsm
  have HFF := Lib.hid hf
  clear hb hsm hf
  go_enter Try.func3, Try.ntmps3
  go_wp2_with (first
    | (go_at_call 15; refine HS.out.mono ?_; rintro e w' ⟨rfl, rfl⟩; rw [HSM.out])
    | (go_at_call 16; refine HF.out.mono ?_; rintro e w' ⟨rfl, rfl⟩; rw [HFF.out])
    | (go_at_call 17; refine (awake2_any _).mono ?_; rintro e w' ⟨rfl, hB'⟩; have HB' := Lib.hid hB'))
  go_ret
  exact ⟨rfl, HB'.out⟩

set_option maxRecDepth 100000 in
set_option maxHeartbeats 2000000 in
theorem ubi_ok (As Ab : Option Addr) (ns cs n c : Nat) (ss : Sg) (ls : List Hd) (bb : List Bd) (w : World) (hs : SigAt w w.heap.size As ns ss) (hb : BindsAt w w.heap.size Ab n ls bb) (hsm : smallOk ns [] = true) (hf : fewOk ls = true) :
    Calls Try.prog 3 #[.slice As ns cs, .slice Ab n c] w fun e w' => e = .returned (.bool true) ∧ Below w.heap.size w w' := by
  have hn : n ≤ 1000000 := by
    unfold fewOk at hf
    simp only [Bool.and_eq_true, decide_eq_true_eq] at hf
    have := hb.ll
    omega
  have HS := Lib.hid (small_any As none ns cs 0 0 [] w w.heap.size ⟨rfl, by omega, fun h => absurd h (by omega)⟩)
  have HF := Lib.hid (few_any Ab n c ls bb w _ hb)
  have HSM := Lib.hid hsm
  have HFF := Lib.hid hf
  have C1 := Lib.hid (validBinds_any As Ab ns cs n c ss ls bb w hs hb hn)
  have C2 := Lib.hid (fun V (h : Below w.heap.size w V) => refBinds_any As Ab ns cs n c ss ls bb V (hs.up h) (hb.up h) hn)
  have C3 := Lib.hid (fun V (h : Below w.heap.size w V) => solved_any As Ab ns cs n c ss ls bb V (hs.up h) (hb.up h) hn)
  have C4 := Lib.hid (fun V (h : Below w.heap.size w V) => refSolved_any As Ab ns cs n c ss ls bb V (hs.up h) (hb.up h) hn)
  have C5 := Lib.hid (fun V (h : Below w.heap.size w V) => renaming_any As Ab ns cs n c ss ls bb V (hs.up h) (hb.up h) hn)
  have C6 := Lib.hid (fun V (h : Below w.heap.size w V) => refRenaming_any As Ab ns cs n c ss ls bb V (hs.up h) (hb.up h) hn)
  obtain ⟨q1, h1⟩ : ∃ q, bindsOk ss bb = q := ⟨_, rfl⟩
  obtain ⟨q2, h2⟩ : ∃ q, solvedB ss bb = q := ⟨_, rfl⟩
  obtain ⟨q3, h3⟩ : ∃ q, renB ss bb = q := ⟨_, rfl⟩
  simp only [h1] at C1 C2
  simp only [h2] at C3 C4
  simp only [h3] at C5 C6
  have b1 : (q1 == q1) = true := by simp
  have b2 : (q2 == q2) = true := by simp
  have b3 : (q3 == q3) = true := by simp
  clear hb hs hsm hf h1 h2 h3
  go_enter Try.func3, Try.ntmps3
  go_wp2_with (first
    | (go_at_call 15; refine HS.out.mono ?_; rintro e w' ⟨rfl, rfl⟩; rw [HSM.out])
    | (go_at_call 16; refine HF.out.mono ?_; rintro e w' ⟨rfl, rfl⟩; rw [HFF.out])
    | (go_at_call 18; ((with_reducible refine C1.out.mono ?_); rintro e V1 ⟨rfl, hB1⟩); have HB1 := Lib.hid hB1; clear hB1)
    | (go_at_call 19; ((with_reducible refine (C2.out _ HB1.out).mono ?_); rintro e V2 ⟨rfl, hB2⟩); have HB2 := Lib.hid (below_then HB1.out hB2); clear hB2)
    | (go_at_call 20; ((with_reducible refine (C3.out _ HB2.out).mono ?_); rintro e V3 ⟨rfl, hB3⟩); have HB3 := Lib.hid (below_then HB2.out hB3); clear hB3)
    | (go_at_call 21; ((with_reducible refine (C4.out _ HB3.out).mono ?_); rintro e V4 ⟨rfl, hB4⟩); have HB4 := Lib.hid (below_then HB3.out hB4); clear hB4)
    | (go_at_call 22; ((with_reducible refine (C5.out _ HB4.out).mono ?_); rintro e V5 ⟨rfl, hB5⟩); have HB5 := Lib.hid (below_then HB4.out hB5); clear hB5)
    | (go_at_call 23; ((with_reducible refine (C6.out _ HB5.out).mono ?_); rintro e V6 ⟨rfl, hB6⟩); have HB6 := Lib.hid (below_then HB5.out hB6); clear hB6)
    | (go_at_call 17; refine (awake2_any _).mono ?_; rintro e V7 ⟨rfl, hB7⟩; have HB7 := Lib.hid (below_then HB6.out hB7)))
  go_ret
  exact ⟨rfl, HB7.out⟩

theorem ubi_walk (As Ab : Option Addr) (ns cs n c : Nat) (ss : Sg) (ls : List Hd) (bb : List Bd) (w : World) (hs : SigAt w w.heap.size As ns ss) (hb : BindsAt w w.heap.size Ab n ls bb) :
    Calls Try.prog 3 #[.slice As ns cs, .slice Ab n c] w fun e w' => e = .returned (.bool true) ∧ Below w.heap.size w w' := by
  cases hsm : smallOk ns []
  · exact ubi_small As Ab ns cs n c ls bb w hb hsm
  · cases hf : fewOk ls
    · exact ubi_few As Ab ns cs n c ls bb w hb hsm hf
    · exact ubi_ok As Ab ns cs n c ss ls bb w hs hb hsm hf

end Go.Proofs.Ytodcogngejgpfaa
