/- The walk of UnifyApplies. -/
import Derived.Test.YtodcogngejgpfaaN13g
import Derived.Test.YtodcogngejgpfaaY21g
import Derived.Test.YtodcogngejgpfaaO3g
namespace Go.Proofs.Ytodcogngejgpfaa
open Go.RowKit

theorem hds_one (w : World) (A : Option Addr) (n c : Nat) : HdsAt (w.alloc (.cells #[.slice A n c] 30)) (w.alloc (.cells #[.slice A n c] 30)).heap.size (some ⟨w.heap.size, 0, none⟩) 1 [(A, n, c)] := by
  have hk := Blk.new w 30 #[.slice A n c]
  refine ⟨rfl, by omega, fun _ => ⟨w.heap.size, 0, rfl, hk.lt, fun j hj => ?_⟩⟩
  obtain rfl : j = 0 := by simpa using hj
  simp

set_option maxRecDepth 100000 in
set_option maxHeartbeats 2000000 in
theorem uap_small (As Ab At : Option Addr) (ns cs n c nt ct : Nat) (w : World) (hsm : smallOk ns [(At, nt, ct)] = false) :
    Calls Try.prog 4 #[.slice As ns cs, .slice Ab n c, .slice At nt ct] w fun e w' => e = .returned (.bool true) ∧ Below w.heap.size w w' := by
  have HS := Lib.hid (small_any As (some ⟨w.heap.size, 0, none⟩) ns cs 1 1 [(At, nt, ct)] _ _ (hds_one w At nt ct))
  have HSM := Lib.hid hsm
  clear hsm
  go_enter Try.func4, Try.ntmps4
  go_wp2_with (first
    | (go_at_call 15; refine HS.out.mono ?_; rintro e w' ⟨rfl, rfl⟩; rw [HSM.out])
    | (go_at_call 17; refine (awake2_any _).mono ?_; rintro e w' ⟨rfl, hB'⟩; have HB' := Lib.hid hB'))
  go_ret
  exact ⟨rfl, below_then (bel_al (Below.refl _ _) _) HB'.out⟩

set_option maxRecDepth 100000 in
set_option maxHeartbeats 2000000 in
theorem uap_few (As Ab At : Option Addr) (ns cs n c nt ct : Nat) (ls : List Hd) (bb : List Bd) (w : World) (hb : BindsAt w w.heap.size Ab n ls bb) (hsm : smallOk ns [(At, nt, ct)] = true) (hf : fewOk ls = false) :
    Calls Try.prog 4 #[.slice As ns cs, .slice Ab n c, .slice At nt ct] w fun e w' => e = .returned (.bool true) ∧ Below w.heap.size w w' := by
  have hB0 : Below w.heap.size w (w.alloc (.cells #[.slice At nt ct] 30)) := bel_al (Below.refl _ _) _
  have HS := Lib.hid (small_any As (some ⟨w.heap.size, 0, none⟩) ns cs 1 1 [(At, nt, ct)] _ _ (hds_one w At nt ct))
  have HF := Lib.hid (few_any Ab n c ls bb _ _ (hb.up hB0))
  have HSM := Lib.hid hsm
  have HFF := Lib.hid hf
  have HB0 := Lib.hid hB0
  clear hb hsm hf hB0
  go_enter Try.func4, Try.ntmps4
  go_wp2_with (first
    | (go_at_call 15; refine HS.out.mono ?_; rintro e w' ⟨rfl, rfl⟩; rw [HSM.out])
    | (go_at_call 16; refine HF.out.mono ?_; rintro e w' ⟨rfl, rfl⟩; rw [HFF.out])
    | (go_at_call 17; refine (awake2_any _).mono ?_; rintro e w' ⟨rfl, hB'⟩; have HB' := Lib.hid (below_then HB0.out hB')))
  go_ret
  exact ⟨rfl, HB'.out⟩

set_option maxRecDepth 100000 in
set_option maxHeartbeats 2000000 in
theorem uap_ok (As Ab At : Option Addr) (ns cs n c nt ct : Nat) (ss : Sg) (ls : List Hd) (bb : List Bd) (zs : List Int) (w : World) (hs : SigAt w w.heap.size As ns ss) (hb : BindsAt w w.heap.size Ab n ls bb) (ht : IntsAt w w.heap.size At nt zs) (hsm : smallOk ns [(At, nt, ct)] = true) (hf : fewOk ls = true) :
    Calls Try.prog 4 #[.slice As ns cs, .slice Ab n c, .slice At nt ct] w fun e w' => e = .returned (.bool true) ∧ Below w.heap.size w w' := by
  have hn : n ≤ 1000000 := by
    unfold fewOk at hf
    simp only [Bool.and_eq_true, decide_eq_true_eq] at hf
    have := hb.ll
    omega
  have hB0 : Below w.heap.size w (w.alloc (.cells #[.slice At nt ct] 30)) := bel_al (Below.refl _ _) _
  have HS := Lib.hid (small_any As (some ⟨w.heap.size, 0, none⟩) ns cs 1 1 [(At, nt, ct)] _ _ (hds_one w At nt ct))
  have HF := Lib.hid (few_any Ab n c ls bb _ _ (hb.up hB0))
  have HSM := Lib.hid hsm
  have HFF := Lib.hid hf
  have HB0 := Lib.hid hB0
  have C1 := Lib.hid (fun V (h : Below w.heap.size w V) => apply_any As Ab At ns cs n c nt ct ss ls bb zs V (hs.up h) (hb.up h) (ht.up h) hn)
  have C2 := Lib.hid (fun V (h : Below w.heap.size w V) => refApply_any As Ab At ns cs n c nt ct ss ls bb zs V (hs.up h) (hb.up h) (ht.up h) hn)
  have C3 := Lib.hid (fun V (v : Int) (h : Below w.heap.size w V) (h1 : -1 ≤ v) (h2 : v ≤ 12) => occurs_any As At ns cs nt ct v ss zs V (hs.up h) (ht.up h) (by omega) (by omega))
  have C4 := Lib.hid (fun V (v : Int) (h : Below w.heap.size w V) (h1 : -1 ≤ v) (h2 : v ≤ 12) => refOccurs_any As At ns cs nt ct v ss zs V (hs.up h) (ht.up h) (by omega) (by omega))
  obtain ⟨R, hR⟩ : ∃ R, applZ ss bb zs = R := ⟨_, rfl⟩
  simp only [hR] at C1 C2
  obtain ⟨xs, er⟩ := R
  simp only at C1 C2
  have heq : (er != er) = false := by simp
  clear hb hs ht hsm hf hR hB0
  go_enter Try.func4, Try.ntmps4
  go_wp2_with (first
    | (go_at_call 15; refine HS.out.mono ?_; rintro e w' ⟨rfl, rfl⟩; rw [HSM.out])
    | (go_at_call 16; refine HF.out.mono ?_; rintro e w' ⟨rfl, rfl⟩; rw [HFF.out])
    | (go_at_call 24; ((with_reducible refine (C1.out _ HB0.out).mono ?_); clear C1; rintro e V1 ⟨A1, n1, c1, rfl, hI1, hB1⟩; have HI1 := Lib.hid hI1; have HB1 := Lib.hid (below_then HB0.out hB1); clear hI1 hB1))
    | (go_at_call 25; ((with_reducible refine (C2.out _ HB1.out).mono ?_); rintro e V2 ⟨A2, n2, c2, rfl, hI2, hB2⟩; have HI12 := Lib.hid (HI1.out.up hB2); have HI2 := Lib.hid hI2; have HB2 := Lib.hid (below_then HB1.out hB2); clear hI2 hB2))
    | (go_at_call 26; ((with_reducible refine (same_self _ _ _ _ _ _ xs _ _ HI12.out HI2.out).mono ?_); rintro e V3 ⟨rfl, j3, rfl⟩; have HB3 := Lib.hid (below_drewN HB2.out j3))))
  go_loopw [11] (fun i wr => ∃ v : Int, -1 ≤ v ∧ v ≤ 13 ∧ i = .int .i64 v ∧ Below w.heap.size w wr) (fun i _ => (13 - intOf i).toNat)
  case atStart => exact ⟨-1, by omega, by omega, rfl, HB3.out⟩
  case round =>
    obtain ⟨v, h1, h2, rfl, hB⟩ := hrel
    have HB := Lib.hid hB
    clear hB
    by_cases hlt : v ≤ 12
    · have CA := Lib.hid (C3.out wr v HB.out h1 hlt)
      have CB := Lib.hid (fun V (h : Below w.heap.size w V) => C4.out V v h h1 hlt)
      obtain ⟨⟨q, er2⟩, hR⟩ : ∃ R, occZ ss v zs = R := ⟨_, rfl⟩
      simp only [hR] at CA CB
      have hq : (q != q) = false := by simp
      have hq2 : (er2 != er2) = false := by simp
      clear hR
      go_wp2_with (first
        | (go_at_call 27; ((with_reducible refine CA.out.mono ?_); rintro e V5 ⟨rfl, hB5⟩; have HB5 := Lib.hid (below_then HB.out hB5); clear hB5))
        | (go_at_call 28; ((with_reducible refine (CB.out _ HB5.out).mono ?_); rintro e V6 ⟨rfl, hB6⟩; have HB6 := Lib.hid (below_then HB5.out hB6); clear hB6)))
      go_roundw
      case rel => exact ⟨v + 1, by omega, by omega, by go_num, HB6.out⟩
      case measure => simp [intOf]; omega
    · obtain rfl : v = 13 := by omega
      go_wp2_with (go_at_call 17; refine (awake2_any _).mono ?_; rintro e V7 ⟨rfl, hB7⟩; have HB7 := Lib.hid (below_then HB.out hB7))
      go_ret
      exact ⟨rfl, HB7.out⟩

theorem uap_walk (As Ab At : Option Addr) (ns cs n c nt ct : Nat) (ss : Sg) (ls : List Hd) (bb : List Bd) (zs : List Int) (w : World) (hs : SigAt w w.heap.size As ns ss) (hb : BindsAt w w.heap.size Ab n ls bb) (ht : IntsAt w w.heap.size At nt zs) :
    Calls Try.prog 4 #[.slice As ns cs, .slice Ab n c, .slice At nt ct] w fun e w' => e = .returned (.bool true) ∧ Below w.heap.size w w' := by
  cases hsm : smallOk ns [(At, nt, ct)]
  · exact uap_small As Ab At ns cs n c nt ct w hsm
  · cases hf : fewOk ls
    · exact uap_few As Ab At ns cs n c nt ct ls bb w hb hsm hf
    · exact uap_ok As Ab At ns cs n c nt ct ss ls bb zs w hs hb ht hsm hf

end Go.Proofs.Ytodcogngejgpfaa
