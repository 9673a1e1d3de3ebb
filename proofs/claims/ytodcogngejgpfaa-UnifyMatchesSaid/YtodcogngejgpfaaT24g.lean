/- The walk of UnifyMatches. -/
import Derived.Test.YtodcogngejgpfaaN13g
import Derived.Test.YtodcogngejgpfaaY21g
import Derived.Test.YtodcogngejgpfaaO3g
import Derived.Test.YtodcogngejgpfaaN23g
/- The walk of UnifyApplies. -/
namespace Go.Proofs.Ytodcogngejgpfaa
open Go.RowKit

theorem hds_one (w : World) (A : Option Addr) (n c : Nat) : HdsAt (w.alloc (.cells #[.slice A n c] 30)) (w.alloc (.cells #[.slice A n c] 30)).heap.size (some ⟨w.heap.size, 0, none⟩) 1 [(A, n, c)] := by
  have hk := Blk.new w 30 #[.slice A n c]
  refine ⟨rfl, by omega, fun _ => ⟨w.heap.size, 0, rfl, hk.lt, fun j hj => ?_⟩⟩
  obtain rfl : j = 0 := by simpa using hj
  simp

set_option maxRecDepth 100000 in
set_option maxHeartbeats 2000000 in
theorem uap_small (As Ab At : Option Addr) (ns cs n c nt ct : Nat) (w : World) (hsm : smallOk ns [(At, nt, ct)] = false) :
    Calls Try.prog 4 #[.slice As ns cs, .slice Ab n c, .slice At nt ct] w fun e w' => e = .returned (.bool true) ∧ Below w.heap.size w w' := by
  have HS := Lib.hid (small_any As (some ⟨w.heap.size, 0, none⟩) ns cs 1 1 [(At, nt, ct)] _ _ (hds_one w At nt ct))
  have HSM := Lib.hid hsm
  clear hsm
  go_enter Try.func4, Try.ntmps4
  go_wp2_with (first
    | (go_at_call 15; refine HS.out.mono ?_; rintro e w' ⟨rfl, rfl⟩; rw [HSM.out])
    | (go_at_call 17; refine (awake2_any _).mono ?_; rintro e w' ⟨rfl, hB'⟩; have HB' := Lib.hid hB'))
  go_ret
  exact ⟨rfl, below_then (bel_al (Below.refl _ _) _) HB'.out⟩

set_option maxRecDepth 100000 in
set_option maxHeartbeats 2000000 in
theorem uap_few (As Ab At : Option Addr) (ns cs n c nt ct : Nat) (ls : List Hd) (bb : List Bd) (w : World) (hb : BindsAt w w.heap.size Ab n ls bb) (hsm : smallOk ns [(At, nt, ct)] = true) (hf : fewOk ls = false) :
    Calls Try.prog 4 #[.slice As ns cs, .slice Ab n c, .slice At nt ct] w fun e w' => e = .returned (.bool true) ∧ Below w.heap.size w w' := by
  have hB0 : Below w.heap.size w (w.alloc (.cells #[.slice At nt ct] 30)) := bel_al (Below.refl _ _) _
  have HS := Lib.hid (small_any As (some ⟨w.heap.size, 0, none⟩) ns cs 1 1 [(At, nt, ct)] _ _ (hds_one w At nt ct))
  have HF := Lib.hid (few_any Ab n c ls bb _ _ (hb.up hB0))
  have HSM := Lib.hid hsm
  have HFF := Lib.hid hf
  have HB0 := Lib.hid hB0
  clear hb hsm hf hB0
  go_enter Try.func4, Try.ntmps4
  go_wp2_with (first
    | (go_at_call 15; refine HS.out.mono ?_; rintro e w' ⟨rfl, rfl⟩; rw [HSM.out])
    | (go_at_call 16; refine HF.out.mono ?_; rintro e w' ⟨rfl, rfl⟩; rw [HFF.out])
    | (go_at_call 17; refine (awake2_any _).mono ?_; rintro e w' ⟨rfl, hB'⟩; have HB' := Lib.hid (below_then HB0.out hB')))
  go_ret
  exact ⟨rfl, HB'.out⟩

set_option maxRecDepth 100000 in
set_option maxHeartbeats 2000000 in
theorem uap_ok (As Ab At : Option Addr) (ns cs n c nt ct : Nat) (ss : Sg) (ls : List Hd) (bb : List Bd) (zs : List Int) (w : World) (hs : SigAt w w.heap.size As ns ss) (hb : BindsAt w w.heap.size Ab n ls bb) (ht : IntsAt w w.heap.size At nt zs) (hsm : smallOk ns [(At, nt, ct)] = true) (hf : fewOk ls = true) :
    Calls Try.prog 4 #[.slice As ns cs, .slice Ab n c, .slice At nt ct] w fun e w' => e = .returned (.bool true) ∧ Below w.heap.size w w' := by
  have hn : n ≤ 1000000 := by
    unfold fewOk at hf
    simp only [Bool.and_eq_true, decide_eq_true_eq] at hf
    have := hb.ll
    omega
  have hB0 : Below w.heap.size w (w.alloc (.cells #[.slice At nt ct] 30)) := bel_al (Below.refl _ _) _
  have HS := Lib.hid (small_any As (some ⟨w.heap.size, 0, none⟩) ns cs 1 1 [(At, nt, ct)] _ _ (hds_one w At nt ct))
  have HF := Lib.hid (few_any Ab n c ls bb _ _ (hb.up hB0))
  have HSM := Lib.hid hsm
  have HFF := Lib.hid hf
  have HB0 := Lib.hid hB0
  have C1 := Lib.hid (fun V (h : Below w.heap.size w V) => apply_any As Ab At ns cs n c nt ct ss ls bb zs V (hs.up h) (hb.up h) (ht.up h) hn)
  have C2 := Lib.hid (fun V (h : Below w.heap.size w V) => refApply_any As Ab At ns cs n c nt ct ss ls bb zs V (hs.up h) (hb.up h) (ht.up h) hn)
  have C3 := Lib.hid (fun V (v : Int) (h : Below w.heap.size w V) (h1 : -1 ≤ v) (h2 : v ≤ 12) => occurs_any As At ns cs nt ct v ss zs V (hs.up h) (ht.up h) (by omega) (by omega))
  have C4 := Lib.hid (fun V (v : Int) (h : Below w.heap.size w V) (h1 : -1 ≤ v) (h2 : v ≤ 12) => refOccurs_any As At ns cs nt ct v ss zs V (hs.up h) (ht.up h) (by omega) (by omega))
  obtain ⟨R, hR⟩ : ∃ R, applZ ss bb zs = R := ⟨_, rfl⟩
  simp only [hR] at C1 C2
  obtain ⟨xs, er⟩ := R
  simp only at C1 C2
  have heq : (er != er) = false := by simp
  clear hb hs ht hsm hf hR hB0
  go_enter Try.func4, Try.ntmps4
  go_wp2_with (first
    | (go_at_call 15; refine HS.out.mono ?_; rintro e w' ⟨rfl, rfl⟩; rw [HSM.out])
    | (go_at_call 16; refine HF.out.mono ?_; rintro e w' ⟨rfl, rfl⟩; rw [HFF.out])
    | (go_at_call 24; ((with_reducible refine (C1.out _ HB0.out).mono ?_); clear C1; rintro e V1 ⟨A1, n1, c1, rfl, hI1, hB1⟩; have HI1 := Lib.hid hI1; have HB1 := Lib.hid (below_then HB0.out hB1); clear hI1 hB1))
    | (go_at_call 25; ((with_reducible refine (C2.out _ HB1.out).mono ?_); rintro e V2 ⟨A2, n2, c2, rfl, hI2, hB2⟩; have HI12 := Lib.hid (HI1.out.up hB2); have HI2 := Lib.hid hI2; have HB2 := Lib.hid (below_then HB1.out hB2); clear hI2 hB2))
    | (go_at_call 26; ((with_reducible refine (same_self _ _ _ _ _ _ xs _ _ HI12.out HI2.out).mono ?_); rintro e V3 ⟨rfl, j3, rfl⟩; have HB3 := Lib.hid (below_drewN HB2.out j3))))
  go_loopw [11] (fun i wr => ∃ v : Int, -1 ≤ v ∧ v ≤ 13 ∧ i = .int .i64 v ∧ Below w.heap.size w wr) (fun i _ => (13 - intOf i).toNat)
  case atStart => exact ⟨-1, by omega, by omega, rfl, HB3.out⟩
  case round =>
    obtain ⟨v, h1, h2, rfl, hB⟩ := hrel
    have HB := Lib.hid hB
    clear hB
    by_cases hlt : v ≤ 12
    · have CA := Lib.hid (C3.out wr v HB.out h1 hlt)
      have CB := Lib.hid (fun V (h : Below w.heap.size w V) => C4.out V v h h1 hlt)
      obtain ⟨⟨q, er2⟩, hR⟩ : ∃ R, occZ ss v zs = R := ⟨_, rfl⟩
      simp only [hR] at CA CB
      have hq : (q != q) = false := by simp
      have hq2 : (er2 != er2) = false := by simp
      clear hR
      go_wp2_with (first
        | (go_at_call 27; ((with_reducible refine CA.out.mono ?_); rintro e V5 ⟨rfl, hB5⟩; have HB5 := Lib.hid (below_then HB.out hB5); clear hB5))
        | (go_at_call 28; ((with_reducible refine (CB.out _ HB5.out).mono ?_); rintro e V6 ⟨rfl, hB6⟩; have HB6 := Lib.hid (below_then HB5.out hB6); clear hB6)))
      go_roundw
      case rel => exact ⟨v + 1, by omega, by omega, by go_num, HB6.out⟩
      case measure => simp [intOf]; omega
    · obtain rfl : v = 13 := by omega
      go_wp2_with (go_at_call 17; refine (awake2_any _).mono ?_; rintro e V7 ⟨rfl, hB7⟩; have HB7 := Lib.hid (below_then HB.out hB7))
      go_ret
      exact ⟨rfl, HB7.out⟩

theorem uap_walk (As Ab At : Option Addr) (ns cs n c nt ct : Nat) (ss : Sg) (ls : List Hd) (bb : List Bd) (zs : List Int) (w : World) (hs : SigAt w w.heap.size As ns ss) (hb : BindsAt w w.heap.size Ab n ls bb) (ht : IntsAt w w.heap.size At nt zs) :
    Calls Try.prog 4 #[.slice As ns cs, .slice Ab n c, .slice At nt ct] w fun e w' => e = .returned (.bool true) ∧ Below w.heap.size w w' := by
  cases hsm : smallOk ns [(At, nt, ct)]
  · exact uap_small As Ab At ns cs n c nt ct w hsm
  · cases hf : fewOk ls
    · exact uap_few As Ab At ns cs n c nt ct ls bb w hb hsm hf
    · exact uap_ok As Ab At ns cs n c nt ct ss ls bb zs w hs hb ht hsm hf

end Go.Proofs.Ytodcogngejgpfaa

namespace Go.Proofs.Ytodcogngejgpfaa
open Go.RowKit

set_option maxRecDepth 100000 in
set_option maxHeartbeats 2000000 in
theorem uma_small (As Aa Ab : Option Addr) (ns cs na ca nb cb : Nat) (za zb : List Int) (w : World) (ha : IntsAt w w.heap.size Aa na za) (hb : IntsAt w w.heap.size Ab nb zb) (hsm : smallOk ns [(Aa, na, ca), (Ab, nb, cb)] = false) :
    Calls Try.prog 7 #[.slice As ns cs, .slice Aa na ca, .slice Ab nb cb] w fun e w' => e = .returned (.bool true) ∧ Below w.heap.size w w' := by
  have HS := Lib.hid (small_any As (some ⟨w.heap.size, 0, none⟩) ns cs 2 2 [(Aa, na, ca), (Ab, nb, cb)] _ _ (TermsAt.two (ca := ca) (cb := cb) ha hb).hds)
  have HSM := Lib.hid hsm
  clear hsm ha hb
  go_enter Try.func7, Try.ntmps7
  go_wp2_with (first
    | (go_at_call 15; refine HS.out.mono ?_; rintro e w' ⟨rfl, rfl⟩; rw [HSM.out])
    | (go_at_call 17; refine (awake2_any _).mono ?_; rintro e w' ⟨rfl, hB'⟩; have HB' := Lib.hid hB'))
  go_ret
  exact ⟨rfl, below_then (bel_al (Below.refl _ _) _) HB'.out⟩

set_option maxRecDepth 100000 in
set_option maxHeartbeats 4000000 in
theorem uma_ok (As Aa Ab : Option Addr) (ns cs na ca nb cb : Nat) (ss : Sg) (za zb : List Int) (w : World) (hs : SigAt w w.heap.size As ns ss) (ha : IntsAt w w.heap.size Aa na za) (hb : IntsAt w w.heap.size Ab nb zb) (hc : nb ≤ cb) (hc2 : cb ≤ 9223372036854775807) (hsm : smallOk ns [(Aa, na, ca), (Ab, nb, cb)] = true) :
    Calls Try.prog 7 #[.slice As ns cs, .slice Aa na ca, .slice Ab nb cb] w fun e w' => e = .returned (.bool true) ∧ Below w.heap.size w w' := by
  have hB0 : Below w.heap.size w (w.alloc (.cells #[.slice Aa na ca, .slice Ab nb cb] 30)) := bel_al (Below.refl _ _) _
  have HS := Lib.hid (small_any As (some ⟨w.heap.size, 0, none⟩) ns cs 2 2 [(Aa, na, ca), (Ab, nb, cb)] _ _ (TermsAt.two (ca := ca) (cb := cb) ha hb).hds)
  have HSM := Lib.hid hsm
  have HB0 := Lib.hid hB0
  have HB := Lib.hid hb
  have C1 := Lib.hid (fun V (h : Below w.heap.size w V) => match_any As Aa Ab ns cs na ca nb cb ss za zb V (hs.up h) (ha.up h) (hb.up h) hc hc2)
  have C2 := Lib.hid (fun V (h : Below w.heap.size w V) => refMatch_any As Aa Ab ns cs na ca nb cb ss za zb V (hs.up h) (ha.up h) (hb.up h) hc hc2)
  have C3 := Lib.hid (fun V (h : Below w.heap.size w V) => instance_any As Aa Ab ns cs na ca nb cb ss za zb V (hs.up h) (ha.up h) (hb.up h) hc hc2)
  have C4 := Lib.hid (fun V (h : Below w.heap.size w V) => refInstance_any As Aa Ab ns cs na ca nb cb ss za zb V (hs.up h) (ha.up h) (hb.up h) hc hc2)
  obtain ⟨q, hq⟩ : ∃ q, insB ss za zb = q := ⟨_, rfl⟩
  simp only [hq] at C3 C4
  have hqq : (q != q) = false := by simp
  obtain ⟨Z, hZ⟩ : ∃ Z, matZ ss za zb = Z := ⟨_, rfl⟩
  have hsound := mat_sound (ss := ss) (za := za) (zb := zb)
  have hlen := mat_len ss za zb
  rw [hZ] at hsound hlen
  simp only [hZ] at C1 C2
  obtain ⟨bb, er⟩ := Z
  simp only at C1 C2 hsound hlen
  have heq : (er != er) = false := by simp
  by_cases h0 : er = 0
  · subst h0
    obtain ⟨s1, s2, s3, s4⟩ := hsound rfl
    have hz60 := (valOk_term s2).2.1
    have hap : applZ ss bb za = (zb, 0) := by
      unfold applZ
      simp [s1, s3, s4, hz60]
    have C5 := Lib.hid (fun (V : World) (Al : Option Addr) (nl cl : Nat) (ll : List Hd) (h : Below w.heap.size w V) (hl : BindsAt V V.heap.size Al nl ll bb) => apply_any As Al Aa ns cs nl cl na ca ss ll bb za V (hs.up h) hl (ha.up h) (by
      have h1 := hl.len
      omega))
    simp only [hap] at C5
    clear hs ha hb hsm hB0 hq hZ hsound s1 s2 s3 s4 hz60 hap
    go_enter Try.func7, Try.ntmps7
    go_wp2_with (first
      | (go_at_call 15; refine HS.out.mono ?_; rintro e w' ⟨rfl, rfl⟩; rw [HSM.out])
      | (go_at_call 32; ((with_reducible refine (C1.out _ HB0.out).mono ?_); clear C1; rintro e V1 ⟨A1, n1, c1, l1, rfl, hI1, hB1⟩; have HI1 := Lib.hid hI1; have HB1 := Lib.hid (below_then HB0.out hB1); clear hI1 hB1))
      | (go_at_call 33; ((with_reducible refine (C2.out _ HB1.out).mono ?_); rintro e V2 ⟨A2, n2, c2, l2, rfl, hI2, hB2⟩; have HI12 := Lib.hid (HI1.out.up hB2); have HI2 := Lib.hid hI2; have HB2 := Lib.hid (below_then HB1.out hB2); clear hI2 hB2))
      | (go_at_call 31; ((with_reducible refine (sameBinds_self _ _ _ _ _ _ _ _ bb _ _ HI12.out HI2.out).mono ?_); rintro e V3 ⟨rfl, h3⟩; have HB3 := Lib.hid (show Below w.heap.size w V3 ∧ Below V2.heap.size V2 V3 from by obtain ⟨j3, rfl⟩ := h3; exact ⟨below_drewN HB2.out j3, below_drewN (Below.refl _ _) j3⟩); clear h3))
      | (go_at_call 34; ((with_reducible refine (C3.out _ HB3.out.1).mono ?_); rintro e V4 ⟨rfl, hB4⟩; have HB4 := Lib.hid (And.intro (below_then HB3.out.1 hB4) (below_then HB3.out.2 hB4)); clear hB4))
      | (go_at_call 35; ((with_reducible refine (C4.out _ HB4.out.1).mono ?_); rintro e V5 ⟨rfl, hB5⟩; have HB5 := Lib.hid (And.intro (below_then HB4.out.1 hB5) (below_then HB4.out.2 hB5)); clear hB5))
      | (go_at_call 24; ((with_reducible refine (C5.out _ _ _ _ _ HB5.out.1 (HI12.out.up HB5.out.2)).mono ?_); rintro e V6 ⟨A6, n6, c6, rfl, hI6, hB6⟩; have HI6 := Lib.hid hI6; have HB6 := Lib.hid (below_then HB5.out.1 hB6); clear hI6 hB6))
      | (go_at_call 26; ((with_reducible refine (same_self _ _ _ _ _ _ zb _ _ HI6.out (HB.out.up HB6.out)).mono ?_); rintro e V7 ⟨rfl, j7, rfl⟩; have HB7 := Lib.hid (below_drewN HB6.out j7)))
      | (go_at_call 17; refine (awake2_any _).mono ?_; rintro e V8 ⟨rfl, hB8⟩; have HB8 := Lib.hid (below_then HB7.out hB8); clear hB8))
    go_ret
    exact ⟨rfl, HB8.out⟩
  · have hne : (er != 0) = true := by simpa using h0
    clear hs ha hb hsm hB0 hq hZ hsound HB h0
    go_enter Try.func7, Try.ntmps7
    go_wp2_with (first
      | (go_at_call 15; refine HS.out.mono ?_; rintro e w' ⟨rfl, rfl⟩; rw [HSM.out])
      | (go_at_call 32; ((with_reducible refine (C1.out _ HB0.out).mono ?_); clear C1; rintro e V1 ⟨A1, n1, c1, l1, rfl, hI1, hB1⟩; have HI1 := Lib.hid hI1; have HB1 := Lib.hid (below_then HB0.out hB1); clear hI1 hB1))
      | (go_at_call 33; ((with_reducible refine (C2.out _ HB1.out).mono ?_); rintro e V2 ⟨A2, n2, c2, l2, rfl, hI2, hB2⟩; have HI12 := Lib.hid (HI1.out.up hB2); have HI2 := Lib.hid hI2; have HB2 := Lib.hid (below_then HB1.out hB2); clear hI2 hB2))
      | (go_at_call 31; ((with_reducible refine (sameBinds_self _ _ _ _ _ _ _ _ bb _ _ HI12.out HI2.out).mono ?_); rintro e V3 ⟨rfl, h3⟩; have HB3 := Lib.hid (show Below w.heap.size w V3 from by obtain ⟨j3, rfl⟩ := h3; exact below_drewN HB2.out j3); clear h3))
      | (go_at_call 34; ((with_reducible refine (C3.out _ HB3.out).mono ?_); rintro e V4 ⟨rfl, hB4⟩; have HB4 := Lib.hid (below_then HB3.out hB4); clear hB4))
      | (go_at_call 35; ((with_reducible refine (C4.out _ HB4.out).mono ?_); rintro e V5 ⟨rfl, hB5⟩; have HB5 := Lib.hid (below_then HB4.out hB5); clear hB5))
      | (go_at_call 17; refine (awake2_any _).mono ?_; rintro e V8 ⟨rfl, hB8⟩; have HB8 := Lib.hid (below_then HB5.out hB8); clear hB8))
    go_ret
    exact ⟨rfl, HB8.out⟩

theorem uma_walk (As Aa Ab : Option Addr) (ns cs na ca nb cb : Nat) (ss : Sg) (za zb : List Int) (w : World) (hs : SigAt w w.heap.size As ns ss) (ha : IntsAt w w.heap.size Aa na za) (hb : IntsAt w w.heap.size Ab nb zb) (hc : nb ≤ cb) (hc2 : cb ≤ 9223372036854775807) :
    Calls Try.prog 7 #[.slice As ns cs, .slice Aa na ca, .slice Ab nb cb] w fun e w' => e = .returned (.bool true) ∧ Below w.heap.size w w' := by
  cases hsm : smallOk ns [(Aa, na, ca), (Ab, nb, cb)]
  · exact uma_small As Aa Ab ns cs na ca nb cb za zb w ha hb hsm
  · exact uma_ok As Aa Ab ns cs na ca nb cb ss za zb w hs ha hb hc hc2 hsm

end Go.Proofs.Ytodcogngejgpfaa
