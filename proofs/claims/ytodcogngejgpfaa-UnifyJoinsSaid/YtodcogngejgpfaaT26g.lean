/- The walk of UnifyJoins. -/
import Derived.Test.YtodcogngejgpfaaN29g
namespace Go.Proofs.Ytodcogngejgpfaa
open Go.RowKit

theorem joZ_swap (ss : Sg) (za zb : List Int) : joZ ss zb za = joZ ss za zb := by
  unfold joZ
  cases ha : valOk ss za
  · simp
  · cases hb : valOk ss zb
    · simp
    · simp [joinZ_swap ha hb]
theorem joZ_ok {ss : Sg} {za zb t : List Int} (h : joZ ss za zb = (t, 0)) : valOk ss za = true ∧ valOk ss zb = true ∧ joinZ ss za zb = (t, 0) := by
  unfold joZ at h
  split at h
  · rename_i hv
    rw [Bool.and_eq_true] at hv
    exact ⟨hv.1, hv.2, h⟩
  · simp at h

set_option maxRecDepth 100000 in
set_option maxHeartbeats 2000000 in
theorem ujo_small (As Aa Ab : Option Addr) (ns cs na ca nb cb : Nat) (za zb : List Int) (w : World) (ha : IntsAt w w.heap.size Aa na za) (hb : IntsAt w w.heap.size Ab nb zb) (hsm : smallOk ns [(Aa, na, ca), (Ab, nb, cb)] = false) :
    Calls Try.prog 12 #[.slice As ns cs, .slice Aa na ca, .slice Ab nb cb] w fun e w' => e = .returned (.bool true) ∧ Below w.heap.size w w' := by
  have HS := Lib.hid (small_any As (some ⟨w.heap.size, 0, none⟩) ns cs 2 2 [(Aa, na, ca), (Ab, nb, cb)] _ _ (TermsAt.two (ca := ca) (cb := cb) ha hb).hds)
  have HSM := Lib.hid hsm
  clear hsm ha hb
  go_enter Try.func12, Try.ntmps12
  go_wp2_with (first
    | (go_at_call 15; refine HS.out.mono ?_; rintro e w' ⟨rfl, rfl⟩; rw [HSM.out])
    | (go_at_call 17; refine (awake2_any _).mono ?_; rintro e w' ⟨rfl, hB'⟩; have HB' := Lib.hid hB'))
  go_ret
  exact ⟨rfl, below_then (bel_al (Below.refl _ _) _) HB'.out⟩

set_option maxRecDepth 100000 in
set_option maxHeartbeats 4000000 in
theorem ujo_ok (As Aa Ab : Option Addr) (ns cs na ca nb cb : Nat) (ss : Sg) (za zb : List Int) (w : World) (hs : SigAt w w.heap.size As ns ss) (ha : IntsAt w w.heap.size Aa na za) (hb : IntsAt w w.heap.size Ab nb zb) (hca : na ≤ ca) (hca2 : ca ≤ 9223372036854775807) (hcb : nb ≤ cb) (hcb2 : cb ≤ 9223372036854775807) (hsm : smallOk ns [(Aa, na, ca), (Ab, nb, cb)] = true) :
    Calls Try.prog 12 #[.slice As ns cs, .slice Aa na ca, .slice Ab nb cb] w fun e w' => e = .returned (.bool true) ∧ Below w.heap.size w w' := by
  have hB0 : Below w.heap.size w (w.alloc (.cells #[.slice Aa na ca, .slice Ab nb cb] 30)) := bel_al (Below.refl _ _) _
  have HS := Lib.hid (small_any As (some ⟨w.heap.size, 0, none⟩) ns cs 2 2 [(Aa, na, ca), (Ab, nb, cb)] _ _ (TermsAt.two (ca := ca) (cb := cb) ha hb).hds)
  have HSM := Lib.hid hsm
  have HB0 := Lib.hid hB0
  have C1 := Lib.hid (fun V (h : Below w.heap.size w V) => join_all As Aa Ab ns cs na ca nb cb ss za zb V (hs.up h) (ha.up h) (hb.up h) hca hca2 hcb hcb2)
  have C2 := Lib.hid (fun V (h : Below w.heap.size w V) => refJoin_any As Aa Ab ns cs na ca nb cb ss za zb V (hs.up h) (ha.up h) (hb.up h) hca hca2 hcb hcb2)
  have C3 := Lib.hid (fun V (h : Below w.heap.size w V) => join_all As Ab Aa ns cs nb cb na ca ss zb za V (hs.up h) (hb.up h) (ha.up h) hcb hcb2 hca hca2)
  simp only [joZ_swap] at C3
  obtain ⟨Z, hZ⟩ : ∃ Z, joZ ss za zb = Z := ⟨_, rfl⟩
  simp only [hZ] at C1 C2 C3
  obtain ⟨t, er⟩ := Z
  simp only at C1 C2 C3
  have heq : (er != er) = false := by simp
  by_cases h0 : er = 0
  · subst h0
    obtain ⟨va, vb, hj⟩ := joZ_ok hZ
    have h2 : (joinZ ss za zb).2 = 0 := by rw [hj]
    obtain ⟨j1, j2⟩ := join_ins va vb h2
    have jv := join_valid va vb h2
    have jl := join_alike va vb h2
    obtain ⟨l1, l2⟩ := join_len va vb
    rw [← (joinZ_ok h2).2, hj] at l1 l2
    rw [hj] at j1 j2 jv jl
    simp only at j1 j2 jv jl l1 l2
    have jself := alike_self jv
    have CAL := Lib.hid (fun (V : World) (A1 A2 : Option Addr) (n1 n2 k1 k2 : Nat) (h : Below w.heap.size w V) (h1 : IntsAt V V.heap.size A1 n1 t) (h2 : IntsAt V V.heap.size A2 n2 t) => alike_any As A1 A2 ns cs n1 k1 n2 k2 ss t t V (hs.up h) h1 h2)
    have CIA := Lib.hid (fun (V : World) (A1 : Option Addr) (n1 k1 : Nat) (h : Below w.heap.size w V) (h1 : IntsAt V V.heap.size A1 n1 t) => instance_any As A1 Aa ns cs n1 k1 na ca ss t za V (hs.up h) h1 (ha.up h) hca hca2)
    have CIB := Lib.hid (fun (V : World) (A1 : Option Addr) (n1 k1 : Nat) (h : Below w.heap.size w V) (h1 : IntsAt V V.heap.size A1 n1 t) => instance_any As A1 Ab ns cs n1 k1 nb cb ss t zb V (hs.up h) h1 (hb.up h) hcb hcb2)
    have CAB := Lib.hid (fun (V : World) (h : Below w.heap.size w V) => instance_any As Aa Ab ns cs na ca nb cb ss za zb V (hs.up h) (ha.up h) (hb.up h) hcb hcb2)
    have CTA := Lib.hid (fun (V : World) (A1 : Option Addr) (n1 k1 : Nat) (h : Below w.heap.size w V) (h1 : IntsAt V V.heap.size A1 n1 t) => alike_any As A1 Aa ns cs n1 k1 na ca ss t za V (hs.up h) h1 (ha.up h))
    rw [jl] at CAB
    obtain ⟨q, hq⟩ : ∃ q, alikeOk ss t za = q := ⟨_, rfl⟩
    simp only [hq] at CAB CTA
    simp only [jself] at CAL
    simp only [j1] at CIA
    simp only [j2] at CIB
    have hqq : (q == q) = true := by simp
    have hla := ha.len
    have hlb := hb.len
    obtain ⟨l, hl⟩ : ∃ l, t.length = l := ⟨_, rfl⟩
    rw [hl] at l1 l2
    have HL := Lib.hid hl
    have hl1 : l ≤ na := by omega
    have hl2 : l ≤ nb := by omega
    have hm1 : na ≤ 200 := by have := (valOk_term va).2.1; omega
    have hm2 : nb ≤ 200 := by have := (valOk_term vb).2.1; omega
    clear hs ha hb hsm hB0 hZ va vb hj h2 j1 j2 jv jl l1 l2 jself hq hla hlb hl
    go_enter Try.func12, Try.ntmps12
    go_wp2_with (first
      | (go_at_call 15; refine HS.out.mono ?_; rintro e w' ⟨rfl, rfl⟩; rw [HSM.out])
      | (go_at_call 52; ((with_reducible refine (C1.out _ HB0.out).mono ?_); rintro e V1 ⟨A1, n1, c1, rfl, hI1, hB1⟩; obtain rfl : n1 = l := hI1.len.trans HL.out; have HI1 := Lib.hid hI1; have HB1 := Lib.hid (below_then HB0.out hB1); clear hI1 hB1))
      | (go_at_call 53; ((with_reducible refine (C2.out _ HB1.out).mono ?_); rintro e V2 ⟨A2, n2, c2, rfl, hI2, hB2⟩; have HI12 := Lib.hid (HI1.out.up hB2); have HI2 := Lib.hid hI2; have HB2 := Lib.hid (below_then HB1.out hB2); clear hI2 hB2))
      | (go_at_call 26; ((with_reducible refine (same_self _ _ _ _ _ _ t _ _ HI12.out HI2.out).mono ?_); rintro e V3 ⟨rfl, h3⟩; have HB3 := Lib.hid (show Below w.heap.size w V3 ∧ Below V2.heap.size V2 V3 from by obtain ⟨j3, rfl⟩ := h3; exact ⟨below_drewN HB2.out j3, below_drewN (Below.refl _ _) j3⟩); have HI13 := Lib.hid (HI12.out.up HB3.out.2); clear h3))
      | (go_at_call 52; ((with_reducible refine (C3.out _ HB3.out.1).mono ?_); rintro e V4 ⟨A4, n4, c4, rfl, hI4, hB4⟩; have HI4 := Lib.hid hI4; have HI14 := Lib.hid (HI13.out.up hB4); have HB4 := Lib.hid (below_then HB3.out.1 hB4); clear hI4 hB4))
      | (go_at_call 37; ((with_reducible refine (CAL.out _ _ _ _ _ _ _ HB4.out HI4.out HI14.out).mono ?_); rintro e V5 ⟨rfl, hB5⟩; have HI15 := Lib.hid (HI14.out.up hB5); have HB5 := Lib.hid (below_then HB4.out hB5); clear hB5))
      | (go_at_call 34; ((with_reducible refine (CIA.out _ _ _ _ HB5.out HI15.out).mono ?_); rintro e V6 ⟨rfl, hB6⟩; have HI16 := Lib.hid (HI15.out.up hB6); have HB6 := Lib.hid (below_then HB5.out hB6); clear hB6))
      | (go_at_call 34; ((with_reducible refine (CIB.out _ _ _ _ HB6.out HI16.out).mono ?_); rintro e V7 ⟨rfl, hB7⟩; have HI17 := Lib.hid (HI16.out.up hB7); have HB7 := Lib.hid (below_then HB6.out hB7); clear hB7))
      | (go_at_call 34; ((with_reducible refine (CAB.out _ HB7.out).mono ?_); rintro e V8 ⟨rfl, hB8⟩; have HI18 := Lib.hid (HI17.out.up hB8); have HB8 := Lib.hid (below_then HB7.out hB8); clear hB8))
      | (go_at_call 37; ((with_reducible refine (CTA.out _ _ _ _ HB8.out HI18.out).mono ?_); rintro e V9 ⟨rfl, hB9⟩; have HB9 := Lib.hid (below_then HB8.out hB9); clear hB9))
      | (go_at_call 17; refine (awake2_any _).mono ?_; rintro e VX ⟨rfl, hBX⟩; have HBX := Lib.hid (below_then HB9.out hBX); clear hBX))
    all_goals
      go_ret
      exact ⟨rfl, HBX.out⟩
  · have hne : (er != 0) = true := by simpa using h0
    clear hs ha hb hsm hB0 hZ h0
    go_enter Try.func12, Try.ntmps12
    go_wp2_with (first
      | (go_at_call 15; refine HS.out.mono ?_; rintro e w' ⟨rfl, rfl⟩; rw [HSM.out])
      | (go_at_call 52; ((with_reducible refine (C1.out _ HB0.out).mono ?_); rintro e V1 ⟨A1, n1, c1, rfl, hI1, hB1⟩; have HI1 := Lib.hid hI1; have HB1 := Lib.hid (below_then HB0.out hB1); clear hI1 hB1))
      | (go_at_call 53; ((with_reducible refine (C2.out _ HB1.out).mono ?_); rintro e V2 ⟨A2, n2, c2, rfl, hI2, hB2⟩; have HI12 := Lib.hid (HI1.out.up hB2); have HI2 := Lib.hid hI2; have HB2 := Lib.hid (below_then HB1.out hB2); clear hI2 hB2))
      | (go_at_call 26; ((with_reducible refine (same_self _ _ _ _ _ _ t _ _ HI12.out HI2.out).mono ?_); rintro e V3 ⟨rfl, h3⟩; have HB3 := Lib.hid (show Below w.heap.size w V3 from by obtain ⟨j3, rfl⟩ := h3; exact below_drewN HB2.out j3); clear h3))
      | (go_at_call 52; ((with_reducible refine (C3.out _ HB3.out).mono ?_); rintro e V4 ⟨A4, n4, c4, rfl, hI4, hB4⟩; have HB4 := Lib.hid (below_then HB3.out hB4); clear hI4 hB4))
      | (go_at_call 17; refine (awake2_any _).mono ?_; rintro e V8 ⟨rfl, hB8⟩; have HB8 := Lib.hid (below_then HB4.out hB8); clear hB8))
    go_ret
    exact ⟨rfl, HB8.out⟩

theorem ujo_walk (As Aa Ab : Option Addr) (ns cs na ca nb cb : Nat) (ss : Sg) (za zb : List Int) (w : World) (hs : SigAt w w.heap.size As ns ss) (ha : IntsAt w w.heap.size Aa na za ∧ na ≤ ca ∧ ca ≤ 9223372036854775807) (hb : IntsAt w w.heap.size Ab nb zb ∧ nb ≤ cb ∧ cb ≤ 9223372036854775807) :
    Calls Try.prog 12 #[.slice As ns cs, .slice Aa na ca, .slice Ab nb cb] w fun e w' => e = .returned (.bool true) ∧ Below w.heap.size w w' := by
  cases hsm : smallOk ns [(Aa, na, ca), (Ab, nb, cb)]
  · exact ujo_small As Aa Ab ns cs na ca nb cb za zb w ha.1 hb.1 hsm
  · exact ujo_ok As Aa Ab ns cs na ca nb cb ss za zb w hs ha.1 hb.1 ha.2.1 ha.2.2 hb.2.1 hb.2.2 hsm

end Go.Proofs.Ytodcogngejgpfaa
