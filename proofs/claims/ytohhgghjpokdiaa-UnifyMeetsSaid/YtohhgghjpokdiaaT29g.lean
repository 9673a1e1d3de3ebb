/- The walk of UnifyMeets. -/
import Derived.Test.YtohhgghjpokdiaaN29g
import Derived.Test.YtohhgghjpokdiaaZHg
namespace Go.Proofs.Ytohhgghjpokdiaa
open Go.RowKit

theorem comZ_swap (ss : Sg) (za zb : List Int) : comZ ss 12 zb za = comZ ss 12 za zb := by
  cases ha : valOk ss za
  · rw [(comZ_bad (by simp [ha])).1, (comZ_bad (by simp [ha])).1]
  · cases hb : valOk ss zb
    · rw [(comZ_bad (by simp [hb])).1, (comZ_bad (by simp [hb])).1]
    · exact (meet_swap ha hb).1
theorem comZ_valid {ss : Sg} {sh : Int} {za zb : List Int} (h : (comZ ss sh za zb).2 = 0) : valOk ss za = true ∧ valOk ss zb = true := by
  cases hv : (valOk ss za && valOk ss zb)
  · rw [(comZ_bad hv).1] at h; cases h
  · rw [Bool.and_eq_true] at hv; exact hv

set_option maxRecDepth 100000 in
set_option maxHeartbeats 2000000 in
theorem ume_small (As Aa Ab : Option Addr) (ns cs na ca nb cb : Nat) (za zb : List Int) (w : World) (ha : IntsAt w w.heap.size Aa na za) (hb : IntsAt w w.heap.size Ab nb zb) (hsm : smallOk ns [(Aa, na, ca), (Ab, nb, cb)] = false) :
    Calls Try.prog 11 #[.slice As ns cs, .slice Aa na ca, .slice Ab nb cb] w fun e w' => e = .returned (.bool true) ∧ Below w.heap.size w w' := by
  have HS := Lib.hid (small_any As (some ⟨w.heap.size, 0, none⟩) ns cs 2 2 [(Aa, na, ca), (Ab, nb, cb)] _ _ (TermsAt.two (ca := ca) (cb := cb) ha hb).hds)
  have HSM := Lib.hid hsm
  clear hsm ha hb
  go_enter Try.func11, Try.ntmps11
  go_wp2_with (first
    | (go_at_call 15; refine HS.out.mono ?_; rintro e w' ⟨rfl, rfl⟩; rw [HSM.out])
    | (go_at_call 17; refine (awake2_any _).mono ?_; rintro e w' ⟨rfl, hB'⟩; have HB' := Lib.hid hB'))
  go_ret
  exact ⟨rfl, below_then (bel_al (Below.refl _ _) _) HB'.out⟩

set_option maxRecDepth 100000 in
set_option maxHeartbeats 4000000 in
theorem ume_ok (As Aa Ab : Option Addr) (ns cs na ca nb cb : Nat) (ss : Sg) (za zb : List Int) (w : World) (hs : SigAt w w.heap.size As ns ss) (ha : IntsAt w w.heap.size Aa na za) (hb : IntsAt w w.heap.size Ab nb zb) (hca : na ≤ ca) (hca2 : ca ≤ 9223372036854775807) (hcb : nb ≤ cb) (hcb2 : cb ≤ 9223372036854775807) (hsm : smallOk ns [(Aa, na, ca), (Ab, nb, cb)] = true) :
    Calls Try.prog 11 #[.slice As ns cs, .slice Aa na ca, .slice Ab nb cb] w fun e w' => e = .returned (.bool true) ∧ Below w.heap.size w w' := by
  have hB0 : Below w.heap.size w (w.alloc (.cells #[.slice Aa na ca, .slice Ab nb cb] 30)) := bel_al (Below.refl _ _) _
  have HS := Lib.hid (small_any As (some ⟨w.heap.size, 0, none⟩) ns cs 2 2 [(Aa, na, ca), (Ab, nb, cb)] _ _ (TermsAt.two (ca := ca) (cb := cb) ha hb).hds)
  have HSM := Lib.hid hsm
  have HB0 := Lib.hid hB0
  have ka : TermK w Aa na ca za := ⟨ha, hca, hca2⟩
  have kb : TermK w Ab nb cb zb := ⟨hb, hcb, hcb2⟩
  have C1 := Lib.hid (fun V (h : Below w.heap.size w V) => meet_all As Aa Ab ns cs na ca nb cb ss za zb V (hs.up h) (ha.up h) (hb.up h))
  have C2 := Lib.hid (fun V (h : Below w.heap.size w V) => refMeet_all As Aa Ab ns cs na ca nb cb ss za zb V (hs.up h) (ka.below h) (kb.below h))
  have C3 := Lib.hid (fun V (h : Below w.heap.size w V) => meet_all As Ab Aa ns cs nb cb na ca ss zb za V (hs.up h) (hb.up h) (ha.up h))
  have C4 := Lib.hid (fun V (h : Below w.heap.size w V) => meets_all As Aa Ab ns cs na ca nb cb ss za zb V (hs.up h) (ha.up h) (hb.up h))
  have C5 := Lib.hid (fun V (h : Below w.heap.size w V) => refMeets_all As Aa Ab ns cs na ca nb cb ss za zb V (hs.up h) (ka.below h) (kb.below h))
  simp only [comZ_swap] at C3
  obtain ⟨Z, hZ⟩ : ∃ Z, comZ ss 12 za zb = Z := ⟨_, rfl⟩
  obtain ⟨q5, hq5⟩ : ∃ q5, hasZ ss 12 za zb = q5 := ⟨_, rfl⟩
  simp only [hZ] at C1 C2 C3
  simp only [hq5] at C4 C5
  obtain ⟨t, er⟩ := Z
  simp only at C1 C2 C3
  have heq : (er != er) = false := by simp
  have hqb : (q5 != q5) = false := by simp
  obtain ⟨l, hl⟩ : ∃ l, t.length = l := ⟨_, rfl⟩
  have HL := Lib.hid hl
  by_cases h0 : er = 0
  · subst h0
    obtain ⟨va, vb⟩ := comZ_valid (ss := ss) (sh := 12) (za := za) (zb := zb) (by rw [hZ])
    have h2 : (comZ ss 12 za zb).2 = 0 := by rw [hZ]
    obtain ⟨jv, j1, j2⟩ := meet_ins va vb h2
    have jl := meet_alike va vb h2
    rw [hZ] at j1 j2 jv jl
    simp only at j1 j2 jv jl
    have jself := alike_self jv
    have CAL := Lib.hid (fun (V : World) (A1 A2 : Option Addr) (n1 n2 k1 k2 : Nat) (h : Below w.heap.size w V) (h1 : IntsAt V V.heap.size A1 n1 t) (h2 : IntsAt V V.heap.size A2 n2 t) => alike_any As A1 A2 ns cs n1 k1 n2 k2 ss t t V (hs.up h) h1 h2)
    have CIA := Lib.hid (fun (V : World) (A1 : Option Addr) (n1 k1 : Nat) (h : Below w.heap.size w V) (h1 : IntsAt V V.heap.size A1 n1 t) (hk : n1 ≤ k1 ∧ k1 ≤ 9223372036854775807) => instance_any As Aa A1 ns cs na ca n1 k1 ss za t V (hs.up h) (ha.up h) h1 hk.1 hk.2)
    have CIB := Lib.hid (fun (V : World) (A1 : Option Addr) (n1 k1 : Nat) (h : Below w.heap.size w V) (h1 : IntsAt V V.heap.size A1 n1 t) (hk : n1 ≤ k1 ∧ k1 ≤ 9223372036854775807) => instance_any As Ab A1 ns cs nb cb n1 k1 ss zb t V (hs.up h) (hb.up h) h1 hk.1 hk.2)
    have CAB := Lib.hid (fun (V : World) (h : Below w.heap.size w V) => instance_any As Aa Ab ns cs na ca nb cb ss za zb V (hs.up h) (ha.up h) (hb.up h) hcb hcb2)
    have CTB := Lib.hid (fun (V : World) (A1 : Option Addr) (n1 k1 : Nat) (h : Below w.heap.size w V) (h1 : IntsAt V V.heap.size A1 n1 t) => alike_any As A1 Ab ns cs n1 k1 nb cb ss t zb V (hs.up h) h1 (hb.up h))
    rw [jl] at CAB
    obtain ⟨q, hq⟩ : ∃ q, alikeOk ss t zb = q := ⟨_, rfl⟩
    simp only [hq] at CAB CTB
    simp only [jself] at CAL
    simp only [j1] at CIA
    simp only [j2] at CIB
    have hqq : (q == q) = true := by simp
    clear hs ha hb ka kb hsm hB0 hZ hq5 va vb h2 j1 j2 jv jl jself hq hl hca hca2 hcb hcb2
    go_enter Try.func11, Try.ntmps11
    go_wp2_with (first
      | (go_at_call 15; refine HS.out.mono ?_; rintro e w' ⟨rfl, rfl⟩; rw [HSM.out])
      | (go_at_call 48; ((with_reducible refine (C1.out _ HB0.out).mono ?_); rintro e V1 ⟨A1, n1, c1, rfl, hI1, hk1, hB1⟩; obtain rfl : n1 = l := hI1.len.trans HL.out; have HK1 := Lib.hid hk1; have HI1 := Lib.hid hI1; have HB1 := Lib.hid (below_then HB0.out hB1); clear hI1 hB1 hk1))
      | (go_at_call 49; ((with_reducible refine (C2.out _ HB1.out).mono ?_); rintro e V2 ⟨A2, n2, c2, rfl, hI2, hB2⟩; have HI12 := Lib.hid (HI1.out.up hB2); have HI2 := Lib.hid hI2; have HB2 := Lib.hid (below_then HB1.out hB2); clear hI2 hB2))
      | (go_at_call 26; ((with_reducible refine (same_self _ _ _ _ _ _ t _ _ HI12.out HI2.out).mono ?_); rintro e V3 ⟨rfl, h3⟩; have HB3 := Lib.hid (show Below w.heap.size w V3 ∧ Below V2.heap.size V2 V3 from by obtain ⟨j3, rfl⟩ := h3; exact ⟨below_drewN HB2.out j3, below_drewN (Below.refl _ _) j3⟩); have HI13 := Lib.hid (HI12.out.up HB3.out.2); clear h3))
      | (go_at_call 50; ((with_reducible refine (C4.out _ HB3.out.1).mono ?_); rintro e VA ⟨rfl, hBA⟩; have HI1A := Lib.hid (HI13.out.up hBA); have HBA := Lib.hid (below_then HB3.out.1 hBA); clear hBA))
      | (go_at_call 51; ((with_reducible refine (C5.out _ HBA.out).mono ?_); rintro e VB ⟨rfl, hBB⟩; have HI1B := Lib.hid (HI1A.out.up hBB); have HBB := Lib.hid (below_then HBA.out hBB); clear hBB))
      | (go_at_call 48; ((with_reducible refine (C3.out _ HBB.out).mono ?_); rintro e V4 ⟨A4, n4, c4, rfl, hI4, hk4, hB4⟩; have HI4 := Lib.hid hI4; have HI14 := Lib.hid (HI1B.out.up hB4); have HB4 := Lib.hid (below_then HBB.out hB4); clear hI4 hB4 hk4))
      | (go_at_call 37; ((with_reducible refine (CAL.out _ _ _ _ _ _ _ HB4.out HI4.out HI14.out).mono ?_); rintro e V5 ⟨rfl, hB5⟩; have HI15 := Lib.hid (HI14.out.up hB5); have HB5 := Lib.hid (below_then HB4.out hB5); clear hB5))
      | (go_at_call 34; ((with_reducible refine (CIA.out _ _ _ _ HB5.out HI15.out HK1.out).mono ?_); rintro e V6 ⟨rfl, hB6⟩; have HI16 := Lib.hid (HI15.out.up hB6); have HB6 := Lib.hid (below_then HB5.out hB6); clear hB6))
      | (go_at_call 34; ((with_reducible refine (CIB.out _ _ _ _ HB6.out HI16.out HK1.out).mono ?_); rintro e V7 ⟨rfl, hB7⟩; have HI17 := Lib.hid (HI16.out.up hB7); have HB7 := Lib.hid (below_then HB6.out hB7); clear hB7))
      | (go_at_call 34; ((with_reducible refine (CAB.out _ HB7.out).mono ?_); rintro e V8 ⟨rfl, hB8⟩; have HI18 := Lib.hid (HI17.out.up hB8); have HB8 := Lib.hid (below_then HB7.out hB8); clear hB8))
      | (go_at_call 37; ((with_reducible refine (CTB.out _ _ _ _ HB8.out HI18.out).mono ?_); rintro e V9 ⟨rfl, hB9⟩; have HB9 := Lib.hid (below_then HB8.out hB9); clear hB9))
      | (go_at_call 17; refine (awake2_any _).mono ?_; rintro e VX ⟨rfl, hBX⟩; have HBX := Lib.hid (below_then HB9.out hBX); clear hBX))
    all_goals
      go_ret
      exact ⟨rfl, HBX.out⟩
  · have hne : (er != 0) = true := by simpa using h0
    have hne2 : (er == 0) = false := by simpa using h0
    have CAB := Lib.hid (fun (V : World) (h : Below w.heap.size w V) => instance_any As Aa Ab ns cs na ca nb cb ss za zb V (hs.up h) (ha.up h) (hb.up h) hcb hcb2)
    rw [meet_not (by rw [hZ]; exact h0)] at CAB
    clear hs ha hb ka kb hsm hB0 hZ hq5 h0 hl hca hca2 hcb hcb2
    go_enter Try.func11, Try.ntmps11
    go_wp2_with (first
      | (go_at_call 15; refine HS.out.mono ?_; rintro e w' ⟨rfl, rfl⟩; rw [HSM.out])
      | (go_at_call 48; ((with_reducible refine (C1.out _ HB0.out).mono ?_); rintro e V1 ⟨A1, n1, c1, rfl, hI1, hk1, hB1⟩; obtain rfl : n1 = l := hI1.len.trans HL.out; have HK1 := Lib.hid hk1; have HI1 := Lib.hid hI1; have HB1 := Lib.hid (below_then HB0.out hB1); clear hI1 hB1 hk1))
      | (go_at_call 49; ((with_reducible refine (C2.out _ HB1.out).mono ?_); rintro e V2 ⟨A2, n2, c2, rfl, hI2, hB2⟩; have HI12 := Lib.hid (HI1.out.up hB2); have HI2 := Lib.hid hI2; have HB2 := Lib.hid (below_then HB1.out hB2); clear hI2 hB2))
      | (go_at_call 26; ((with_reducible refine (same_self _ _ _ _ _ _ t _ _ HI12.out HI2.out).mono ?_); rintro e V3 ⟨rfl, h3⟩; have HB3 := Lib.hid (show Below w.heap.size w V3 ∧ Below V2.heap.size V2 V3 from by obtain ⟨j3, rfl⟩ := h3; exact ⟨below_drewN HB2.out j3, below_drewN (Below.refl _ _) j3⟩); have HI13 := Lib.hid (HI12.out.up HB3.out.2); clear h3))
      | (go_at_call 50; ((with_reducible refine (C4.out _ HB3.out.1).mono ?_); rintro e VA ⟨rfl, hBA⟩; have HI1A := Lib.hid (HI13.out.up hBA); have HBA := Lib.hid (below_then HB3.out.1 hBA); clear hBA))
      | (go_at_call 51; ((with_reducible refine (C5.out _ HBA.out).mono ?_); rintro e VB ⟨rfl, hBB⟩; have HI1B := Lib.hid (HI1A.out.up hBB); have HBB := Lib.hid (below_then HBA.out hBB); clear hBB))
      | (go_at_call 48; ((with_reducible refine (C3.out _ HBB.out).mono ?_); rintro e V4 ⟨A4, n4, c4, rfl, hI4, hk4, hB4⟩; have HI4 := Lib.hid hI4; have HI14 := Lib.hid (HI1B.out.up hB4); have HB4 := Lib.hid (below_then HBB.out hB4); clear hI4 hB4 hk4))
      | (go_at_call 34; ((with_reducible refine (CAB.out _ HB4.out).mono ?_); rintro e V8 ⟨rfl, hB8⟩; have HB8 := Lib.hid (below_then HB4.out hB8); clear hB8))
      | (go_at_call 17; refine (awake2_any _).mono ?_; rintro e VX ⟨rfl, hBX⟩; have HBX := Lib.hid (below_then HB8.out hBX); clear hBX))
    all_goals
      go_ret
      exact ⟨rfl, HBX.out⟩

theorem ume_walk (As Aa Ab : Option Addr) (ns cs na ca nb cb : Nat) (ss : Sg) (za zb : List Int) (w : World) (hs : SigAt w w.heap.size As ns ss) (ha : IntsAt w w.heap.size Aa na za ∧ na ≤ ca ∧ ca ≤ 9223372036854775807) (hb : IntsAt w w.heap.size Ab nb zb ∧ nb ≤ cb ∧ cb ≤ 9223372036854775807) :
    Calls Try.prog 11 #[.slice As ns cs, .slice Aa na ca, .slice Ab nb cb] w fun e w' => e = .returned (.bool true) ∧ Below w.heap.size w w' := by
  cases hsm : smallOk ns [(Aa, na, ca), (Ab, nb, cb)]
  · exact ume_small As Aa Ab ns cs na ca nb cb za zb w ha.1 hb.1 hsm
  · exact ume_ok As Aa Ab ns cs na ca nb cb ss za zb w hs ha.1 hb.1 ha.2.1 ha.2.2 hb.2.1 hb.2.2 hsm

end Go.Proofs.Ytohhgghjpokdiaa
