/- The walk of TermPuts. -/
import Derived.Test.YtafpcpdafojgkaaC4
import Derived.Test.YtafpcpdafojgkaaO3
import Derived.Test.YtafpcpdafojgkaaU1
namespace Go.Proofs.Ytafpcpdafojgkaa
open Go.RowKit

set_option maxRecDepth 100000 in
set_option maxHeartbeats 4000000 in
theorem put_10 (As At Au Ap : Option Addr) (ns cs nt ct nu cu np cp : Nat) (ss : Sg) (zs us path : List Int) (w : World) (hs : SigAt w w.heap.size As ns ss) (ht : IntsAt w w.heap.size At nt zs) (hu : IntsAt w w.heap.size Au nu us) (hp : IntsAt w w.heap.size Ap np path) (hc1 : nt ≤ ct) (hc2 : ct ≤ 9223372036854775807) (hsm : smallOk ns [(At, nt, ct), (Au, nu, cu)] = true) (hnp : np ≤ 100) (hea : (atR ss zs path).2 = 0) (hep : (putR ss zs path us).2 ≠ 0) :
    Calls Try.prog 6 #[.slice As ns cs, .agg #[.slice At nt ct, .slice Au nu cu, .slice Ap np cp]] w fun e w' => e = .returned (.bool true) ∧ Below w.heap.size w w' := by
  obtain ⟨N, hN⟩ : ∃ N, w.heap.size = N := ⟨_, rfl⟩
  obtain ⟨W2, hW2⟩ : ∃ W2, (w.alloc (.cells #[.slice At nt ct, .slice Au nu cu, .slice Ap np cp] 45)).alloc (.cells #[.slice At nt ct, .slice Au nu cu] 25) = W2 := ⟨_, rfl⟩
  have hB : Below w.heap.size w W2 := by rw [← hW2]; exact ((Below.refl _ w).alloc (Nat.le_refl _) _).alloc (by simp) _
  have hz : W2.heap.size = N + 2 := by rw [← hW2]; simp [hN]
  have hsm0 : HdsAt W2 W2.heap.size (some ⟨w.heap.size + 1, 0, none⟩) 2 [(At, nt, ct), (Au, nu, cu)] := by
    have := Blk.new (w.alloc (.cells #[.slice At nt ct, .slice Au nu cu, .slice Ap np cp] 45)) 25 #[.slice At nt ct, .slice Au nu cu]
    rw [World.size_alloc, hW2] at this
    exact HdsAt.of_blk _ this rfl rfl (by simp)
  have HS := Lib.hid (small_any As _ ns cs 2 2 _ W2 _ hsm0)
  have bx : Blk W2 w.heap.size 45 #[.slice At nt ct, .slice Au nu cu, .slice Ap np cp] := by
    rw [← hW2]; exact (Blk.new w _ _).alloc _
  rw [hN] at bx HS
  have b0 : W2.cell? ⟨N, 0, none⟩ = some (.slice At nt ct) := bx.cell 0
  have b1 : W2.cell? ⟨N, 1, none⟩ = some (.slice Au nu cu) := bx.cell 1
  have b2 : W2.cell? ⟨N, 2, none⟩ = some (.slice Ap np cp) := bx.cell 2
  have hNlt : N < W2.heap.size := by omega
  have up : ∀ V, Below W2.heap.size W2 V → Below w.heap.size w V := fun V hb => hB.trans (hb.mono hB.size)
  have HCE := Lib.hid (fun V' (hb : Below W2.heap.size W2 V') => show V'.cell? ⟨N, 0, none⟩ = some (.slice At nt ct) ∧ V'.cell? ⟨N, 1, none⟩ = some (.slice Au nu cu) ∧ V'.cell? ⟨N, 2, none⟩ = some (.slice Ap np cp) from
    ⟨(hb.cell (p := ⟨N, 0, none⟩) hNlt).trans b0, (hb.cell (p := ⟨N, 1, none⟩) hNlt).trans b1, (hb.cell (p := ⟨N, 2, none⟩) hNlt).trans b2⟩)
  have HUP := Lib.hid up
  have HW2 := Lib.hid hW2
  have HN := Lib.hid hN
  have HB0 := Lib.hid (Below.refl W2.heap.size W2)
  have HSM := Lib.hid hsm
  have hnp' : ¬ (100 : Int) < (np : Int) := by omega
  have C1 := Lib.hid (fun V (hb : Below W2.heap.size W2 V) => at_any As At Ap ns cs nt ct np cp ss zs path V (hs.up (up V hb)) (ht.up (up V hb)) (hp.up (up V hb)) hc1 hc2 (by omega))
  have C2 := Lib.hid (fun V (hb : Below W2.heap.size W2 V) => refAt_any As At Ap ns cs nt ct np cp ss zs path V (hs.up (up V hb)) (ht.up (up V hb)) (hp.up (up V hb)) hc1 hc2 (by omega))
  have C3 := Lib.hid (fun V (hb : Below W2.heap.size W2 V) => put_any As At Ap Au ns cs nt ct np cp nu cu ss zs path us V (hs.up (up V hb)) (ht.up (up V hb)) (hp.up (up V hb)) (hu.up (up V hb)) hc1 hc2 (by omega))
  have C4 := Lib.hid (fun V (hb : Below W2.heap.size W2 V) => refPut_any As At Ap Au ns cs nt ct np cp nu cu ss zs path us V (hs.up (up V hb)) (ht.up (up V hb)) (hp.up (up V hb)) (hu.up (up V hb)) hc1 hc2 (by omega))
  obtain ⟨xs, ea, hxe⟩ : ∃ xs ea, atR ss zs path = (xs, ea) := ⟨_, _, rfl⟩
  obtain ⟨ds, ep, hde⟩ : ∃ ds ep, putR ss zs path us = (ds, ep) := ⟨_, _, rfl⟩
  simp only [hxe] at C1 C2 hea
  simp only [hde] at C3 C4 hep
  subst hea
  have hap := at_put hxe
  have C5 := Lib.hid (fun V (hb : Below W2.heap.size W2 V) B m d (hi : IntsAt V V.heap.size B m xs) => by
    have := put_any As At Ap B ns cs nt ct np cp m d ss zs path xs V (hs.up (up V hb)) (ht.up (up V hb)) (hp.up (up V hb)) hi hc1 hc2 (by omega)
    rw [hap] at this
    exact this)
  have HTT := Lib.hid (fun V (hb : Below W2.heap.size W2 V) => ht.up (up V hb))
  have hpq : (ep != 0) = true := by simpa using hep
  have hne2 : (ep != ep) = false := by simp
  clear bx hsm0 hs ht hu hp hsm hB up hz hW2 hxe hde hap hep
  rw [hN]
  clear hN
  go_enter Try.func6, Try.ntmps6
  go_wp2_with fail
  rw [HW2.out, HN.out]
  go_wp2_with (first
    | (go_at_call 14; refine HS.out.mono ?_; rintro e w' ⟨rfl, rfl⟩; rw [HSM.out])
    | (go_at_call 33; ((with_reducible refine (C1.out _ HB0.out).mono ?_); clear C1; rintro e V1 ⟨A1, n1, d1, rfl, hI1, hB1⟩; have HI1 := Lib.hid hI1; have HB1 := Lib.hid (HB0.out.trans (hB1.mono HB0.out.size)); obtain ⟨u10, u11, u12⟩ := HCE.out _ HB1.out; clear hI1 hB1))
    | (go_at_call 34; ((with_reducible refine (C2.out _ HB1.out).mono ?_); clear C2; rintro e V2 ⟨A2, n2, d2, rfl, hI2, hB2⟩; have HI12 := Lib.hid (HI1.out.up hB2); have HI2 := Lib.hid hI2; have HB2 := Lib.hid (HB1.out.trans (hB2.mono HB1.out.size)); obtain ⟨u20, u21, u22⟩ := HCE.out _ HB2.out; clear hI2 hB2))
    | (go_at_call 31; ((with_reducible refine (same_self _ _ _ _ _ _ xs _ _ HI12.out HI2.out).mono ?_); clear HI2; rintro e V3 ⟨rfl, j3, rfl⟩; have HB3 := Lib.hid (below_drewN HB2.out j3); have HI13 := Lib.hid (HI12.out.drewN' j3); obtain ⟨u30, u31, u32⟩ := HCE.out _ HB3.out))
    | (go_at_call 35; ((with_reducible refine (C3.out _ HB3.out).mono ?_); clear C3; rintro e V4 ⟨A4, n4, d4, rfl, hI4, hB4, hc4⟩; have HC4 := Lib.hid hc4; have HI4 := Lib.hid hI4; have HI14 := Lib.hid (HI13.out.up hB4); have HB4 := Lib.hid (HB3.out.trans (hB4.mono HB3.out.size)); obtain ⟨u40, u41, u42⟩ := HCE.out _ HB4.out; clear hI4 hB4 hc4))
    | (go_at_call 36; ((with_reducible refine (C4.out _ HB4.out).mono ?_); clear C4; rintro e V5 ⟨A5, n5, d5, rfl, hI5, hB5⟩; have HI45 := Lib.hid (HI4.out.up hB5); have HI15 := Lib.hid (HI14.out.up hB5); have HI5 := Lib.hid hI5; have HB5 := Lib.hid (HB4.out.trans (hB5.mono HB4.out.size)); obtain ⟨u50, u51, u52⟩ := HCE.out _ HB5.out; clear hI5 hB5))
    | (go_at_call 31; ((with_reducible refine (same_self _ _ _ _ _ _ ds _ _ HI45.out HI5.out).mono ?_); clear HI5; rintro e V6 ⟨rfl, j6, rfl⟩; have HB6 := Lib.hid (below_drewN HB5.out j6); have HI16 := Lib.hid (HI15.out.drewN' j6); have HI46 := Lib.hid (HI45.out.drewN' j6); obtain ⟨u60, u61, u62⟩ := HCE.out _ HB6.out))
    | (go_at_call 35; ((with_reducible refine (C5.out _ HB6.out _ _ _ HI16.out).mono ?_); clear C5; rintro e V7 ⟨A7, n7, d7, rfl, hI7, hB7, hc7⟩; have HI7 := Lib.hid hI7; have HI47 := Lib.hid (HI46.out.up hB7); have HB7 := Lib.hid (HB6.out.trans (hB7.mono HB6.out.size)); obtain ⟨u70, u71, u72⟩ := HCE.out _ HB7.out; clear hI7 hB7 hc7))
    | (go_at_call 31; ((with_reducible refine (same_self _ _ _ _ _ _ zs _ _ HI7.out (HTT.out _ HB7.out)).mono ?_); clear HI7; rintro e V8 ⟨rfl, j8, rfl⟩; have HB8 := Lib.hid (below_drewN HB7.out j8); have HI48 := Lib.hid (HI47.out.drewN' j8); obtain ⟨u80, u81, u82⟩ := HCE.out _ HB8.out))
    | (go_at_call 15; refine (awake_any _).mono ?_; rintro e Vz ⟨rfl, hBz⟩; have HBz := Lib.hid (HB8.out.trans (hBz.mono HB8.out.size))))
  go_ret
  exact ⟨rfl, by rw [← HN.out]; exact HUP.out _ HBz.out⟩

set_option maxRecDepth 100000 in
set_option maxHeartbeats 4000000 in
theorem put_00 (As At Au Ap : Option Addr) (ns cs nt ct nu cu np cp : Nat) (ss : Sg) (zs us path : List Int) (w : World) (hs : SigAt w w.heap.size As ns ss) (ht : IntsAt w w.heap.size At nt zs) (hu : IntsAt w w.heap.size Au nu us) (hp : IntsAt w w.heap.size Ap np path) (hc1 : nt ≤ ct) (hc2 : ct ≤ 9223372036854775807) (hsm : smallOk ns [(At, nt, ct), (Au, nu, cu)] = true) (hnp : np ≤ 100) (hea : (atR ss zs path).2 ≠ 0) (hep : (putR ss zs path us).2 ≠ 0) :
    Calls Try.prog 6 #[.slice As ns cs, .agg #[.slice At nt ct, .slice Au nu cu, .slice Ap np cp]] w fun e w' => e = .returned (.bool true) ∧ Below w.heap.size w w' := by
  obtain ⟨N, hN⟩ : ∃ N, w.heap.size = N := ⟨_, rfl⟩
  obtain ⟨W2, hW2⟩ : ∃ W2, (w.alloc (.cells #[.slice At nt ct, .slice Au nu cu, .slice Ap np cp] 45)).alloc (.cells #[.slice At nt ct, .slice Au nu cu] 25) = W2 := ⟨_, rfl⟩
  have hB : Below w.heap.size w W2 := by rw [← hW2]; exact ((Below.refl _ w).alloc (Nat.le_refl _) _).alloc (by simp) _
  have hz : W2.heap.size = N + 2 := by rw [← hW2]; simp [hN]
  have hsm0 : HdsAt W2 W2.heap.size (some ⟨w.heap.size + 1, 0, none⟩) 2 [(At, nt, ct), (Au, nu, cu)] := by
    have := Blk.new (w.alloc (.cells #[.slice At nt ct, .slice Au nu cu, .slice Ap np cp] 45)) 25 #[.slice At nt ct, .slice Au nu cu]
    rw [World.size_alloc, hW2] at this
    exact HdsAt.of_blk _ this rfl rfl (by simp)
  have HS := Lib.hid (small_any As _ ns cs 2 2 _ W2 _ hsm0)
  have bx : Blk W2 w.heap.size 45 #[.slice At nt ct, .slice Au nu cu, .slice Ap np cp] := by
    rw [← hW2]; exact (Blk.new w _ _).alloc _
  rw [hN] at bx HS
  have b0 : W2.cell? ⟨N, 0, none⟩ = some (.slice At nt ct) := bx.cell 0
  have b1 : W2.cell? ⟨N, 1, none⟩ = some (.slice Au nu cu) := bx.cell 1
  have b2 : W2.cell? ⟨N, 2, none⟩ = some (.slice Ap np cp) := bx.cell 2
  have hNlt : N < W2.heap.size := by omega
  have up : ∀ V, Below W2.heap.size W2 V → Below w.heap.size w V := fun V hb => hB.trans (hb.mono hB.size)
  have HCE := Lib.hid (fun V' (hb : Below W2.heap.size W2 V') => show V'.cell? ⟨N, 0, none⟩ = some (.slice At nt ct) ∧ V'.cell? ⟨N, 1, none⟩ = some (.slice Au nu cu) ∧ V'.cell? ⟨N, 2, none⟩ = some (.slice Ap np cp) from
    ⟨(hb.cell (p := ⟨N, 0, none⟩) hNlt).trans b0, (hb.cell (p := ⟨N, 1, none⟩) hNlt).trans b1, (hb.cell (p := ⟨N, 2, none⟩) hNlt).trans b2⟩)
  have HUP := Lib.hid up
  have HW2 := Lib.hid hW2
  have HN := Lib.hid hN
  have HB0 := Lib.hid (Below.refl W2.heap.size W2)
  have HSM := Lib.hid hsm
  have hnp' : ¬ (100 : Int) < (np : Int) := by omega
  have C1 := Lib.hid (fun V (hb : Below W2.heap.size W2 V) => at_any As At Ap ns cs nt ct np cp ss zs path V (hs.up (up V hb)) (ht.up (up V hb)) (hp.up (up V hb)) hc1 hc2 (by omega))
  have C2 := Lib.hid (fun V (hb : Below W2.heap.size W2 V) => refAt_any As At Ap ns cs nt ct np cp ss zs path V (hs.up (up V hb)) (ht.up (up V hb)) (hp.up (up V hb)) hc1 hc2 (by omega))
  have C3 := Lib.hid (fun V (hb : Below W2.heap.size W2 V) => put_any As At Ap Au ns cs nt ct np cp nu cu ss zs path us V (hs.up (up V hb)) (ht.up (up V hb)) (hp.up (up V hb)) (hu.up (up V hb)) hc1 hc2 (by omega))
  have C4 := Lib.hid (fun V (hb : Below W2.heap.size W2 V) => refPut_any As At Ap Au ns cs nt ct np cp nu cu ss zs path us V (hs.up (up V hb)) (ht.up (up V hb)) (hp.up (up V hb)) (hu.up (up V hb)) hc1 hc2 (by omega))
  obtain ⟨xs, ea, hxe⟩ : ∃ xs ea, atR ss zs path = (xs, ea) := ⟨_, _, rfl⟩
  obtain ⟨ds, ep, hde⟩ : ∃ ds ep, putR ss zs path us = (ds, ep) := ⟨_, _, rfl⟩
  simp only [hxe] at C1 C2 hea
  simp only [hde] at C3 C4 hep
  have heq : (ea == 0) = false := by simpa using hea
  have hne1 : (ea != ea) = false := by simp
  have hpq : (ep != 0) = true := by simpa using hep
  have hne2 : (ep != ep) = false := by simp
  clear bx hsm0 hs ht hu hp hsm hB up hz hW2 hxe hde hea hep
  rw [hN]
  clear hN
  go_enter Try.func6, Try.ntmps6
  go_wp2_with fail
  rw [HW2.out, HN.out]
  go_wp2_with (first
    | (go_at_call 14; refine HS.out.mono ?_; rintro e w' ⟨rfl, rfl⟩; rw [HSM.out])
    | (go_at_call 33; ((with_reducible refine (C1.out _ HB0.out).mono ?_); clear C1; rintro e V1 ⟨A1, n1, d1, rfl, hI1, hB1⟩; have HI1 := Lib.hid hI1; have HB1 := Lib.hid (HB0.out.trans (hB1.mono HB0.out.size)); obtain ⟨u10, u11, u12⟩ := HCE.out _ HB1.out; clear hI1 hB1))
    | (go_at_call 34; ((with_reducible refine (C2.out _ HB1.out).mono ?_); clear C2; rintro e V2 ⟨A2, n2, d2, rfl, hI2, hB2⟩; have HI12 := Lib.hid (HI1.out.up hB2); have HI2 := Lib.hid hI2; have HB2 := Lib.hid (HB1.out.trans (hB2.mono HB1.out.size)); obtain ⟨u20, u21, u22⟩ := HCE.out _ HB2.out; clear hI2 hB2))
    | (go_at_call 31; ((with_reducible refine (same_self _ _ _ _ _ _ xs _ _ HI12.out HI2.out).mono ?_); clear HI2; rintro e V3 ⟨rfl, j3, rfl⟩; have HB3 := Lib.hid (below_drewN HB2.out j3); have HI13 := Lib.hid (HI12.out.drewN' j3); obtain ⟨u30, u31, u32⟩ := HCE.out _ HB3.out))
    | (go_at_call 35; ((with_reducible refine (C3.out _ HB3.out).mono ?_); clear C3; rintro e V4 ⟨A4, n4, d4, rfl, hI4, hB4, hc4⟩; have HC4 := Lib.hid hc4; have HI4 := Lib.hid hI4; have HI14 := Lib.hid (HI13.out.up hB4); have HB4 := Lib.hid (HB3.out.trans (hB4.mono HB3.out.size)); obtain ⟨u40, u41, u42⟩ := HCE.out _ HB4.out; clear hI4 hB4 hc4))
    | (go_at_call 36; ((with_reducible refine (C4.out _ HB4.out).mono ?_); clear C4; rintro e V5 ⟨A5, n5, d5, rfl, hI5, hB5⟩; have HI45 := Lib.hid (HI4.out.up hB5); have HI15 := Lib.hid (HI14.out.up hB5); have HI5 := Lib.hid hI5; have HB5 := Lib.hid (HB4.out.trans (hB5.mono HB4.out.size)); obtain ⟨u50, u51, u52⟩ := HCE.out _ HB5.out; clear hI5 hB5))
    | (go_at_call 31; ((with_reducible refine (same_self _ _ _ _ _ _ ds _ _ HI45.out HI5.out).mono ?_); clear HI5; rintro e V6 ⟨rfl, j6, rfl⟩; have HB6 := Lib.hid (below_drewN HB5.out j6); have HI16 := Lib.hid (HI15.out.drewN' j6); have HI46 := Lib.hid (HI45.out.drewN' j6); obtain ⟨u60, u61, u62⟩ := HCE.out _ HB6.out))
    | (go_at_call 15; refine (awake_any _).mono ?_; rintro e Vz ⟨rfl, hBz⟩; have HBz := Lib.hid (HB6.out.trans (hBz.mono HB6.out.size))))
  go_ret
  exact ⟨rfl, by rw [← HN.out]; exact HUP.out _ HBz.out⟩

set_option maxRecDepth 100000 in
set_option maxHeartbeats 4000000 in
theorem put_01 (As At Au Ap : Option Addr) (ns cs nt ct nu cu np cp : Nat) (ss : Sg) (zs us path : List Int) (w : World) (hs : SigAt w w.heap.size As ns ss) (ht : IntsAt w w.heap.size At nt zs) (hu : IntsAt w w.heap.size Au nu us) (hp : IntsAt w w.heap.size Ap np path) (hc1 : nt ≤ ct) (hc2 : ct ≤ 9223372036854775807) (hsm : smallOk ns [(At, nt, ct), (Au, nu, cu)] = true) (hnp : np ≤ 100) (hea : (atR ss zs path).2 ≠ 0) (hep : (putR ss zs path us).2 = 0) :
    Calls Try.prog 6 #[.slice As ns cs, .agg #[.slice At nt ct, .slice Au nu cu, .slice Ap np cp]] w fun e w' => e = .returned (.bool true) ∧ Below w.heap.size w w' := by
  obtain ⟨N, hN⟩ : ∃ N, w.heap.size = N := ⟨_, rfl⟩
  obtain ⟨W2, hW2⟩ : ∃ W2, (w.alloc (.cells #[.slice At nt ct, .slice Au nu cu, .slice Ap np cp] 45)).alloc (.cells #[.slice At nt ct, .slice Au nu cu] 25) = W2 := ⟨_, rfl⟩
  have hB : Below w.heap.size w W2 := by rw [← hW2]; exact ((Below.refl _ w).alloc (Nat.le_refl _) _).alloc (by simp) _
  have hz : W2.heap.size = N + 2 := by rw [← hW2]; simp [hN]
  have hsm0 : HdsAt W2 W2.heap.size (some ⟨w.heap.size + 1, 0, none⟩) 2 [(At, nt, ct), (Au, nu, cu)] := by
    have := Blk.new (w.alloc (.cells #[.slice At nt ct, .slice Au nu cu, .slice Ap np cp] 45)) 25 #[.slice At nt ct, .slice Au nu cu]
    rw [World.size_alloc, hW2] at this
    exact HdsAt.of_blk _ this rfl rfl (by simp)
  have HS := Lib.hid (small_any As _ ns cs 2 2 _ W2 _ hsm0)
  have bx : Blk W2 w.heap.size 45 #[.slice At nt ct, .slice Au nu cu, .slice Ap np cp] := by
    rw [← hW2]; exact (Blk.new w _ _).alloc _
  rw [hN] at bx HS
  have b0 : W2.cell? ⟨N, 0, none⟩ = some (.slice At nt ct) := bx.cell 0
  have b1 : W2.cell? ⟨N, 1, none⟩ = some (.slice Au nu cu) := bx.cell 1
  have b2 : W2.cell? ⟨N, 2, none⟩ = some (.slice Ap np cp) := bx.cell 2
  have hNlt : N < W2.heap.size := by omega
  have up : ∀ V, Below W2.heap.size W2 V → Below w.heap.size w V := fun V hb => hB.trans (hb.mono hB.size)
  have HCE := Lib.hid (fun V' (hb : Below W2.heap.size W2 V') => show V'.cell? ⟨N, 0, none⟩ = some (.slice At nt ct) ∧ V'.cell? ⟨N, 1, none⟩ = some (.slice Au nu cu) ∧ V'.cell? ⟨N, 2, none⟩ = some (.slice Ap np cp) from
    ⟨(hb.cell (p := ⟨N, 0, none⟩) hNlt).trans b0, (hb.cell (p := ⟨N, 1, none⟩) hNlt).trans b1, (hb.cell (p := ⟨N, 2, none⟩) hNlt).trans b2⟩)
  have HUP := Lib.hid up
  have HW2 := Lib.hid hW2
  have HN := Lib.hid hN
  have HB0 := Lib.hid (Below.refl W2.heap.size W2)
  have HSM := Lib.hid hsm
  have hnp' : ¬ (100 : Int) < (np : Int) := by omega
  have C1 := Lib.hid (fun V (hb : Below W2.heap.size W2 V) => at_any As At Ap ns cs nt ct np cp ss zs path V (hs.up (up V hb)) (ht.up (up V hb)) (hp.up (up V hb)) hc1 hc2 (by omega))
  have C2 := Lib.hid (fun V (hb : Below W2.heap.size W2 V) => refAt_any As At Ap ns cs nt ct np cp ss zs path V (hs.up (up V hb)) (ht.up (up V hb)) (hp.up (up V hb)) hc1 hc2 (by omega))
  have C3 := Lib.hid (fun V (hb : Below W2.heap.size W2 V) => put_any As At Ap Au ns cs nt ct np cp nu cu ss zs path us V (hs.up (up V hb)) (ht.up (up V hb)) (hp.up (up V hb)) (hu.up (up V hb)) hc1 hc2 (by omega))
  have C4 := Lib.hid (fun V (hb : Below W2.heap.size W2 V) => refPut_any As At Ap Au ns cs nt ct np cp nu cu ss zs path us V (hs.up (up V hb)) (ht.up (up V hb)) (hp.up (up V hb)) (hu.up (up V hb)) hc1 hc2 (by omega))
  obtain ⟨xs, ea, hxe⟩ : ∃ xs ea, atR ss zs path = (xs, ea) := ⟨_, _, rfl⟩
  obtain ⟨ds, ep, hde⟩ : ∃ ds ep, putR ss zs path us = (ds, ep) := ⟨_, _, rfl⟩
  simp only [hxe] at C1 C2 hea
  simp only [hde] at C3 C4 hep
  have heq : (ea == 0) = false := by simpa using hea
  have hne1 : (ea != ea) = false := by simp
  subst hep
  have hpa := put_at hde
  have C6 := Lib.hid (fun V (hb : Below W2.heap.size W2 V) B m d (hi : IntsAt V V.heap.size B m ds) (h1 : m ≤ d ∧ d ≤ 9223372036854775807) => by
    have := at_any As B Ap ns cs m d np cp ss ds path V (hs.up (up V hb)) hi (hp.up (up V hb)) h1.1 h1.2 (by omega)
    rw [hpa] at this
    exact this)
  have HUU := Lib.hid (fun V (hb : Below W2.heap.size W2 V) => hu.up (up V hb))
  clear bx hsm0 hs ht hu hp hsm hB up hz hW2 hxe hde hea hpa
  rw [hN]
  clear hN
  go_enter Try.func6, Try.ntmps6
  go_wp2_with fail
  rw [HW2.out, HN.out]
  go_wp2_with (first
    | (go_at_call 14; refine HS.out.mono ?_; rintro e w' ⟨rfl, rfl⟩; rw [HSM.out])
    | (go_at_call 33; ((with_reducible refine (C1.out _ HB0.out).mono ?_); clear C1; rintro e V1 ⟨A1, n1, d1, rfl, hI1, hB1⟩; have HI1 := Lib.hid hI1; have HB1 := Lib.hid (HB0.out.trans (hB1.mono HB0.out.size)); obtain ⟨u10, u11, u12⟩ := HCE.out _ HB1.out; clear hI1 hB1))
    | (go_at_call 34; ((with_reducible refine (C2.out _ HB1.out).mono ?_); clear C2; rintro e V2 ⟨A2, n2, d2, rfl, hI2, hB2⟩; have HI12 := Lib.hid (HI1.out.up hB2); have HI2 := Lib.hid hI2; have HB2 := Lib.hid (HB1.out.trans (hB2.mono HB1.out.size)); obtain ⟨u20, u21, u22⟩ := HCE.out _ HB2.out; clear hI2 hB2))
    | (go_at_call 31; ((with_reducible refine (same_self _ _ _ _ _ _ xs _ _ HI12.out HI2.out).mono ?_); clear HI2; rintro e V3 ⟨rfl, j3, rfl⟩; have HB3 := Lib.hid (below_drewN HB2.out j3); have HI13 := Lib.hid (HI12.out.drewN' j3); obtain ⟨u30, u31, u32⟩ := HCE.out _ HB3.out))
    | (go_at_call 35; ((with_reducible refine (C3.out _ HB3.out).mono ?_); clear C3; rintro e V4 ⟨A4, n4, d4, rfl, hI4, hB4, hc4⟩; have HC4 := Lib.hid hc4; have HI4 := Lib.hid hI4; have HI14 := Lib.hid (HI13.out.up hB4); have HB4 := Lib.hid (HB3.out.trans (hB4.mono HB3.out.size)); obtain ⟨u40, u41, u42⟩ := HCE.out _ HB4.out; clear hI4 hB4 hc4))
    | (go_at_call 36; ((with_reducible refine (C4.out _ HB4.out).mono ?_); clear C4; rintro e V5 ⟨A5, n5, d5, rfl, hI5, hB5⟩; have HI45 := Lib.hid (HI4.out.up hB5); have HI15 := Lib.hid (HI14.out.up hB5); have HI5 := Lib.hid hI5; have HB5 := Lib.hid (HB4.out.trans (hB5.mono HB4.out.size)); obtain ⟨u50, u51, u52⟩ := HCE.out _ HB5.out; clear hI5 hB5))
    | (go_at_call 31; ((with_reducible refine (same_self _ _ _ _ _ _ ds _ _ HI45.out HI5.out).mono ?_); clear HI5; rintro e V6 ⟨rfl, j6, rfl⟩; have HB6 := Lib.hid (below_drewN HB5.out j6); have HI16 := Lib.hid (HI15.out.drewN' j6); have HI46 := Lib.hid (HI45.out.drewN' j6); obtain ⟨u60, u61, u62⟩ := HCE.out _ HB6.out))
    | (go_at_call 33; ((with_reducible refine (C6.out _ HB6.out _ _ _ HI46.out HC4.out).mono ?_); clear C6; rintro e V9 ⟨A9, n9, d9, rfl, hI9, hB9⟩; have HI9 := Lib.hid hI9; have HB9 := Lib.hid (HB6.out.trans (hB9.mono HB6.out.size)); obtain ⟨u90, u91, u92⟩ := HCE.out _ HB9.out; clear hI9 hB9))
    | (go_at_call 31; ((with_reducible refine (same_self _ _ _ _ _ _ us _ _ HI9.out (HUU.out _ HB9.out)).mono ?_); clear HI9; rintro e Va ⟨rfl, ja, rfl⟩; have HBa := Lib.hid (below_drewN HB9.out ja)))
    | (go_at_call 15; refine (awake_any _).mono ?_; rintro e Vz ⟨rfl, hBz⟩; have HBz := Lib.hid (HBa.out.trans (hBz.mono HBa.out.size))))
  go_ret
  exact ⟨rfl, by rw [← HN.out]; exact HUP.out _ HBz.out⟩

end Go.Proofs.Ytafpcpdafojgkaa
