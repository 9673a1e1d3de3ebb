/- The walk of TermDown. -/
import Derived.Test.YtafpcpdafojgkaaB8
import Derived.Test.YtafpcpdafojgkaaB7
import Derived.Test.YtafpcpdafojgkaaO3
import Derived.Test.YtafpcpdafojgkaaU1
import Derived.Deep.RegionHeld3
namespace Go.Proofs.Ytafpcpdafojgkaa
open Go.RowKit

theorem ints_drop' {w : World} {B n b off e : Nat} {zs : List Int} (h : IntsAt w B (some ⟨b, off, none⟩) n zs) (he : e ≤ n) : IntsAt w B (some ⟨b, off + e, none⟩) (n - e) (zs.drop e) := by
  have hl := h.len
  have hm := h.max
  refine ⟨by rw [List.length_drop]; omega, by omega, fun h0 => ?_⟩
  obtain ⟨b', off', e', hb, hc⟩ := h.mem (by omega)
  cases e'
  exact ⟨b, off + e, rfl, hb, fun j hj => by rw [List.length_drop] at hj; rw [Nat.add_assoc, hc (e + j) (by omega), List.getElem_drop]⟩

set_option maxRecDepth 100000 in
set_option maxHeartbeats 4000000 in
theorem down_small (As At Au Ap : Option Addr) (ns cs nt ct nu cu np cp : Nat) (ss : Sg) (zs path : List Int) (w : World) (hs : SigAt w w.heap.size As ns ss) (ht : IntsAt w w.heap.size At nt zs) (hp : IntsAt w w.heap.size Ap np path) (hc1 : nt ≤ ct) (hc2 : ct ≤ 9223372036854775807) (hp1 : np ≤ cp) (hp2 : cp ≤ 9223372036854775807) (hsm : smallOk ns [(At, nt, ct)] = false) :
    Calls Try.prog 7 #[.slice As ns cs, .agg #[.slice At nt ct, .slice Au nu cu, .slice Ap np cp]] w fun e w' => e = .returned (.bool true) ∧ Below w.heap.size w w' := by
  obtain ⟨N, hN⟩ : ∃ N, w.heap.size = N := ⟨_, rfl⟩
  obtain ⟨W2, hW2⟩ : ∃ W2, (w.alloc (.cells #[.slice At nt ct, .slice Au nu cu, .slice Ap np cp] 45)).alloc (.cells #[.slice At nt ct] 25) = W2 := ⟨_, rfl⟩
  have hB : Below w.heap.size w W2 := by rw [← hW2]; exact ((Below.refl _ w).alloc (Nat.le_refl _) _).alloc (by simp) _
  have hz : W2.heap.size = N + 2 := by rw [← hW2]; simp [hN]
  have hsm0 : HdsAt W2 W2.heap.size (some ⟨w.heap.size + 1, 0, none⟩) 1 [(At, nt, ct)] := by
    have := Blk.new (w.alloc (.cells #[.slice At nt ct, .slice Au nu cu, .slice Ap np cp] 45)) 25 #[.slice At nt ct]
    rw [World.size_alloc, hW2] at this
    exact HdsAt.of_blk _ this rfl rfl (by simp)
  have HS := Lib.hid (small_any As _ ns cs 1 1 _ W2 _ hsm0)
  have bx : Blk W2 w.heap.size 45 #[.slice At nt ct, .slice Au nu cu, .slice Ap np cp] := by
    rw [← hW2]; exact (Blk.new w _ _).alloc _
  rw [hN] at bx HS
  have b0 : W2.cell? ⟨N, 0, none⟩ = some (.slice At nt ct) := bx.cell 0
  have b2 : W2.cell? ⟨N, 2, none⟩ = some (.slice Ap np cp) := bx.cell 2
  have hNlt : N < W2.heap.size := by omega
  have up : ∀ V, Below W2.heap.size W2 V → Below w.heap.size w V := fun V hb => hB.trans (hb.mono hB.size)
  have HCE := Lib.hid (fun V' (hb : Below W2.heap.size W2 V') => show V'.cell? ⟨N, 0, none⟩ = some (.slice At nt ct) ∧ V'.cell? ⟨N, 2, none⟩ = some (.slice Ap np cp) from
    ⟨(hb.cell (p := ⟨N, 0, none⟩) hNlt).trans b0, (hb.cell (p := ⟨N, 2, none⟩) hNlt).trans b2⟩)
  have HUP := Lib.hid up
  have HW2 := Lib.hid hW2
  have HN := Lib.hid hN
  have HB0 := Lib.hid (Below.refl W2.heap.size W2)
  have HSM := Lib.hid hsm
  clear bx hsm0 hs ht hp hsm hB up hz hW2
  rw [hN]
  clear hN
  go_enter Try.func7, Try.ntmps7
  go_wp2_with fail
  rw [HW2.out, HN.out]
  go_wp2_with (first
    | (go_at_call 14; refine HS.out.mono ?_; rintro e w' ⟨rfl, rfl⟩; rw [HSM.out])
    | (go_at_call 15; refine (awake_any _).mono ?_; rintro e Vz ⟨rfl, hBz⟩; have HBz := Lib.hid (HB0.out.trans (hBz.mono HB0.out.size))))
  go_ret
  exact ⟨rfl, by rw [← HN.out]; exact HUP.out _ HBz.out⟩

set_option maxRecDepth 100000 in
set_option maxHeartbeats 4000000 in
theorem down_long (As At Au Ap : Option Addr) (ns cs nt ct nu cu np cp : Nat) (ss : Sg) (zs path : List Int) (w : World) (hs : SigAt w w.heap.size As ns ss) (ht : IntsAt w w.heap.size At nt zs) (hp : IntsAt w w.heap.size Ap np path) (hc1 : nt ≤ ct) (hc2 : ct ≤ 9223372036854775807) (hp1 : np ≤ cp) (hp2 : cp ≤ 9223372036854775807) (hsm : smallOk ns [(At, nt, ct)] = true) (hnp : 100 < np) :
    Calls Try.prog 7 #[.slice As ns cs, .agg #[.slice At nt ct, .slice Au nu cu, .slice Ap np cp]] w fun e w' => e = .returned (.bool true) ∧ Below w.heap.size w w' := by
  obtain ⟨N, hN⟩ : ∃ N, w.heap.size = N := ⟨_, rfl⟩
  obtain ⟨W2, hW2⟩ : ∃ W2, (w.alloc (.cells #[.slice At nt ct, .slice Au nu cu, .slice Ap np cp] 45)).alloc (.cells #[.slice At nt ct] 25) = W2 := ⟨_, rfl⟩
  have hB : Below w.heap.size w W2 := by rw [← hW2]; exact ((Below.refl _ w).alloc (Nat.le_refl _) _).alloc (by simp) _
  have hz : W2.heap.size = N + 2 := by rw [← hW2]; simp [hN]
  have hsm0 : HdsAt W2 W2.heap.size (some ⟨w.heap.size + 1, 0, none⟩) 1 [(At, nt, ct)] := by
    have := Blk.new (w.alloc (.cells #[.slice At nt ct, .slice Au nu cu, .slice Ap np cp] 45)) 25 #[.slice At nt ct]
    rw [World.size_alloc, hW2] at this
    exact HdsAt.of_blk _ this rfl rfl (by simp)
  have HS := Lib.hid (small_any As _ ns cs 1 1 _ W2 _ hsm0)
  have bx : Blk W2 w.heap.size 45 #[.slice At nt ct, .slice Au nu cu, .slice Ap np cp] := by
    rw [← hW2]; exact (Blk.new w _ _).alloc _
  rw [hN] at bx HS
  have b0 : W2.cell? ⟨N, 0, none⟩ = some (.slice At nt ct) := bx.cell 0
  have b2 : W2.cell? ⟨N, 2, none⟩ = some (.slice Ap np cp) := bx.cell 2
  have hNlt : N < W2.heap.size := by omega
  have up : ∀ V, Below W2.heap.size W2 V → Below w.heap.size w V := fun V hb => hB.trans (hb.mono hB.size)
  have HCE := Lib.hid (fun V' (hb : Below W2.heap.size W2 V') => show V'.cell? ⟨N, 0, none⟩ = some (.slice At nt ct) ∧ V'.cell? ⟨N, 2, none⟩ = some (.slice Ap np cp) from
    ⟨(hb.cell (p := ⟨N, 0, none⟩) hNlt).trans b0, (hb.cell (p := ⟨N, 2, none⟩) hNlt).trans b2⟩)
  have HUP := Lib.hid up
  have HW2 := Lib.hid hW2
  have HN := Lib.hid hN
  have HB0 := Lib.hid (Below.refl W2.heap.size W2)
  have HSM := Lib.hid hsm
  have hnp1 : (100 : Int) < (np : Int) := by omega
  clear bx hsm0 hs ht hp hsm hB up hz hW2
  rw [hN]
  clear hN
  go_enter Try.func7, Try.ntmps7
  go_wp2_with fail
  rw [HW2.out, HN.out]
  go_wp2_with (first
    | (go_at_call 14; refine HS.out.mono ?_; rintro e w' ⟨rfl, rfl⟩; rw [HSM.out])
    | (go_at_call 15; refine (awake_any _).mono ?_; rintro e Vz ⟨rfl, hBz⟩; have HBz := Lib.hid (HB0.out.trans (hBz.mono HB0.out.size))))
  go_ret
  exact ⟨rfl, by rw [← HN.out]; exact HUP.out _ HBz.out⟩

set_option maxRecDepth 100000 in
set_option maxHeartbeats 4000000 in
theorem down_none (As At Au Ap : Option Addr) (ns cs nt ct nu cu np cp : Nat) (ss : Sg) (zs path : List Int) (w : World) (hs : SigAt w w.heap.size As ns ss) (ht : IntsAt w w.heap.size At nt zs) (hp : IntsAt w w.heap.size Ap np path) (hc1 : nt ≤ ct) (hc2 : ct ≤ 9223372036854775807) (hp1 : np ≤ cp) (hp2 : cp ≤ 9223372036854775807) (hsm : smallOk ns [(At, nt, ct)] = true) (hnp : np = 0) :
    Calls Try.prog 7 #[.slice As ns cs, .agg #[.slice At nt ct, .slice Au nu cu, .slice Ap np cp]] w fun e w' => e = .returned (.bool true) ∧ Below w.heap.size w w' := by
  obtain ⟨N, hN⟩ : ∃ N, w.heap.size = N := ⟨_, rfl⟩
  obtain ⟨W2, hW2⟩ : ∃ W2, (w.alloc (.cells #[.slice At nt ct, .slice Au nu cu, .slice Ap np cp] 45)).alloc (.cells #[.slice At nt ct] 25) = W2 := ⟨_, rfl⟩
  have hB : Below w.heap.size w W2 := by rw [← hW2]; exact ((Below.refl _ w).alloc (Nat.le_refl _) _).alloc (by simp) _
  have hz : W2.heap.size = N + 2 := by rw [← hW2]; simp [hN]
  have hsm0 : HdsAt W2 W2.heap.size (some ⟨w.heap.size + 1, 0, none⟩) 1 [(At, nt, ct)] := by
    have := Blk.new (w.alloc (.cells #[.slice At nt ct, .slice Au nu cu, .slice Ap np cp] 45)) 25 #[.slice At nt ct]
    rw [World.size_alloc, hW2] at this
    exact HdsAt.of_blk _ this rfl rfl (by simp)
  have HS := Lib.hid (small_any As _ ns cs 1 1 _ W2 _ hsm0)
  have bx : Blk W2 w.heap.size 45 #[.slice At nt ct, .slice Au nu cu, .slice Ap np cp] := by
    rw [← hW2]; exact (Blk.new w _ _).alloc _
  rw [hN] at bx HS
  have b0 : W2.cell? ⟨N, 0, none⟩ = some (.slice At nt ct) := bx.cell 0
  have b2 : W2.cell? ⟨N, 2, none⟩ = some (.slice Ap np cp) := bx.cell 2
  have hNlt : N < W2.heap.size := by omega
  have up : ∀ V, Below W2.heap.size W2 V → Below w.heap.size w V := fun V hb => hB.trans (hb.mono hB.size)
  have HCE := Lib.hid (fun V' (hb : Below W2.heap.size W2 V') => show V'.cell? ⟨N, 0, none⟩ = some (.slice At nt ct) ∧ V'.cell? ⟨N, 2, none⟩ = some (.slice Ap np cp) from
    ⟨(hb.cell (p := ⟨N, 0, none⟩) hNlt).trans b0, (hb.cell (p := ⟨N, 2, none⟩) hNlt).trans b2⟩)
  have HUP := Lib.hid up
  have HW2 := Lib.hid hW2
  have HN := Lib.hid hN
  have HB0 := Lib.hid (Below.refl W2.heap.size W2)
  have HSM := Lib.hid hsm
  subst hnp
  clear bx hsm0 hs ht hp hsm hB up hz hW2
  rw [hN]
  clear hN
  go_enter Try.func7, Try.ntmps7
  go_wp2_with fail
  rw [HW2.out, HN.out]
  go_wp2_with (first
    | (go_at_call 14; refine HS.out.mono ?_; rintro e w' ⟨rfl, rfl⟩; rw [HSM.out])
    | (go_at_call 15; refine (awake_any _).mono ?_; rintro e Vz ⟨rfl, hBz⟩; have HBz := Lib.hid (HB0.out.trans (hBz.mono HB0.out.size))))
  go_ret
  exact ⟨rfl, by rw [← HN.out]; exact HUP.out _ HBz.out⟩

set_option maxRecDepth 100000 in
set_option maxHeartbeats 4000000 in
theorem down_bad0 (As At Au Ap : Option Addr) (ns cs nt ct nu cu np cp : Nat) (ss : Sg) (zs path : List Int) (w : World) (hs : SigAt w w.heap.size As ns ss) (ht : IntsAt w w.heap.size At nt zs) (hp : IntsAt w w.heap.size Ap np path) (hc1 : nt ≤ ct) (hc2 : ct ≤ 9223372036854775807) (hp1 : np ≤ cp) (hp2 : cp ≤ 9223372036854775807) (hsm : smallOk ns [(At, nt, ct)] = true) (hnp : np ≤ 100) (hnp0 : 1 ≤ np) (hea : (atR ss zs path).2 ≠ 0) (hv : valOk ss zs = false) :
    Calls Try.prog 7 #[.slice As ns cs, .agg #[.slice At nt ct, .slice Au nu cu, .slice Ap np cp]] w fun e w' => e = .returned (.bool true) ∧ Below w.heap.size w w' := by
  obtain ⟨N, hN⟩ : ∃ N, w.heap.size = N := ⟨_, rfl⟩
  obtain ⟨W2, hW2⟩ : ∃ W2, (w.alloc (.cells #[.slice At nt ct, .slice Au nu cu, .slice Ap np cp] 45)).alloc (.cells #[.slice At nt ct] 25) = W2 := ⟨_, rfl⟩
  have hB : Below w.heap.size w W2 := by rw [← hW2]; exact ((Below.refl _ w).alloc (Nat.le_refl _) _).alloc (by simp) _
  have hz : W2.heap.size = N + 2 := by rw [← hW2]; simp [hN]
  have hsm0 : HdsAt W2 W2.heap.size (some ⟨w.heap.size + 1, 0, none⟩) 1 [(At, nt, ct)] := by
    have := Blk.new (w.alloc (.cells #[.slice At nt ct, .slice Au nu cu, .slice Ap np cp] 45)) 25 #[.slice At nt ct]
    rw [World.size_alloc, hW2] at this
    exact HdsAt.of_blk _ this rfl rfl (by simp)
  have HS := Lib.hid (small_any As _ ns cs 1 1 _ W2 _ hsm0)
  have bx : Blk W2 w.heap.size 45 #[.slice At nt ct, .slice Au nu cu, .slice Ap np cp] := by
    rw [← hW2]; exact (Blk.new w _ _).alloc _
  rw [hN] at bx HS
  have b0 : W2.cell? ⟨N, 0, none⟩ = some (.slice At nt ct) := bx.cell 0
  have b2 : W2.cell? ⟨N, 2, none⟩ = some (.slice Ap np cp) := bx.cell 2
  have hNlt : N < W2.heap.size := by omega
  have up : ∀ V, Below W2.heap.size W2 V → Below w.heap.size w V := fun V hb => hB.trans (hb.mono hB.size)
  have HCE := Lib.hid (fun V' (hb : Below W2.heap.size W2 V') => show V'.cell? ⟨N, 0, none⟩ = some (.slice At nt ct) ∧ V'.cell? ⟨N, 2, none⟩ = some (.slice Ap np cp) from
    ⟨(hb.cell (p := ⟨N, 0, none⟩) hNlt).trans b0, (hb.cell (p := ⟨N, 2, none⟩) hNlt).trans b2⟩)
  have HUP := Lib.hid up
  have HW2 := Lib.hid hW2
  have HN := Lib.hid hN
  have HB0 := Lib.hid (Below.refl W2.heap.size W2)
  have HSM := Lib.hid hsm
  have hnp1 : ¬ (100 : Int) < (np : Int) := by omega
  have hnp2 : ((np : Int) == 0) = false := by simp; omega
  have C1 := Lib.hid (fun V (hb : Below W2.heap.size W2 V) => at_any As At Ap ns cs nt ct np cp ss zs path V (hs.up (up V hb)) (ht.up (up V hb)) (hp.up (up V hb)) hc1 hc2 (by omega))
  obtain ⟨xs, ea, hxe⟩ : ∃ xs ea, atR ss zs path = (xs, ea) := ⟨_, _, rfl⟩
  simp only [hxe] at C1 hea
  have heq : (ea != 0) = true := by simpa using hea
  have C2 := Lib.hid (fun V (hb : Below W2.heap.size W2 V) => argsC_bad As At ns cs nt ct ss zs V (hs.up (up V hb)) (ht.up (up V hb)) hv)
  clear bx hsm0 hs ht hp hsm hB up hz hW2 hxe hea hv
  rw [hN]
  clear hN
  go_enter Try.func7, Try.ntmps7
  go_wp2_with fail
  rw [HW2.out, HN.out]
  go_wp2_with (first
    | (go_at_call 14; refine HS.out.mono ?_; rintro e w' ⟨rfl, rfl⟩; rw [HSM.out])
    | (go_at_call 33; ((with_reducible refine (C1.out _ HB0.out).mono ?_); clear C1; rintro e V1 ⟨A1, n1, d1, rfl, hI1, hB1⟩; have HI1 := Lib.hid hI1; have HB1 := Lib.hid (HB0.out.trans (hB1.mono HB0.out.size)); obtain ⟨u10, u12⟩ := HCE.out _ HB1.out; clear hI1 hB1))
    | (go_at_call 27; ((with_reducible refine (C2.out _ HB1.out).mono ?_); clear C2; rintro e V2 ⟨A2, n2, d2, l2, rfl, hI2, hB2⟩; have HB2 := Lib.hid (HB1.out.trans (hB2.mono HB1.out.size)); obtain ⟨u20, u22⟩ := HCE.out _ HB2.out; clear hI2 hB2))
    | (go_at_call 15; refine (awake_any _).mono ?_; rintro e Vz ⟨rfl, hBz⟩; have HBz := Lib.hid (HB2.out.trans (hBz.mono HB2.out.size))))
  go_ret
  exact ⟨rfl, by rw [← HN.out]; exact HUP.out _ HBz.out⟩

set_option maxRecDepth 100000 in
set_option maxHeartbeats 4000000 in
theorem down_bad1 (As At Au Ap : Option Addr) (ns cs nt ct nu cu np cp : Nat) (ss : Sg) (zs path : List Int) (w : World) (hs : SigAt w w.heap.size As ns ss) (ht : IntsAt w w.heap.size At nt zs) (hp : IntsAt w w.heap.size Ap np path) (hc1 : nt ≤ ct) (hc2 : ct ≤ 9223372036854775807) (hp1 : np ≤ cp) (hp2 : cp ≤ 9223372036854775807) (hsm : smallOk ns [(At, nt, ct)] = true) (hnp : np ≤ 100) (hnp0 : 1 ≤ np) (hea : (atR ss zs path).2 ≠ 0) (hv : valOk ss zs = true) :
    Calls Try.prog 7 #[.slice As ns cs, .agg #[.slice At nt ct, .slice Au nu cu, .slice Ap np cp]] w fun e w' => e = .returned (.bool true) ∧ Below w.heap.size w w' := by
  obtain ⟨N, hN⟩ : ∃ N, w.heap.size = N := ⟨_, rfl⟩
  obtain ⟨W2, hW2⟩ : ∃ W2, (w.alloc (.cells #[.slice At nt ct, .slice Au nu cu, .slice Ap np cp] 45)).alloc (.cells #[.slice At nt ct] 25) = W2 := ⟨_, rfl⟩
  have hB : Below w.heap.size w W2 := by rw [← hW2]; exact ((Below.refl _ w).alloc (Nat.le_refl _) _).alloc (by simp) _
  have hz : W2.heap.size = N + 2 := by rw [← hW2]; simp [hN]
  have hsm0 : HdsAt W2 W2.heap.size (some ⟨w.heap.size + 1, 0, none⟩) 1 [(At, nt, ct)] := by
    have := Blk.new (w.alloc (.cells #[.slice At nt ct, .slice Au nu cu, .slice Ap np cp] 45)) 25 #[.slice At nt ct]
    rw [World.size_alloc, hW2] at this
    exact HdsAt.of_blk _ this rfl rfl (by simp)
  have HS := Lib.hid (small_any As _ ns cs 1 1 _ W2 _ hsm0)
  have bx : Blk W2 w.heap.size 45 #[.slice At nt ct, .slice Au nu cu, .slice Ap np cp] := by
    rw [← hW2]; exact (Blk.new w _ _).alloc _
  rw [hN] at bx HS
  have b0 : W2.cell? ⟨N, 0, none⟩ = some (.slice At nt ct) := bx.cell 0
  have b2 : W2.cell? ⟨N, 2, none⟩ = some (.slice Ap np cp) := bx.cell 2
  have hNlt : N < W2.heap.size := by omega
  have up : ∀ V, Below W2.heap.size W2 V → Below w.heap.size w V := fun V hb => hB.trans (hb.mono hB.size)
  have HCE := Lib.hid (fun V' (hb : Below W2.heap.size W2 V') => show V'.cell? ⟨N, 0, none⟩ = some (.slice At nt ct) ∧ V'.cell? ⟨N, 2, none⟩ = some (.slice Ap np cp) from
    ⟨(hb.cell (p := ⟨N, 0, none⟩) hNlt).trans b0, (hb.cell (p := ⟨N, 2, none⟩) hNlt).trans b2⟩)
  have HUP := Lib.hid up
  have HW2 := Lib.hid hW2
  have HN := Lib.hid hN
  have HB0 := Lib.hid (Below.refl W2.heap.size W2)
  have HSM := Lib.hid hsm
  have hnp1 : ¬ (100 : Int) < (np : Int) := by omega
  have hnp2 : ((np : Int) == 0) = false := by simp; omega
  have C1 := Lib.hid (fun V (hb : Below W2.heap.size W2 V) => at_any As At Ap ns cs nt ct np cp ss zs path V (hs.up (up V hb)) (ht.up (up V hb)) (hp.up (up V hb)) hc1 hc2 (by omega))
  obtain ⟨xs, ea, hxe⟩ : ∃ xs ea, atR ss zs path = (xs, ea) := ⟨_, _, rfl⟩
  simp only [hxe] at C1 hea
  have heq : (ea != 0) = true := by simpa using hea
  have C2 := Lib.hid (fun V (hb : Below W2.heap.size W2 V) => (argsC_ok As At ns cs nt ct ss zs V (hs.up (up V hb)) (ht.up (up V hb)) hc1 hc2 hv).mono (R' := RetTs V (argsL ss zs) 0) fun _ _ ⟨A, n, c, ls, h1, h2, h3, _⟩ => ⟨A, n, c, ls, h1, h2, h3⟩)
  clear bx hsm0 hs ht hp hsm hB up hz hW2 hxe hea hv
  rw [hN]
  clear hN
  go_enter Try.func7, Try.ntmps7
  go_wp2_with fail
  rw [HW2.out, HN.out]
  go_wp2_with (first
    | (go_at_call 14; refine HS.out.mono ?_; rintro e w' ⟨rfl, rfl⟩; rw [HSM.out])
    | (go_at_call 33; ((with_reducible refine (C1.out _ HB0.out).mono ?_); clear C1; rintro e V1 ⟨A1, n1, d1, rfl, hI1, hB1⟩; have HI1 := Lib.hid hI1; have HB1 := Lib.hid (HB0.out.trans (hB1.mono HB0.out.size)); obtain ⟨u10, u12⟩ := HCE.out _ HB1.out; clear hI1 hB1))
    | (go_at_call 27; ((with_reducible refine (C2.out _ HB1.out).mono ?_); clear C2; rintro e V2 ⟨A2, n2, d2, l2, rfl, hI2, hB2⟩; have HB2 := Lib.hid (HB1.out.trans (hB2.mono HB1.out.size)); obtain ⟨u20, u22⟩ := HCE.out _ HB2.out; clear hI2 hB2))
    | (go_at_call 15; refine (awake_any _).mono ?_; rintro e Vz ⟨rfl, hBz⟩; have HBz := Lib.hid (HB2.out.trans (hBz.mono HB2.out.size))))
  go_ret
  exact ⟨rfl, by rw [← HN.out]; exact HUP.out _ HBz.out⟩

set_option maxRecDepth 100000 in
set_option maxHeartbeats 4000000 in
theorem down_ok (As At Au Ap : Option Addr) (ns cs nt ct nu cu np cp : Nat) (ss : Sg) (zs path : List Int) (w : World) (hs : SigAt w w.heap.size As ns ss) (ht : IntsAt w w.heap.size At nt zs) (hp : IntsAt w w.heap.size Ap np path) (hc1 : nt ≤ ct) (hc2 : ct ≤ 9223372036854775807) (hp1 : np ≤ cp) (hp2 : cp ≤ 9223372036854775807) (hsm : smallOk ns [(At, nt, ct)] = true) (hnp : np ≤ 100) (hnp0 : 1 ≤ np) (hea : (atR ss zs path).2 = 0) :
    Calls Try.prog 7 #[.slice As ns cs, .agg #[.slice At nt ct, .slice Au nu cu, .slice Ap np cp]] w fun e w' => e = .returned (.bool true) ∧ Below w.heap.size w w' := by
  obtain ⟨N, hN⟩ : ∃ N, w.heap.size = N := ⟨_, rfl⟩
  obtain ⟨W2, hW2⟩ : ∃ W2, (w.alloc (.cells #[.slice At nt ct, .slice Au nu cu, .slice Ap np cp] 45)).alloc (.cells #[.slice At nt ct] 25) = W2 := ⟨_, rfl⟩
  have hB : Below w.heap.size w W2 := by rw [← hW2]; exact ((Below.refl _ w).alloc (Nat.le_refl _) _).alloc (by simp) _
  have hz : W2.heap.size = N + 2 := by rw [← hW2]; simp [hN]
  have hsm0 : HdsAt W2 W2.heap.size (some ⟨w.heap.size + 1, 0, none⟩) 1 [(At, nt, ct)] := by
    have := Blk.new (w.alloc (.cells #[.slice At nt ct, .slice Au nu cu, .slice Ap np cp] 45)) 25 #[.slice At nt ct]
    rw [World.size_alloc, hW2] at this
    exact HdsAt.of_blk _ this rfl rfl (by simp)
  have HS := Lib.hid (small_any As _ ns cs 1 1 _ W2 _ hsm0)
  have bx : Blk W2 w.heap.size 45 #[.slice At nt ct, .slice Au nu cu, .slice Ap np cp] := by
    rw [← hW2]; exact (Blk.new w _ _).alloc _
  rw [hN] at bx HS
  have b0 : W2.cell? ⟨N, 0, none⟩ = some (.slice At nt ct) := bx.cell 0
  have b2 : W2.cell? ⟨N, 2, none⟩ = some (.slice Ap np cp) := bx.cell 2
  have hNlt : N < W2.heap.size := by omega
  have up : ∀ V, Below W2.heap.size W2 V → Below w.heap.size w V := fun V hb => hB.trans (hb.mono hB.size)
  have HCE := Lib.hid (fun V' (hb : Below W2.heap.size W2 V') => show V'.cell? ⟨N, 0, none⟩ = some (.slice At nt ct) ∧ V'.cell? ⟨N, 2, none⟩ = some (.slice Ap np cp) from
    ⟨(hb.cell (p := ⟨N, 0, none⟩) hNlt).trans b0, (hb.cell (p := ⟨N, 2, none⟩) hNlt).trans b2⟩)
  have HUP := Lib.hid up
  have HW2 := Lib.hid hW2
  have HN := Lib.hid hN
  have HB0 := Lib.hid (Below.refl W2.heap.size W2)
  have HSM := Lib.hid hsm
  have hnp1 : ¬ (100 : Int) < (np : Int) := by omega
  have hnp2 : ((np : Int) == 0) = false := by simp; omega
  have C1 := Lib.hid (fun V (hb : Below W2.heap.size W2 V) => at_any As At Ap ns cs nt ct np cp ss zs path V (hs.up (up V hb)) (ht.up (up V hb)) (hp.up (up V hb)) hc1 hc2 (by omega))
  obtain ⟨xs, ea, hxe⟩ : ∃ xs ea, atR ss zs path = (xs, ea) := ⟨_, _, rfl⟩
  simp only [hxe] at C1 hea
  subst hea
  obtain ⟨bp, op, k, rfl, cp1, k1, e1⟩ := hp.cellAt (show 0 < np by omega)
  obtain ⟨bp', op', he', hbp, _⟩ := hp.mem (by omega)
  cases he'
  have hpath : path = k :: path.drop 1 := by
    have := drop_at (l := path) (j := 0) (k := k) (by rw [List.getElem?_eq_getElem k1, e1])
    simpa using this
  have hv := (atR_inv hxe).1
  rw [hpath] at hxe
  obtain ⟨j, rfl, hj, hdn⟩ := at_down hxe
  have hargs : (argsL ss zs).length = arOf ss (zs.headD 0) := by simp [argsL, argsTo]
  have har3 := arOf_le (sigOk_ar (valOk_sig hv)) (zs.headD 0)
  have hget : (argsL ss zs)[j]? = some (argL ss zs j) := by unfold argsL argsTo; rw [List.getElem?_map, List.getElem?_range hj]; rfl
  have HJ := Lib.hid (show j < (argsL ss zs).length by omega)
  have HAL := Lib.hid (show (argsL ss zs).length ≤ 3 by omega)
  have C2 := Lib.hid (fun V (hb : Below W2.heap.size W2 V) => argsC_ok As At ns cs nt ct ss zs V (hs.up (up V hb)) (ht.up (up V hb)) hc1 hc2 hv)
  have hpd : ∀ V, Below W2.heap.size W2 V → ∀ A, ((A = some ⟨bp, op + 1, none⟩ ∧ cp ≠ 1) ∨ (A = some ⟨bp, op, none⟩ ∧ cp = 1)) → IntsAt V V.heap.size A (np - 1) (path.drop 1) := by
    intro V hb A hor
    have h1 := hp.up (up V hb)
    rcases hor with ⟨rfl, _⟩ | ⟨rfl, hcp⟩
    · exact ints_drop' h1 (by omega)
    · have hz : np - 1 = 0 := by omega
      have hz2 : path.drop 1 = [] := List.drop_of_length_le (by have := hp.len; omega)
      rw [hz, hz2]
      exact ⟨rfl, by omega, fun h => absurd h (by omega)⟩
  have HPD := Lib.hid hpd
  have C3 := Lib.hid (fun V (hb : Below W2.heap.size W2 V) B m d Q q (hi : IntsAt V V.heap.size B m (argL ss zs j)) (h1 : m ≤ d ∧ d ≤ 9223372036854775807) (hq : IntsAt V V.heap.size Q (np - 1) (path.drop 1)) => by
    have := at_any As B Q ns cs m d (np - 1) q ss (argL ss zs j) (path.drop 1) V (hs.up (up V hb)) hi hq h1.1 h1.2 (by omega)
    rw [hdn] at this
    exact this)
  have HCP := Lib.hid (fun V (hb : Below W2.heap.size W2 V) => show V.cell? ⟨bp, op, none⟩ = some (.int .i64 (j : Int)) from ((up V hb).cell (p := ⟨bp, op, none⟩) hbp).trans cp1)
  obtain ⟨ag, hag⟩ : ∃ ag, argsL ss zs = ag := ⟨_, rfl⟩
  rw [hag] at HJ HAL hget
  simp only [hag] at C2
  have HGET := Lib.hid hget
  have hj0 : (0 : Int) ≤ (j : Int) := by omega
  have hnp3 : 1 ≤ np := hnp0
  clear bx hsm0 hs ht hp hsm hB up hz hW2 hxe hv hpath hj hdn hargs har3 hget hag hpd k1 e1 hbp cp1
  rw [hN]
  clear hN
  go_enter Try.func7, Try.ntmps7
  go_wp2_with fail
  rw [HW2.out, HN.out]
  go_wp2_with (first
    | (go_at_call 14; refine HS.out.mono ?_; rintro e w' ⟨rfl, rfl⟩; rw [HSM.out])
    | (go_at_call 33; ((with_reducible refine (C1.out _ HB0.out).mono ?_); clear C1; rintro e V1 ⟨A1, n1, d1, rfl, hI1, hB1⟩; have HI1 := Lib.hid hI1; have HB1 := Lib.hid (HB0.out.trans (hB1.mono HB0.out.size)); obtain ⟨u10, u12⟩ := HCE.out _ HB1.out; clear hI1 hB1))
    | (go_at_call 27; (with_reducible refine (C2.out _ HB1.out).mono ?_); clear C2; rintro e V2 ⟨A2, n2, d2, l2, rfl, hI2, hB2, hc2'⟩
       have hn2 := hI2.len
       have hj2 : j < n2 := by rw [hn2]; exact HJ.out
       have hj3 : (j : Int) < (n2 : Int) := by omega
       have hn23 : n2 ≤ 3 := by rw [hn2]; exact HAL.out
       have HI12 := Lib.hid (HI1.out.up hB2)
       have HB2 := Lib.hid (HB1.out.trans (hB2.mono HB1.out.size))
       obtain ⟨u20, u22⟩ := HCE.out _ HB2.out
       have cp2 := HCP.out _ HB2.out
       obtain ⟨b3, o3, e3, hb3, hc3⟩ := hI2.hds.mem (by omega)
       have hl2 : j < l2.length := by rw [← hI2.hds.len]; exact hj2
       have hc4 := hc3 j hl2
       have hI3 := hI2.each j hl2 (by rw [← hn2]; exact hj2)
       have hcap := hc2' _ (List.getElem_mem hl2)
       rw [show ag[j]'(by rw [← hn2]; exact hj2) = argL ss zs j from Option.some.inj ((List.getElem?_eq_getElem _).symm.trans HGET.out)] at hI3
       obtain ⟨A4, n4, d4, e4⟩ : ∃ A n d, l2[j] = (A, n, d) := ⟨_, _, _, rfl⟩
       rw [e4] at hc4 hI3 hcap
       simp only at hc4 hI3 hcap
       unfold capOk at hcap
       simp only at hcap
       subst e3
       have HI3 := Lib.hid hI3
       have HCAP := Lib.hid hcap
       clear hI2 hB2 hc2' hn2 hc3 hl2 hI3 hcap e4))
  have HB2d := Lib.hid (show Below W2.heap.size W2 V2.drew from HB2.out.drew)
  have HI3d := Lib.hid (show IntsAt V2.drew V2.drew.heap.size A4 n4 (argL ss zs j) from HI3.out.keep fun _ _ => rfl)
  have HI1d := Lib.hid (show IntsAt V2.drew V2.drew.heap.size A1 n1 xs from HI12.out.keep fun _ _ => rfl)
  have hone : (1 : Int) ≤ (np : Int) := by omega
  by_cases hcp : cp = 1
  · have HQ := Lib.hid (HPD.out _ HB2d.out _ (.inr ⟨rfl, hcp⟩))
    obtain rfl : np = 1 := by omega
    subst hcp
    clear HPD
    go_region_held3 (fun w' => w'.cell? ⟨N, 2, none⟩ = some (.slice (some ⟨bp, op, none⟩) 1 1) ∧ w'.cell? ⟨bp, op, none⟩ = some (.int .i64 (j : Int)) ∧ w'.cell? ⟨b3, o3 + j, none⟩ = some (.slice A4 n4 d4)) (first | go_keep | assumption | (exact ⟨by assumption, by assumption, by assumption⟩))
      ((go_at_call 33; refine (C3.out _ HB2d.out _ _ _ _ _ HI3d.out HCAP.out HQ.out).mono ?_; rintro e V3 ⟨A3, n3, d3, rfl, hI5, hB3⟩; have HI5 := Lib.hid hI5; have HI13 := Lib.hid (HI1d.out.up hB3); have HB3 := Lib.hid (HB2d.out.trans (hB3.mono HB2d.out.size)); obtain ⟨u30, u32⟩ := HCE.out _ HB3.out; have cp3 := HCP.out _ HB3.out; have hc5 := (hB3.cell (p := ⟨b3, o3 + j, none⟩) hb3).trans hc4; clear hI5 hB3))
    all_goals
      go_wp2_with (first
        | (go_at_call 31; ((with_reducible refine (same_self _ _ _ _ _ _ xs _ _ HI13.out HI5.out).mono ?_); rintro e V6 ⟨rfl, j6, rfl⟩; have HB6 := Lib.hid (below_drewN HB3.out j6)))
        | (go_at_call 15; refine (awake_any _).mono ?_; rintro e Vz ⟨rfl, hBz⟩; have HBz := Lib.hid (HB6.out.trans (hBz.mono HB6.out.size))))
      go_ret
      exact ⟨rfl, by rw [← HN.out]; exact HUP.out _ HBz.out⟩
  · have HQ := Lib.hid (HPD.out _ HB2d.out _ (.inl ⟨rfl, hcp⟩))
    have hcp' : cp ≠ 1 := hcp
    clear HPD
    go_region_held3 (fun w' => w'.cell? ⟨N, 2, none⟩ = some (.slice (some ⟨bp, op, none⟩) np cp) ∧ w'.cell? ⟨bp, op, none⟩ = some (.int .i64 (j : Int)) ∧ w'.cell? ⟨b3, o3 + j, none⟩ = some (.slice A4 n4 d4)) (first | go_keep | assumption | (exact ⟨by assumption, by assumption, by assumption⟩))
      ((go_at_call 33; refine (C3.out _ HB2d.out _ _ _ _ _ HI3d.out HCAP.out HQ.out).mono ?_; rintro e V3 ⟨A3, n3, d3, rfl, hI5, hB3⟩; have HI5 := Lib.hid hI5; have HI13 := Lib.hid (HI1d.out.up hB3); have HB3 := Lib.hid (HB2d.out.trans (hB3.mono HB2d.out.size)); obtain ⟨u30, u32⟩ := HCE.out _ HB3.out; have cp3 := HCP.out _ HB3.out; have hc5 := (hB3.cell (p := ⟨b3, o3 + j, none⟩) hb3).trans hc4; clear hI5 hB3))
    all_goals
      go_wp2_with (first
        | (go_at_call 31; ((with_reducible refine (same_self _ _ _ _ _ _ xs _ _ HI13.out HI5.out).mono ?_); rintro e V6 ⟨rfl, j6, rfl⟩; have HB6 := Lib.hid (below_drewN HB3.out j6)))
        | (go_at_call 15; refine (awake_any _).mono ?_; rintro e Vz ⟨rfl, hBz⟩; have HBz := Lib.hid (HB6.out.trans (hBz.mono HB6.out.size))))
      go_ret
      exact ⟨rfl, by rw [← HN.out]; exact HUP.out _ HBz.out⟩

theorem down_walk (As At Au Ap : Option Addr) (ns cs nt ct nu cu np cp : Nat) (ss : Sg) (zs path : List Int) (w : World) (hs : SigAt w w.heap.size As ns ss) (ht : IntsAt w w.heap.size At nt zs) (hp : IntsAt w w.heap.size Ap np path) (hc1 : nt ≤ ct) (hc2 : ct ≤ 9223372036854775807) (hp1 : np ≤ cp) (hp2 : cp ≤ 9223372036854775807) :
    Calls Try.prog 7 #[.slice As ns cs, .agg #[.slice At nt ct, .slice Au nu cu, .slice Ap np cp]] w fun e w' => e = .returned (.bool true) ∧ Below w.heap.size w w' := by
  cases hsm : smallOk ns [(At, nt, ct)]
  · exact down_small As At Au Ap ns cs nt ct nu cu np cp ss zs path w hs ht hp hc1 hc2 hp1 hp2 hsm
  · by_cases hnp : np ≤ 100
    · by_cases hnp0 : np = 0
      · exact down_none As At Au Ap ns cs nt ct nu cu np cp ss zs path w hs ht hp hc1 hc2 hp1 hp2 hsm hnp0
      · by_cases hea : (atR ss zs path).2 = 0
        · exact down_ok As At Au Ap ns cs nt ct nu cu np cp ss zs path w hs ht hp hc1 hc2 hp1 hp2 hsm hnp (by omega) hea
        · cases hv : valOk ss zs
          · exact down_bad0 As At Au Ap ns cs nt ct nu cu np cp ss zs path w hs ht hp hc1 hc2 hp1 hp2 hsm hnp (by omega) hea hv
          · exact down_bad1 As At Au Ap ns cs nt ct nu cu np cp ss zs path w hs ht hp hc1 hc2 hp1 hp2 hsm hnp (by omega) hea hv
    · exact down_long As At Au Ap ns cs nt ct nu cu np cp ss zs path w hs ht hp hc1 hc2 hp1 hp2 hsm (by omega)

end Go.Proofs.Ytafpcpdafojgkaa
