/- The walk of TermPuts. -/
import Derived.Test.YtafpcpdafojgkaaC4
import Derived.Test.YtafpcpdafojgkaaO3
import Derived.Test.YtafpcpdafojgkaaU1
namespace Go.Proofs.Ytafpcpdafojgkaa
open Go.RowKit

set_option maxRecDepth 100000 in
set_option maxHeartbeats 2000000 in
theorem put_small (As At Au Ap : Option Addr) (ns cs nt ct nu cu np cp : Nat) (ss : Sg) (zs us path : List Int) (w : World) (hs : SigAt w w.heap.size As ns ss) (ht : IntsAt w w.heap.size At nt zs) (hu : IntsAt w w.heap.size Au nu us) (hp : IntsAt w w.heap.size Ap np path) (hc1 : nt ≤ ct) (hc2 : ct ≤ 9223372036854775807) (hsm : smallOk ns [(At, nt, ct), (Au, nu, cu)] = false) :
    Calls Try.prog 6 #[.slice As ns cs, .agg #[.slice At nt ct, .slice Au nu cu, .slice Ap np cp]] w fun e w' => e = .returned (.bool true) ∧ Below w.heap.size w w' := by
  obtain ⟨N, hN⟩ : ∃ N, w.heap.size = N := ⟨_, rfl⟩
  obtain ⟨W2, hW2⟩ : ∃ W2, (w.alloc (.cells #[.slice At nt ct, .slice Au nu cu, .slice Ap np cp] 45)).alloc (.cells #[.slice At nt ct, .slice Au nu cu] 25) = W2 := ⟨_, rfl⟩
  have hB : Below w.heap.size w W2 := by rw [← hW2]; exact ((Below.refl _ w).alloc (Nat.le_refl _) _).alloc (by simp) _
  have hz : W2.heap.size = N + 2 := by rw [← hW2]; simp [hN]
  have hsm0 : HdsAt W2 W2.heap.size (some ⟨w.heap.size + 1, 0, none⟩) 2 [(At, nt, ct), (Au, nu, cu)] := by
    have := Blk.new (w.alloc (.cells #[.slice At nt ct, .slice Au nu cu, .slice Ap np cp] 45)) 25 #[.slice At nt ct, .slice Au nu cu]
    rw [World.size_alloc, hW2] at this
    exact HdsAt.of_blk _ this rfl rfl (by simp)
  have HS := Lib.hid (small_any As _ ns cs 2 2 _ W2 _ hsm0)
  have bx : Blk W2 w.heap.size 45 #[.slice At nt ct, .slice Au nu cu, .slice Ap np cp] := by
    rw [← hW2]; exact (Blk.new w _ _).alloc _
  rw [hN] at bx HS
  have b0 : W2.cell? ⟨N, 0, none⟩ = some (.slice At nt ct) := bx.cell 0
  have b1 : W2.cell? ⟨N, 1, none⟩ = some (.slice Au nu cu) := bx.cell 1
  have b2 : W2.cell? ⟨N, 2, none⟩ = some (.slice Ap np cp) := bx.cell 2
  have hNlt : N < W2.heap.size := by omega
  have up : ∀ V, Below W2.heap.size W2 V → Below w.heap.size w V := fun V hb => hB.trans (hb.mono hB.size)
  have HCE := Lib.hid (fun V' (hb : Below W2.heap.size W2 V') => show V'.cell? ⟨N, 0, none⟩ = some (.slice At nt ct) ∧ V'.cell? ⟨N, 1, none⟩ = some (.slice Au nu cu) ∧ V'.cell? ⟨N, 2, none⟩ = some (.slice Ap np cp) from
    ⟨(hb.cell (p := ⟨N, 0, none⟩) hNlt).trans b0, (hb.cell (p := ⟨N, 1, none⟩) hNlt).trans b1, (hb.cell (p := ⟨N, 2, none⟩) hNlt).trans b2⟩)
  have HUP := Lib.hid up
  have HW2 := Lib.hid hW2
  have HN := Lib.hid hN
  have HB0 := Lib.hid (Below.refl W2.heap.size W2)
  have HSM := Lib.hid hsm
  clear bx hsm0 hs ht hu hp hsm hB up hz hW2
  rw [hN]
  clear hN
  go_enter Try.func6, Try.ntmps6
  go_wp2_with fail
  rw [HW2.out, HN.out]
  go_wp2_with (first
    | (go_at_call 14; refine HS.out.mono ?_; rintro e w' ⟨rfl, rfl⟩; rw [HSM.out])
    | (go_at_call 15; refine (awake_any _).mono ?_; rintro e V9 ⟨rfl, hB9⟩; have HB9 := Lib.hid (below_then HB0.out hB9)))
  go_ret
  exact ⟨rfl, by rw [← HN.out]; exact HUP.out _ HB9.out⟩

set_option maxRecDepth 100000 in
set_option maxHeartbeats 2000000 in
theorem put_long (As At Au Ap : Option Addr) (ns cs nt ct nu cu np cp : Nat) (ss : Sg) (zs us path : List Int) (w : World) (hs : SigAt w w.heap.size As ns ss) (ht : IntsAt w w.heap.size At nt zs) (hu : IntsAt w w.heap.size Au nu us) (hp : IntsAt w w.heap.size Ap np path) (hc1 : nt ≤ ct) (hc2 : ct ≤ 9223372036854775807) (hsm : smallOk ns [(At, nt, ct), (Au, nu, cu)] = true) (hnp : 100 < np) :
    Calls Try.prog 6 #[.slice As ns cs, .agg #[.slice At nt ct, .slice Au nu cu, .slice Ap np cp]] w fun e w' => e = .returned (.bool true) ∧ Below w.heap.size w w' := by
  obtain ⟨N, hN⟩ : ∃ N, w.heap.size = N := ⟨_, rfl⟩
  obtain ⟨W2, hW2⟩ : ∃ W2, (w.alloc (.cells #[.slice At nt ct, .slice Au nu cu, .slice Ap np cp] 45)).alloc (.cells #[.slice At nt ct, .slice Au nu cu] 25) = W2 := ⟨_, rfl⟩
  have hB : Below w.heap.size w W2 := by rw [← hW2]; exact ((Below.refl _ w).alloc (Nat.le_refl _) _).alloc (by simp) _
  have hz : W2.heap.size = N + 2 := by rw [← hW2]; simp [hN]
  have hsm0 : HdsAt W2 W2.heap.size (some ⟨w.heap.size + 1, 0, none⟩) 2 [(At, nt, ct), (Au, nu, cu)] := by
    have := Blk.new (w.alloc (.cells #[.slice At nt ct, .slice Au nu cu, .slice Ap np cp] 45)) 25 #[.slice At nt ct, .slice Au nu cu]
    rw [World.size_alloc, hW2] at this
    exact HdsAt.of_blk _ this rfl rfl (by simp)
  have HS := Lib.hid (small_any As _ ns cs 2 2 _ W2 _ hsm0)
  have bx : Blk W2 w.heap.size 45 #[.slice At nt ct, .slice Au nu cu, .slice Ap np cp] := by
    rw [← hW2]; exact (Blk.new w _ _).alloc _
  rw [hN] at bx HS
  have b0 : W2.cell? ⟨N, 0, none⟩ = some (.slice At nt ct) := bx.cell 0
  have b1 : W2.cell? ⟨N, 1, none⟩ = some (.slice Au nu cu) := bx.cell 1
  have b2 : W2.cell? ⟨N, 2, none⟩ = some (.slice Ap np cp) := bx.cell 2
  have hNlt : N < W2.heap.size := by omega
  have up : ∀ V, Below W2.heap.size W2 V → Below w.heap.size w V := fun V hb => hB.trans (hb.mono hB.size)
  have HCE := Lib.hid (fun V' (hb : Below W2.heap.size W2 V') => show V'.cell? ⟨N, 0, none⟩ = some (.slice At nt ct) ∧ V'.cell? ⟨N, 1, none⟩ = some (.slice Au nu cu) ∧ V'.cell? ⟨N, 2, none⟩ = some (.slice Ap np cp) from
    ⟨(hb.cell (p := ⟨N, 0, none⟩) hNlt).trans b0, (hb.cell (p := ⟨N, 1, none⟩) hNlt).trans b1, (hb.cell (p := ⟨N, 2, none⟩) hNlt).trans b2⟩)
  have HUP := Lib.hid up
  have HW2 := Lib.hid hW2
  have HN := Lib.hid hN
  have HB0 := Lib.hid (Below.refl W2.heap.size W2)
  have HSM := Lib.hid hsm
  have hnp' : (100 : Int) < (np : Int) := by omega
  clear bx hsm0 hs ht hu hp hsm hB up hz hW2
  rw [hN]
  clear hN
  go_enter Try.func6, Try.ntmps6
  go_wp2_with fail
  rw [HW2.out, HN.out]
  go_wp2_with (first
    | (go_at_call 14; refine HS.out.mono ?_; rintro e w' ⟨rfl, rfl⟩; rw [HSM.out])
    | (go_at_call 15; refine (awake_any _).mono ?_; rintro e V9 ⟨rfl, hB9⟩; have HB9 := Lib.hid (below_then HB0.out hB9)))
  go_ret
  exact ⟨rfl, by rw [← HN.out]; exact HUP.out _ HB9.out⟩

end Go.Proofs.Ytafpcpdafojgkaa
