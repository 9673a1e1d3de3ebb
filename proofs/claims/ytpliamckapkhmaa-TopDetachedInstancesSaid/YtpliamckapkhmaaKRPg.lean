/- lemmarytop.TopDetachedInstances: for every sign and every shot (two lists of numbers with two lists of binds) the statement's function returns true, and its arguments read behind the call as they read before. No condition. -/
import Derived.Test.YtpliamckapkhmaaKQg
import Derived.Test.YtpliamckapkhmaaM3g
import Derived.Test.YtpliamckapkhmaaN24g
import Derived.Test.YtpliamckapkhmaaO3g
import Derived.Test.YtpliamckapkhmaaKSg
/- The walk of TopDetachedInstances. -/
namespace Go.Proofs.Ytpliamckapkhmaa
open Go.RowKit

theorem applZ_done {ss : Sg} {bb : List Bd} {zs : List Int} (h : (applZ ss bb zs).2 = 0) : bindsOk ss bb = true ∧ valOk ss zs = true ∧ applZ ss bb zs = (appl bb zs, 0) := by
  unfold applZ at h ⊢
  by_cases h1 : (bindsOk ss bb && valOk ss zs) = true
  · rw [if_pos h1] at h ⊢
    simp only [Bool.and_eq_true] at h1
    by_cases h2 : (appl bb zs).length ≤ 60
    · rw [if_pos h2]; exact ⟨h1.1, h1.2, rfl⟩
    · rw [if_neg h2] at h; cases h
  · rw [if_neg h1] at h; cases h

set_option maxRecDepth 100000 in
set_option maxHeartbeats 4000000 in
theorem tdi_small (As Am An Al Ak : Option Addr) (ns cs nm cm nn cn nl cl nk ck : Nat) (ss : Sg) (zM zN : List Int) (ll lk : List Hd) (L K : List Bd) (w : World) (_hs : SigAt w w.heap.size As ns ss) (_hm : IntsAt w w.heap.size Am nm zM) (_hn : IntsAt w w.heap.size An nn zN) (_hL : BindsAt w w.heap.size Al nl ll L) (_hK : BindsAt w w.heap.size Ak nk lk K) (_hc1 : nm ≤ cm) (_hc2 : cm ≤ 9223372036854775807) (hsm : smallOk ns [(Am, nm, cm), (An, nn, cn)] = false) :
    Calls Try.prog 14 #[.slice As ns cs, .agg #[.slice Am nm cm, .slice An nn cn, .slice Al nl cl, .slice Ak nk ck]] w fun e w' => e = .returned (.bool true) ∧ Below w.heap.size w w' := by
  obtain ⟨N, hN⟩ : ∃ N, w.heap.size = N := ⟨_, rfl⟩
  obtain ⟨W2, hW2⟩ : ∃ W2, (w.alloc (.cells #[.slice Am nm cm, .slice An nn cn, .slice Al nl cl, .slice Ak nk ck] 60)).alloc (.cells #[.slice Am nm cm, .slice An nn cn] 25) = W2 := ⟨_, rfl⟩
  have hB : Below w.heap.size w W2 := by rw [← hW2]; exact ((Below.refl _ w).alloc (Nat.le_refl _) _).alloc (by simp) _
  have hz : W2.heap.size = N + 2 := by rw [← hW2]; simp [hN]
  have hsm0 : HdsAt W2 W2.heap.size (some ⟨w.heap.size + 1, 0, none⟩) 2 [(Am, nm, cm), (An, nn, cn)] := by
    have := Blk.new (w.alloc (.cells #[.slice Am nm cm, .slice An nn cn, .slice Al nl cl, .slice Ak nk ck] 60)) 25 #[.slice Am nm cm, .slice An nn cn]
    rw [World.size_alloc, hW2] at this
    exact HdsAt.of_blk _ this rfl rfl (by simp)
  have HS := Lib.hid (small_any As _ ns cs 2 2 _ W2 _ hsm0)
  have bx : Blk W2 w.heap.size 60 #[.slice Am nm cm, .slice An nn cn, .slice Al nl cl, .slice Ak nk ck] := by
    rw [← hW2]; exact (Blk.new w _ _).alloc _
  rw [hN] at bx HS
  have b0 : W2.cell? ⟨N, 0, none⟩ = some (.slice Am nm cm) := bx.cell 0
  have b1 : W2.cell? ⟨N, 1, none⟩ = some (.slice An nn cn) := bx.cell 1
  have b2 : W2.cell? ⟨N, 2, none⟩ = some (.slice Al nl cl) := bx.cell 2
  have b3 : W2.cell? ⟨N, 3, none⟩ = some (.slice Ak nk ck) := bx.cell 3
  have hNlt : N < W2.heap.size := by omega
  have up : ∀ V, Below W2.heap.size W2 V → Below w.heap.size w V := fun V hb => hB.trans (hb.mono hB.size)
  have HCE := Lib.hid (fun V' (hb : Below W2.heap.size W2 V') => show V'.cell? ⟨N, 0, none⟩ = some (.slice Am nm cm) ∧ V'.cell? ⟨N, 1, none⟩ = some (.slice An nn cn) ∧ V'.cell? ⟨N, 2, none⟩ = some (.slice Al nl cl) ∧ V'.cell? ⟨N, 3, none⟩ = some (.slice Ak nk ck) from
    ⟨(hb.cell (p := ⟨N, 0, none⟩) hNlt).trans b0, (hb.cell (p := ⟨N, 1, none⟩) hNlt).trans b1, (hb.cell (p := ⟨N, 2, none⟩) hNlt).trans b2, (hb.cell (p := ⟨N, 3, none⟩) hNlt).trans b3⟩)
  have HUP := Lib.hid up
  have HW2 := Lib.hid hW2
  have HN := Lib.hid hN
  have HB0 := Lib.hid (Below.refl W2.heap.size W2)
  have HSM := Lib.hid hsm
  clear bx hsm0 _hs _hm _hn _hL _hK hsm hB up hz hW2 _hc1 _hc2
  rw [hN]
  clear hN
  go_enter Try.func14, Try.ntmps14
  go_wp2_with fail
  rw [HW2.out, HN.out]
  go_wp2_with (first
    | (go_at_call 15; ((with_reducible refine HS.out.mono ?_); rintro e w' ⟨rfl, rfl⟩; rw [HSM.out]))
    | (go_at_call 59; refine (awake5_any _).mono ?_; rintro e Vz ⟨rfl, hBz⟩; have HBz := Lib.hid (below_then HB0.out hBz); clear hBz))
  go_ret
  exact ⟨rfl, by rw [← HN.out]; exact HUP.out _ HBz.out⟩

set_option maxRecDepth 100000 in
set_option maxHeartbeats 4000000 in
theorem tdi_long (As Am An Al Ak : Option Addr) (ns cs nm cm nn cn nl cl nk ck : Nat) (ss : Sg) (zM zN : List Int) (ll lk : List Hd) (L K : List Bd) (w : World) (_hs : SigAt w w.heap.size As ns ss) (_hm : IntsAt w w.heap.size Am nm zM) (_hn : IntsAt w w.heap.size An nn zN) (_hL : BindsAt w w.heap.size Al nl ll L) (_hK : BindsAt w w.heap.size Ak nk lk K) (_hc1 : nm ≤ cm) (_hc2 : cm ≤ 9223372036854775807) (hsm : smallOk ns [(Am, nm, cm), (An, nn, cn)] = true) (hl : 30 < nl) :
    Calls Try.prog 14 #[.slice As ns cs, .agg #[.slice Am nm cm, .slice An nn cn, .slice Al nl cl, .slice Ak nk ck]] w fun e w' => e = .returned (.bool true) ∧ Below w.heap.size w w' := by
  obtain ⟨N, hN⟩ : ∃ N, w.heap.size = N := ⟨_, rfl⟩
  obtain ⟨W2, hW2⟩ : ∃ W2, (w.alloc (.cells #[.slice Am nm cm, .slice An nn cn, .slice Al nl cl, .slice Ak nk ck] 60)).alloc (.cells #[.slice Am nm cm, .slice An nn cn] 25) = W2 := ⟨_, rfl⟩
  have hB : Below w.heap.size w W2 := by rw [← hW2]; exact ((Below.refl _ w).alloc (Nat.le_refl _) _).alloc (by simp) _
  have hz : W2.heap.size = N + 2 := by rw [← hW2]; simp [hN]
  have hsm0 : HdsAt W2 W2.heap.size (some ⟨w.heap.size + 1, 0, none⟩) 2 [(Am, nm, cm), (An, nn, cn)] := by
    have := Blk.new (w.alloc (.cells #[.slice Am nm cm, .slice An nn cn, .slice Al nl cl, .slice Ak nk ck] 60)) 25 #[.slice Am nm cm, .slice An nn cn]
    rw [World.size_alloc, hW2] at this
    exact HdsAt.of_blk _ this rfl rfl (by simp)
  have HS := Lib.hid (small_any As _ ns cs 2 2 _ W2 _ hsm0)
  have bx : Blk W2 w.heap.size 60 #[.slice Am nm cm, .slice An nn cn, .slice Al nl cl, .slice Ak nk ck] := by
    rw [← hW2]; exact (Blk.new w _ _).alloc _
  rw [hN] at bx HS
  have b0 : W2.cell? ⟨N, 0, none⟩ = some (.slice Am nm cm) := bx.cell 0
  have b1 : W2.cell? ⟨N, 1, none⟩ = some (.slice An nn cn) := bx.cell 1
  have b2 : W2.cell? ⟨N, 2, none⟩ = some (.slice Al nl cl) := bx.cell 2
  have b3 : W2.cell? ⟨N, 3, none⟩ = some (.slice Ak nk ck) := bx.cell 3
  have hNlt : N < W2.heap.size := by omega
  have up : ∀ V, Below W2.heap.size W2 V → Below w.heap.size w V := fun V hb => hB.trans (hb.mono hB.size)
  have HCE := Lib.hid (fun V' (hb : Below W2.heap.size W2 V') => show V'.cell? ⟨N, 0, none⟩ = some (.slice Am nm cm) ∧ V'.cell? ⟨N, 1, none⟩ = some (.slice An nn cn) ∧ V'.cell? ⟨N, 2, none⟩ = some (.slice Al nl cl) ∧ V'.cell? ⟨N, 3, none⟩ = some (.slice Ak nk ck) from
    ⟨(hb.cell (p := ⟨N, 0, none⟩) hNlt).trans b0, (hb.cell (p := ⟨N, 1, none⟩) hNlt).trans b1, (hb.cell (p := ⟨N, 2, none⟩) hNlt).trans b2, (hb.cell (p := ⟨N, 3, none⟩) hNlt).trans b3⟩)
  have HUP := Lib.hid up
  have HW2 := Lib.hid hW2
  have HN := Lib.hid hN
  have HB0 := Lib.hid (Below.refl W2.heap.size W2)
  have HSM := Lib.hid hsm
  have hl' : (30 : Int) < (nl : Int) := by omega
  clear bx hsm0 _hs _hm _hn _hL _hK hsm hB up hz hW2 _hc1 _hc2
  rw [hN]
  clear hN
  go_enter Try.func14, Try.ntmps14
  go_wp2_with fail
  rw [HW2.out, HN.out]
  go_wp2_with (first
    | (go_at_call 15; ((with_reducible refine HS.out.mono ?_); rintro e w' ⟨rfl, rfl⟩; rw [HSM.out]))
    | (go_at_call 59; refine (awake5_any _).mono ?_; rintro e Vz ⟨rfl, hBz⟩; have HBz := Lib.hid (below_then HB0.out hBz); clear hBz))
  go_ret
  exact ⟨rfl, by rw [← HN.out]; exact HUP.out _ HBz.out⟩

set_option maxRecDepth 100000 in
set_option maxHeartbeats 4000000 in
theorem tdi_long2 (As Am An Al Ak : Option Addr) (ns cs nm cm nn cn nl cl nk ck : Nat) (ss : Sg) (zM zN : List Int) (ll lk : List Hd) (L K : List Bd) (w : World) (_hs : SigAt w w.heap.size As ns ss) (_hm : IntsAt w w.heap.size Am nm zM) (_hn : IntsAt w w.heap.size An nn zN) (_hL : BindsAt w w.heap.size Al nl ll L) (_hK : BindsAt w w.heap.size Ak nk lk K) (_hc1 : nm ≤ cm) (_hc2 : cm ≤ 9223372036854775807) (hsm : smallOk ns [(Am, nm, cm), (An, nn, cn)] = true) (hl : nl ≤ 30) (hk : 30 < nk) :
    Calls Try.prog 14 #[.slice As ns cs, .agg #[.slice Am nm cm, .slice An nn cn, .slice Al nl cl, .slice Ak nk ck]] w fun e w' => e = .returned (.bool true) ∧ Below w.heap.size w w' := by
  obtain ⟨N, hN⟩ : ∃ N, w.heap.size = N := ⟨_, rfl⟩
  obtain ⟨W2, hW2⟩ : ∃ W2, (w.alloc (.cells #[.slice Am nm cm, .slice An nn cn, .slice Al nl cl, .slice Ak nk ck] 60)).alloc (.cells #[.slice Am nm cm, .slice An nn cn] 25) = W2 := ⟨_, rfl⟩
  have hB : Below w.heap.size w W2 := by rw [← hW2]; exact ((Below.refl _ w).alloc (Nat.le_refl _) _).alloc (by simp) _
  have hz : W2.heap.size = N + 2 := by rw [← hW2]; simp [hN]
  have hsm0 : HdsAt W2 W2.heap.size (some ⟨w.heap.size + 1, 0, none⟩) 2 [(Am, nm, cm), (An, nn, cn)] := by
    have := Blk.new (w.alloc (.cells #[.slice Am nm cm, .slice An nn cn, .slice Al nl cl, .slice Ak nk ck] 60)) 25 #[.slice Am nm cm, .slice An nn cn]
    rw [World.size_alloc, hW2] at this
    exact HdsAt.of_blk _ this rfl rfl (by simp)
  have HS := Lib.hid (small_any As _ ns cs 2 2 _ W2 _ hsm0)
  have bx : Blk W2 w.heap.size 60 #[.slice Am nm cm, .slice An nn cn, .slice Al nl cl, .slice Ak nk ck] := by
    rw [← hW2]; exact (Blk.new w _ _).alloc _
  rw [hN] at bx HS
  have b0 : W2.cell? ⟨N, 0, none⟩ = some (.slice Am nm cm) := bx.cell 0
  have b1 : W2.cell? ⟨N, 1, none⟩ = some (.slice An nn cn) := bx.cell 1
  have b2 : W2.cell? ⟨N, 2, none⟩ = some (.slice Al nl cl) := bx.cell 2
  have b3 : W2.cell? ⟨N, 3, none⟩ = some (.slice Ak nk ck) := bx.cell 3
  have hNlt : N < W2.heap.size := by omega
  have up : ∀ V, Below W2.heap.size W2 V → Below w.heap.size w V := fun V hb => hB.trans (hb.mono hB.size)
  have HCE := Lib.hid (fun V' (hb : Below W2.heap.size W2 V') => show V'.cell? ⟨N, 0, none⟩ = some (.slice Am nm cm) ∧ V'.cell? ⟨N, 1, none⟩ = some (.slice An nn cn) ∧ V'.cell? ⟨N, 2, none⟩ = some (.slice Al nl cl) ∧ V'.cell? ⟨N, 3, none⟩ = some (.slice Ak nk ck) from
    ⟨(hb.cell (p := ⟨N, 0, none⟩) hNlt).trans b0, (hb.cell (p := ⟨N, 1, none⟩) hNlt).trans b1, (hb.cell (p := ⟨N, 2, none⟩) hNlt).trans b2, (hb.cell (p := ⟨N, 3, none⟩) hNlt).trans b3⟩)
  have HUP := Lib.hid up
  have HW2 := Lib.hid hW2
  have HN := Lib.hid hN
  have HB0 := Lib.hid (Below.refl W2.heap.size W2)
  have HSM := Lib.hid hsm
  have hl' : ¬ (30 : Int) < (nl : Int) := by omega
  have hk' : (30 : Int) < (nk : Int) := by omega
  clear bx hsm0 _hs _hm _hn _hL _hK hsm hB up hz hW2 _hc1 _hc2 hl
  rw [hN]
  clear hN
  go_enter Try.func14, Try.ntmps14
  go_wp2_with fail
  rw [HW2.out, HN.out]
  go_wp2_with (first
    | (go_at_call 15; ((with_reducible refine HS.out.mono ?_); rintro e w' ⟨rfl, rfl⟩; rw [HSM.out]))
    | (go_at_call 59; refine (awake5_any _).mono ?_; rintro e Vz ⟨rfl, hBz⟩; have HBz := Lib.hid (below_then HB0.out hBz); clear hBz))
  go_ret
  exact ⟨rfl, by rw [← HN.out]; exact HUP.out _ HBz.out⟩

set_option maxRecDepth 100000 in
set_option maxHeartbeats 4000000 in
theorem tdi_main (As Am An Al Ak : Option Addr) (ns cs nm cm nn cn nl cl nk ck : Nat) (ss : Sg) (zM zN : List Int) (ll lk : List Hd) (L K : List Bd) (w : World) (hs : SigAt w w.heap.size As ns ss) (hm : IntsAt w w.heap.size Am nm zM) (hn : IntsAt w w.heap.size An nn zN) (hL : BindsAt w w.heap.size Al nl ll L) (hK : BindsAt w w.heap.size Ak nk lk K) (hc1 : nm ≤ cm) (hc2 : cm ≤ 9223372036854775807) (hsm : smallOk ns [(Am, nm, cm), (An, nn, cn)] = true) (hl : nl ≤ 30) (hk : nk ≤ 30) :
    Calls Try.prog 14 #[.slice As ns cs, .agg #[.slice Am nm cm, .slice An nn cn, .slice Al nl cl, .slice Ak nk ck]] w fun e w' => e = .returned (.bool true) ∧ Below w.heap.size w w' := by
  obtain ⟨N, hN⟩ : ∃ N, w.heap.size = N := ⟨_, rfl⟩
  obtain ⟨W2, hW2⟩ : ∃ W2, (w.alloc (.cells #[.slice Am nm cm, .slice An nn cn, .slice Al nl cl, .slice Ak nk ck] 60)).alloc (.cells #[.slice Am nm cm, .slice An nn cn] 25) = W2 := ⟨_, rfl⟩
  have hB : Below w.heap.size w W2 := by rw [← hW2]; exact ((Below.refl _ w).alloc (Nat.le_refl _) _).alloc (by simp) _
  have hz : W2.heap.size = N + 2 := by rw [← hW2]; simp [hN]
  have hsm0 : HdsAt W2 W2.heap.size (some ⟨w.heap.size + 1, 0, none⟩) 2 [(Am, nm, cm), (An, nn, cn)] := by
    have := Blk.new (w.alloc (.cells #[.slice Am nm cm, .slice An nn cn, .slice Al nl cl, .slice Ak nk ck] 60)) 25 #[.slice Am nm cm, .slice An nn cn]
    rw [World.size_alloc, hW2] at this
    exact HdsAt.of_blk _ this rfl rfl (by simp)
  have HS := Lib.hid (small_any As _ ns cs 2 2 _ W2 _ hsm0)
  have bx : Blk W2 w.heap.size 60 #[.slice Am nm cm, .slice An nn cn, .slice Al nl cl, .slice Ak nk ck] := by
    rw [← hW2]; exact (Blk.new w _ _).alloc _
  rw [hN] at bx HS
  have b0 : W2.cell? ⟨N, 0, none⟩ = some (.slice Am nm cm) := bx.cell 0
  have b1 : W2.cell? ⟨N, 1, none⟩ = some (.slice An nn cn) := bx.cell 1
  have b2 : W2.cell? ⟨N, 2, none⟩ = some (.slice Al nl cl) := bx.cell 2
  have b3 : W2.cell? ⟨N, 3, none⟩ = some (.slice Ak nk ck) := bx.cell 3
  have hNlt : N < W2.heap.size := by omega
  have up : ∀ V, Below W2.heap.size W2 V → Below w.heap.size w V := fun V hb => hB.trans (hb.mono hB.size)
  have HCE := Lib.hid (fun V' (hb : Below W2.heap.size W2 V') => show V'.cell? ⟨N, 0, none⟩ = some (.slice Am nm cm) ∧ V'.cell? ⟨N, 1, none⟩ = some (.slice An nn cn) ∧ V'.cell? ⟨N, 2, none⟩ = some (.slice Al nl cl) ∧ V'.cell? ⟨N, 3, none⟩ = some (.slice Ak nk ck) from
    ⟨(hb.cell (p := ⟨N, 0, none⟩) hNlt).trans b0, (hb.cell (p := ⟨N, 1, none⟩) hNlt).trans b1, (hb.cell (p := ⟨N, 2, none⟩) hNlt).trans b2, (hb.cell (p := ⟨N, 3, none⟩) hNlt).trans b3⟩)
  have HUP := Lib.hid up
  have HW2 := Lib.hid hW2
  have HN := Lib.hid hN
  have HB0 := Lib.hid (Below.refl W2.heap.size W2)
  have HSM := Lib.hid hsm
  have hl' : ¬ (30 : Int) < (nl : Int) := by omega
  have hk' : ¬ (30 : Int) < (nk : Int) := by omega
  have C1 := Lib.hid (fun V (hb : Below W2.heap.size W2 V) => applyk_any As Al Am ns cs nl cl nm cm ss ll L zM V (hs.up (up V hb)) (hL.up (up V hb)) (hm.up (up V hb)) (by omega))
  have C2 := Lib.hid (fun V (hb : Below W2.heap.size W2 V) => applyk_any As Ak An ns cs nk ck nn cn ss lk K zN V (hs.up (up V hb)) (hK.up (up V hb)) (hn.up (up V hb)) (by omega))
  have D3 := Lib.hid (fun V (hb : Below W2.heap.size W2 V) A1 A2 n1 c1 n2 c2 zm zn (h1 : IntsAt V V.heap.size A1 n1 zm) (h2 : IntsAt V V.heap.size A2 n2 zn) (k : n1 ≤ c1 ∧ c1 ≤ 9223372036854775807) => kdetach_any As A1 A2 ns cs n1 c1 n2 c2 ss zm zn V (hs.up (up V hb)) h1 h2 k.1 k.2)
  have C4 := Lib.hid (fun V (hb : Below W2.heap.size W2 V) => kdetach_any As Am An ns cs nm cm nn cn ss zM zN V (hs.up (up V hb)) (hm.up (up V hb)) (hn.up (up V hb)) hc1 hc2)
  have D5 := Lib.hid (fun V (hb : Below W2.heap.size W2 V) A1 A2 n1 c1 n2 c2 u t (h1 : IntsAt V V.heap.size A1 n1 u) (h2 : IntsAt V V.heap.size A2 n2 t) (k : n2 ≤ c2 ∧ c2 ≤ 9223372036854775807) => instance_any As A1 A2 ns cs n1 c1 n2 c2 ss u t V (hs.up (up V hb)) h1 h2 k.1 k.2)
  have hdet : (applZ ss L zM).2 = 0 → (applZ ss K zN).2 = 0 → (detZ ss (applZ ss L zM).1 (applZ ss K zN).1).2 = 0 → (detZ ss zM zN).2 ≠ 4 → (detZ ss zM zN).2 ≠ 10 → (detZ ss zM zN).2 = 0 ∧ insB ss (detZ ss zM zN).1 (detZ ss (applZ ss L zM).1 (applZ ss K zN).1).1 = true := by
    intro e1 e2 h0 h4 h10
    obtain ⟨a1, a2, a3⟩ := applZ_done e1
    obtain ⟨d1, d2, d3⟩ := applZ_done e2
    rw [a3, d3] at h0 ⊢
    exact det_inst a2 d2 a1 d1 rfl rfl h0 h4 h10
  have HDET := Lib.hid hdet
  clear hdet
  obtain ⟨R1, hR1⟩ : ∃ R1, applZ ss L zM = R1 := ⟨_, rfl⟩
  obtain ⟨R2, hR2⟩ : ∃ R2, applZ ss K zN = R2 := ⟨_, rfl⟩
  obtain ⟨R4, hR4⟩ : ∃ R4, detZ ss zM zN = R4 := ⟨_, rfl⟩
  rw [hR1] at C1 HDET
  rw [hR2] at C2 HDET
  rw [hR4] at C4 HDET
  obtain ⟨m, e1⟩ := R1
  obtain ⟨n, e2⟩ := R2
  obtain ⟨u, e4⟩ := R4
  have C3 := Lib.hid (fun V hb A1 A2 n1 c1 n2 c2 => D3.out V hb A1 A2 n1 c1 n2 c2 m n)
  have C5 := Lib.hid (fun V hb A1 A2 n1 c1 n2 c2 => D5.out V hb A1 A2 n1 c1 n2 c2 u (detZ ss m n).1)
  obtain ⟨R3, hR3⟩ : ∃ R3, detZ ss m n = R3 := ⟨_, rfl⟩
  rw [hR3] at C5
  simp only [hR3] at C3 HDET
  obtain ⟨t, e3⟩ := R3
  simp only at C1 C2 C3 C4 C5 HDET
  clear D3 D5 hR1 hR2 hR3 hR4 hl hk
  clear bx hsm0 hs hm hn hL hK hsm hB up hz hW2 hc1 hc2
  by_cases h1 : ¬ e1 = 0
  · have h11 : (e1 != 0) = true := by simpa using h1
    have h12 : (e1 == 0) = false := by simpa using h1
    clear HDET C3 C4 C5
    rw [hN]
    clear hN
    go_enter Try.func14, Try.ntmps14
    go_wp2_with fail
    rw [HW2.out, HN.out]
    go_wp2_with (first
      | (go_at_call 15; ((with_reducible refine HS.out.mono ?_); rintro e w' ⟨rfl, rfl⟩; rw [HSM.out]))
      | (go_at_call 30; ((with_reducible refine (C2.out _ HB1.out).mono ?_); rintro e V2 ⟨A2, n2, c2, rfl, hI2, hk2, hB2⟩; have HI1' := Lib.hid (HI1.out.up hB2); have HI2 := Lib.hid hI2; have HB2 := Lib.hid (below_then HB1.out hB2); clear hI2 hB2 hk2))
      | (go_at_call 30; ((with_reducible refine (C1.out _ HB0.out).mono ?_); rintro e V1 ⟨A1, n1, c1, rfl, hI1, hk1, hB1⟩; obtain ⟨x0, x1, x2, x3⟩ := HCE.out _ hB1; have HK1 := Lib.hid hk1; have HI1 := Lib.hid hI1; have HB1 := Lib.hid (below_then HB0.out hB1); clear hI1 hB1 hk1))
      | (go_at_call 59; refine (awake5_any _).mono ?_; rintro e Vz ⟨rfl, hBz⟩; have HBz := Lib.hid (below_then HB2.out hBz); clear hBz))
    go_ret
    exact ⟨rfl, by rw [← HN.out]; exact HUP.out _ HBz.out⟩
  replace h1 : e1 = 0 := Decidable.not_not.1 h1
  subst h1
  by_cases h2 : ¬ e2 = 0
  · have h21 : (e2 != 0) = true := by simpa using h2
    have h22 : (e2 == 0) = false := by simpa using h2
    clear HDET C3 C4 C5
    rw [hN]
    clear hN
    go_enter Try.func14, Try.ntmps14
    go_wp2_with fail
    rw [HW2.out, HN.out]
    go_wp2_with (first
      | (go_at_call 15; ((with_reducible refine HS.out.mono ?_); rintro e w' ⟨rfl, rfl⟩; rw [HSM.out]))
      | (go_at_call 30; ((with_reducible refine (C2.out _ HB1.out).mono ?_); rintro e V2 ⟨A2, n2, c2, rfl, hI2, hk2, hB2⟩; have HI1' := Lib.hid (HI1.out.up hB2); have HI2 := Lib.hid hI2; have HB2 := Lib.hid (below_then HB1.out hB2); clear hI2 hB2 hk2))
      | (go_at_call 30; ((with_reducible refine (C1.out _ HB0.out).mono ?_); rintro e V1 ⟨A1, n1, c1, rfl, hI1, hk1, hB1⟩; obtain ⟨x0, x1, x2, x3⟩ := HCE.out _ hB1; have HK1 := Lib.hid hk1; have HI1 := Lib.hid hI1; have HB1 := Lib.hid (below_then HB0.out hB1); clear hI1 hB1 hk1))
      | (go_at_call 59; refine (awake5_any _).mono ?_; rintro e Vz ⟨rfl, hBz⟩; have HBz := Lib.hid (below_then HB2.out hBz); clear hBz))
    go_ret
    exact ⟨rfl, by rw [← HN.out]; exact HUP.out _ HBz.out⟩
  replace h2 : e2 = 0 := Decidable.not_not.1 h2
  subst h2
  by_cases h3 : ¬ e3 = 0
  · have h31 : (e3 != 0) = true := by simpa using h3
    have h32 : (e3 == 0) = false := by simpa using h3
    clear HDET C5
    rw [hN]
    clear hN
    go_enter Try.func14, Try.ntmps14
    go_wp2_with fail
    rw [HW2.out, HN.out]
    go_wp2_with (first
      | (go_at_call 15; ((with_reducible refine HS.out.mono ?_); rintro e w' ⟨rfl, rfl⟩; rw [HSM.out]))
      | (go_at_call 30; ((with_reducible refine (C2.out _ HB1.out).mono ?_); rintro e V2 ⟨A2, n2, c2, rfl, hI2, hk2, hB2⟩; have HI1' := Lib.hid (HI1.out.up hB2); have HI2 := Lib.hid hI2; have HB2 := Lib.hid (below_then HB1.out hB2); clear hI2 hB2 hk2))
      | (go_at_call 30; ((with_reducible refine (C1.out _ HB0.out).mono ?_); rintro e V1 ⟨A1, n1, c1, rfl, hI1, hk1, hB1⟩; obtain ⟨x0, x1, x2, x3⟩ := HCE.out _ hB1; have HK1 := Lib.hid hk1; have HI1 := Lib.hid hI1; have HB1 := Lib.hid (below_then HB0.out hB1); clear hI1 hB1 hk1))
      | (go_at_call 53; ((with_reducible refine (C4.out _ HB3.out).mono ?_); rintro e V4 ⟨A4, n4, c4, rfl, hI4, hk4, hB4⟩; have HI3' := Lib.hid (HI3.out.up hB4); have HI4 := Lib.hid hI4; have HB4 := Lib.hid (below_then HB3.out hB4); clear hI4 hB4 hk4))
      | (go_at_call 53; ((with_reducible refine (C3.out _ HB2.out _ _ _ _ _ _ HI1'.out HI2.out HK1.out).mono ?_); rintro e V3 ⟨A3, n3, c3, rfl, hI3, hk3, hB3⟩; have HB3 := Lib.hid (below_then HB2.out hB3); obtain ⟨y0, y1, y2, y3⟩ := HCE.out _ HB3.out; have HK3 := Lib.hid hk3; have HI3 := Lib.hid hI3; clear hI3 hB3 hk3))
      | (go_at_call 59; refine (awake5_any _).mono ?_; rintro e Vz ⟨rfl, hBz⟩; have HBz := Lib.hid (below_then HB4.out hBz); clear hBz))
    go_ret
    exact ⟨rfl, by rw [← HN.out]; exact HUP.out _ HBz.out⟩
  replace h3 : e3 = 0 := Decidable.not_not.1 h3
  subst h3
  by_cases h4 : e4 = 4
  · subst h4
    clear HDET C5
    rw [hN]
    clear hN
    go_enter Try.func14, Try.ntmps14
    go_wp2_with fail
    rw [HW2.out, HN.out]
    go_wp2_with (first
      | (go_at_call 15; ((with_reducible refine HS.out.mono ?_); rintro e w' ⟨rfl, rfl⟩; rw [HSM.out]))
      | (go_at_call 30; ((with_reducible refine (C2.out _ HB1.out).mono ?_); rintro e V2 ⟨A2, n2, c2, rfl, hI2, hk2, hB2⟩; have HI1' := Lib.hid (HI1.out.up hB2); have HI2 := Lib.hid hI2; have HB2 := Lib.hid (below_then HB1.out hB2); clear hI2 hB2 hk2))
      | (go_at_call 30; ((with_reducible refine (C1.out _ HB0.out).mono ?_); rintro e V1 ⟨A1, n1, c1, rfl, hI1, hk1, hB1⟩; obtain ⟨x0, x1, x2, x3⟩ := HCE.out _ hB1; have HK1 := Lib.hid hk1; have HI1 := Lib.hid hI1; have HB1 := Lib.hid (below_then HB0.out hB1); clear hI1 hB1 hk1))
      | (go_at_call 53; ((with_reducible refine (C4.out _ HB3.out).mono ?_); rintro e V4 ⟨A4, n4, c4, rfl, hI4, hk4, hB4⟩; have HI3' := Lib.hid (HI3.out.up hB4); have HI4 := Lib.hid hI4; have HB4 := Lib.hid (below_then HB3.out hB4); clear hI4 hB4 hk4))
      | (go_at_call 53; ((with_reducible refine (C3.out _ HB2.out _ _ _ _ _ _ HI1'.out HI2.out HK1.out).mono ?_); rintro e V3 ⟨A3, n3, c3, rfl, hI3, hk3, hB3⟩; have HB3 := Lib.hid (below_then HB2.out hB3); obtain ⟨y0, y1, y2, y3⟩ := HCE.out _ HB3.out; have HK3 := Lib.hid hk3; have HI3 := Lib.hid hI3; clear hI3 hB3 hk3))
      | (go_at_call 59; refine (awake5_any _).mono ?_; rintro e Vz ⟨rfl, hBz⟩; have HBz := Lib.hid (below_then HB4.out hBz); clear hBz))
    go_ret
    exact ⟨rfl, by rw [← HN.out]; exact HUP.out _ HBz.out⟩
  by_cases h5 : e4 = 10
  · subst h5
    clear HDET C5
    rw [hN]
    clear hN
    go_enter Try.func14, Try.ntmps14
    go_wp2_with fail
    rw [HW2.out, HN.out]
    go_wp2_with (first
      | (go_at_call 15; ((with_reducible refine HS.out.mono ?_); rintro e w' ⟨rfl, rfl⟩; rw [HSM.out]))
      | (go_at_call 30; ((with_reducible refine (C2.out _ HB1.out).mono ?_); rintro e V2 ⟨A2, n2, c2, rfl, hI2, hk2, hB2⟩; have HI1' := Lib.hid (HI1.out.up hB2); have HI2 := Lib.hid hI2; have HB2 := Lib.hid (below_then HB1.out hB2); clear hI2 hB2 hk2))
      | (go_at_call 30; ((with_reducible refine (C1.out _ HB0.out).mono ?_); rintro e V1 ⟨A1, n1, c1, rfl, hI1, hk1, hB1⟩; obtain ⟨x0, x1, x2, x3⟩ := HCE.out _ hB1; have HK1 := Lib.hid hk1; have HI1 := Lib.hid hI1; have HB1 := Lib.hid (below_then HB0.out hB1); clear hI1 hB1 hk1))
      | (go_at_call 53; ((with_reducible refine (C4.out _ HB3.out).mono ?_); rintro e V4 ⟨A4, n4, c4, rfl, hI4, hk4, hB4⟩; have HI3' := Lib.hid (HI3.out.up hB4); have HI4 := Lib.hid hI4; have HB4 := Lib.hid (below_then HB3.out hB4); clear hI4 hB4 hk4))
      | (go_at_call 53; ((with_reducible refine (C3.out _ HB2.out _ _ _ _ _ _ HI1'.out HI2.out HK1.out).mono ?_); rintro e V3 ⟨A3, n3, c3, rfl, hI3, hk3, hB3⟩; have HB3 := Lib.hid (below_then HB2.out hB3); obtain ⟨y0, y1, y2, y3⟩ := HCE.out _ HB3.out; have HK3 := Lib.hid hk3; have HI3 := Lib.hid hI3; clear hI3 hB3 hk3))
      | (go_at_call 59; refine (awake5_any _).mono ?_; rintro e Vz ⟨rfl, hBz⟩; have HBz := Lib.hid (below_then HB4.out hBz); clear hBz))
    go_ret
    exact ⟨rfl, by rw [← HN.out]; exact HUP.out _ HBz.out⟩
  obtain ⟨h6, h7⟩ := HDET.out rfl rfl rfl h4 h5
  subst h6
  rw [h7] at C5
  clear HDET h4 h5 h7
  rw [hN]
  clear hN
  go_enter Try.func14, Try.ntmps14
  go_wp2_with fail
  rw [HW2.out, HN.out]
  go_wp2_with (first
    | (go_at_call 15; ((with_reducible refine HS.out.mono ?_); rintro e w' ⟨rfl, rfl⟩; rw [HSM.out]))
    | (go_at_call 30; ((with_reducible refine (C2.out _ HB1.out).mono ?_); rintro e V2 ⟨A2, n2, c2, rfl, hI2, hk2, hB2⟩; have HI1' := Lib.hid (HI1.out.up hB2); have HI2 := Lib.hid hI2; have HB2 := Lib.hid (below_then HB1.out hB2); clear hI2 hB2 hk2))
    | (go_at_call 30; ((with_reducible refine (C1.out _ HB0.out).mono ?_); rintro e V1 ⟨A1, n1, c1, rfl, hI1, hk1, hB1⟩; obtain ⟨x0, x1, x2, x3⟩ := HCE.out _ hB1; have HK1 := Lib.hid hk1; have HI1 := Lib.hid hI1; have HB1 := Lib.hid (below_then HB0.out hB1); clear hI1 hB1 hk1))
    | (go_at_call 53; ((with_reducible refine (C4.out _ HB3.out).mono ?_); rintro e V4 ⟨A4, n4, c4, rfl, hI4, hk4, hB4⟩; have HI3' := Lib.hid (HI3.out.up hB4); have HI4 := Lib.hid hI4; have HB4 := Lib.hid (below_then HB3.out hB4); clear hI4 hB4 hk4))
    | (go_at_call 53; ((with_reducible refine (C3.out _ HB2.out _ _ _ _ _ _ HI1'.out HI2.out HK1.out).mono ?_); rintro e V3 ⟨A3, n3, c3, rfl, hI3, hk3, hB3⟩; have HB3 := Lib.hid (below_then HB2.out hB3); obtain ⟨y0, y1, y2, y3⟩ := HCE.out _ HB3.out; have HK3 := Lib.hid hk3; have HI3 := Lib.hid hI3; clear hI3 hB3 hk3))
    | (go_at_call 39; ((with_reducible refine (C5.out _ HB4.out _ _ _ _ _ _ HI4.out HI3'.out HK3.out).mono ?_); rintro e V5 ⟨rfl, hB5⟩; have HB5 := Lib.hid (below_then HB4.out hB5); clear hB5))
    | (go_at_call 59; refine (awake5_any _).mono ?_; rintro e Vz ⟨rfl, hBz⟩; have HBz := Lib.hid (below_then HB5.out hBz); clear hBz))
  go_ret
  exact ⟨rfl, by rw [← HN.out]; exact HUP.out _ HBz.out⟩

theorem tdi_walk (As Am An Al Ak : Option Addr) (ns cs nm cm nn cn nl cl nk ck : Nat) (ss : Sg) (zM zN : List Int) (ll lk : List Hd) (L K : List Bd) (w : World) (hs : SigAt w w.heap.size As ns ss) (hm : IntsAt w w.heap.size Am nm zM) (hn : IntsAt w w.heap.size An nn zN) (hL : BindsAt w w.heap.size Al nl ll L) (hK : BindsAt w w.heap.size Ak nk lk K) (hc1 : nm ≤ cm) (hc2 : cm ≤ 9223372036854775807) : Calls Try.prog 14 #[.slice As ns cs, .agg #[.slice Am nm cm, .slice An nn cn, .slice Al nl cl, .slice Ak nk ck]] w fun e w' => e = .returned (.bool true) ∧ Below w.heap.size w w' := by
  cases hsm : smallOk ns [(Am, nm, cm), (An, nn, cn)]
  · exact tdi_small As Am An Al Ak ns cs nm cm nn cn nl cl nk ck ss zM zN ll lk L K w hs hm hn hL hK hc1 hc2 hsm
  · by_cases hl : 30 < nl
    · exact tdi_long As Am An Al Ak ns cs nm cm nn cn nl cl nk ck ss zM zN ll lk L K w hs hm hn hL hK hc1 hc2 hsm hl
    · by_cases hk : 30 < nk
      · exact tdi_long2 As Am An Al Ak ns cs nm cm nn cn nl cl nk ck ss zM zN ll lk L K w hs hm hn hL hK hc1 hc2 hsm (by omega) hk
      · exact tdi_main As Am An Al Ak ns cs nm cm nn cn nl cl nk ck ss zM zN ll lk L K w hs hm hn hL hK hc1 hc2 hsm (by omega) (by omega)

end Go.Proofs.Ytpliamckapkhmaa

namespace Go.Proofs.Ytpliamckapkhmaa
open Go.ChangeShapes Go.WideShapes Go.ChangeAt Go.RowKit Go.Deep

set_option maxRecDepth 100000 in
theorem tdi_lifted (os : Os) (started : os.Started) (H : Type) (enc : TypeId × Value → H) :
    ReturnsInHanded {} Try.checked os 14 .any (Rows.topDetachedInstancesSpec.pre6 enc Try.prog Try.f14 Rows.topDetachedInstancesRow.domain false) (Rows.topDetachedInstancesSpec.post enc Try.prog Try.f14 false true false false) := by
  refine returnsInHanded_of_change (C := Try.checked) own started (by kernel_rfl) Try.func14
    (ChangeSpec.witness6 (enc := enc) (C := Try.checked) false ⟨#[], #[.slice none 0 0, .agg #[.slice none 0 0, .slice none 0 0, .slice none 0 0, .slice none 0 0]], []⟩ 8 (by kernel_rfl) (by kernel_rfl) (by kernel_rfl) (by kernel_rfl)) ?_
  intro W base args ds gs before hval0 hW hcnd _
  have hval : ∀ (j : Nat) t v, Try.f14.params[j]? = some t → args[j]? = some v → Value.okWide Try.prog W .any base t v := hval0
  have hW' := hW
  obtain ⟨p, q, hA0, hV, rfl, hfz, hnd⟩ := hW
  have hA : DataW.TrodAll enc Try.prog W 0 (fun _ => true) true Try.f14.params.toList args.toList ds p := hA0
  rw [Try.params14] at hA hval
  obtain ⟨v0, vs0, d0, ds0, p0, q0, hargs, rfl, rfl, h0, r0⟩ := trodAll_cons hA
  obtain ⟨v1, vs1, d1, ds1, p1, q1, rfl, rfl, rfl, h1, r1⟩ := trodAll_cons r0
  obtain ⟨rfl, rfl, rfl⟩ := trodAll_nil r1
  obtain rfl : args = #[v0, v1] := by cases args; simp_all
  obtain ⟨rfl, rfl⟩ := trodVars_none hV
  obtain ⟨a0, len0, cap0, rfl⟩ := okWide_slice Try.underlying23 (hval 0 23 v0 rfl rfl)
  have k0 := h0
  have k1 := h1
  have lt0 : ∀ x ∈ p0, x.block < W.heap.size := by obtain ⟨m, hm⟩ := k0; exact DataW.trod_lt m _ _ _ hm
  have lt1 : ∀ x ∈ p1, x.block < W.heap.size := by obtain ⟨m, hm⟩ := k1; exact DataW.trod_lt m _ _ _ hm
  obtain ⟨f0, e0⟩ := h0
  obtain ⟨As, ns, cs, ss, es, hs⟩ := read_sign e0
  obtain ⟨Aa, na, ca, za, Ab, nb, cb, zb, Ax, nx, cx, lx, bx, Ay, ny, cy, ly, by_, rfl, ha, hb, hx, hy, g1, g2⟩ := read_shot h1
  cases es
  clear hA0 hval0
  refine (tdi_walk _ Aa Ab Ax Ay _ _ na ca nb cb nx cx ny cy ss za zb lx ly bx by_ W hs ha hb hx hy g1 g2).mono fun e W' ⟨he, bel⟩ => ?_
  subst he
  exact ⟨_, rfl, _, _, _, [], _, [], hW', trodAll_mk1 (shut_bool Try.underlying4 _), (trodAll_cons_mk (Below.trod laidOut (by kernel_rfl) (of_decide_eq_true (by kernel_rfl)) k0 bel lt0) (trodAll_cons_mk (Below.trod laidOut (by kernel_rfl) (of_decide_eq_true (by kernel_rfl)) k1 bel lt1) trodAll_mk0)), rfl, bel.frame _, fun h => by cases h⟩

theorem tdi_holds : Rows.TopDetachedInstancesSaid :=
  OpenClaim.holds_of_wide 14 Try.f14 rfl rfl rfl rfl rfl rfl rfl ⟨rfl, rfl, rfl, rfl, rfl⟩ rfl rfl rfl rfl rfl (by kernel_rfl) Try.func14 (by kernel_rfl)
    (of_decide_eq_true (by kernel_rfl)) (by unfold Func.isWrapper; first | (rw [if_pos (by decide +kernel)]; kernel_rfl) | (rw [if_neg (by decide +kernel)]; exact ⟨rfl, rfl⟩))
    (fun os started H enc _ => tdi_lifted os started H enc)

end Go.Proofs.Ytpliamckapkhmaa
