/- lemmarylaw04.KernelGeneral: for every sign and every shot (two lists of numbers with two lists of binds) the statement's function returns true, and its arguments read behind the call as they read before. No condition. -/
import Derived.Test.YtpdokmdapjdnoaaPOg
import Derived.Test.YtpdokmdapjdnoaaKUg
import Derived.Test.YtpdokmdapjdnoaaB6g
import Derived.Test.YtpdokmdapjdnoaaN35g
import Derived.Test.YtpdokmdapjdnoaaN24g
import Derived.Test.YtpdokmdapjdnoaaO3g
import Derived.Test.YtpdokmdapjdnoaaW0g
import Derived.Test.YtpdokmdapjdnoaaKSg
/- The walk of KernelGeneral. -/
namespace Go.Proofs.Ytpdokmdapjdnoaa
open Go.RowKit

theorem applZ_good {ss : Sg} {bb : List Bd} {zs : List Int} (h : (applZ ss bb zs).2 = 0) : bindsOk ss bb = true ∧ valOk ss zs = true ∧ (appl bb zs).length ≤ 60 ∧ applZ ss bb zs = (appl bb zs, 0) := by
  unfold applZ at h ⊢
  by_cases h1 : (bindsOk ss bb && valOk ss zs) = true
  · rw [if_pos h1] at h ⊢
    simp only [Bool.and_eq_true] at h1
    by_cases h2 : (appl bb zs).length ≤ 60
    · rw [if_pos h2]; exact ⟨h1.1, h1.2, h2, rfl⟩
    · rw [if_neg h2] at h; cases h
  · rw [if_neg h1] at h; cases h
/-- The arguments of 'if A then B'. -/
theorem argsL_shot {ss : Sg} {zm zn A B : List Int} (h : Shot ss zm zn A B) : argsL ss zm = [A, B] := by
  have h2 : arOf ss 0 = 2 := sig_if (valOk_sig h.vm)
  have hd : zm.drop 1 = A ++ B := by rw [h.eq]; rfl
  have hl : zm.length = 1 + A.length + B.length := by rw [h.eq]; simp; omega
  have s1 : scan ss 1 (zm.drop 1) = some B := by
    rw [hd]
    have := scan_append ss A 1 [] B h.sa
    simpa using this
  have s2 : scan ss 2 (zm.drop 1) = some [] := by
    rw [show 2 = 1 + 1 from rfl, scan_add, s1]
    exact h.sb
  have p0 : pos ss zm 0 = 1 := pos_zero ss (by omega)
  have p1 : pos ss zm 1 = 1 + A.length := by unfold pos; rw [s1]; simp only [Option.getD_some]; omega
  have p2 : pos ss zm 2 = 1 + A.length + B.length := by unfold pos; rw [s2]; simp only [Option.getD_some, List.length_nil]; omega
  have a0 : argL ss zm 0 = A := by
    unfold argL
    rw [p0, p1, hd, show 1 + A.length - 1 = A.length by omega, List.take_left]
  have a1 : argL ss zm 1 = B := by
    unfold argL
    rw [p1, p2, ← List.drop_drop, hd, List.drop_left, show 1 + A.length + B.length - (1 + A.length) = B.length by omega, List.take_length]
  unfold argsL
  rw [show zm.headD 0 = 0 by rw [h.eq]; rfl, h2]
  unfold argsTo
  show [argL ss zm 0, argL ss zm 1] = _
  rw [a0, a1]

set_option maxRecDepth 100000 in
set_option maxHeartbeats 4000000 in
theorem kg_small (As Am An Al Ak : Option Addr) (ns cs nm cm nn cn nl cl nk ck : Nat) (ss : Sg) (zM zN : List Int) (ll lk : List Hd) (L K : List Bd) (w : World) (_hs : SigAt w w.heap.size As ns ss) (_hm : IntsAt w w.heap.size Am nm zM) (_hn : IntsAt w w.heap.size An nn zN) (_hL : BindsAt w w.heap.size Al nl ll L) (_hK : BindsAt w w.heap.size Ak nk lk K) (_hc1 : nm ≤ cm) (_hc2 : cm ≤ 9223372036854775807) (hsm : smallOk ns [(Am, nm, cm), (An, nn, cn)] = false) :
    Calls Try.prog 7 #[.slice As ns cs, .agg #[.slice Am nm cm, .slice An nn cn, .slice Al nl cl, .slice Ak nk ck]] w fun e w' => e = .returned (.bool true) ∧ Below w.heap.size w w' := by
  obtain ⟨N, hN⟩ : ∃ N, w.heap.size = N := ⟨_, rfl⟩
  obtain ⟨W2, hW2⟩ : ∃ W2, (w.alloc (.cells #[.slice Am nm cm, .slice An nn cn, .slice Al nl cl, .slice Ak nk ck] 45)).alloc (.cells #[.slice Am nm cm, .slice An nn cn] 25) = W2 := ⟨_, rfl⟩
  have hB : Below w.heap.size w W2 := by rw [← hW2]; exact ((Below.refl _ w).alloc (Nat.le_refl _) _).alloc (by simp) _
  have hz : W2.heap.size = N + 2 := by rw [← hW2]; simp [hN]
  have hsm0 : HdsAt W2 W2.heap.size (some ⟨w.heap.size + 1, 0, none⟩) 2 [(Am, nm, cm), (An, nn, cn)] := by
    have := Blk.new (w.alloc (.cells #[.slice Am nm cm, .slice An nn cn, .slice Al nl cl, .slice Ak nk ck] 45)) 25 #[.slice Am nm cm, .slice An nn cn]
    rw [World.size_alloc, hW2] at this
    exact HdsAt.of_blk _ this rfl rfl (by simp)
  have HS := Lib.hid (small_any As _ ns cs 2 2 _ W2 _ hsm0)
  have bx : Blk W2 w.heap.size 45 #[.slice Am nm cm, .slice An nn cn, .slice Al nl cl, .slice Ak nk ck] := by
    rw [← hW2]; exact (Blk.new w _ _).alloc _
  rw [hN] at bx HS
  have b0 : W2.cell? ⟨N, 0, none⟩ = some (.slice Am nm cm) := bx.cell 0
  have b1 : W2.cell? ⟨N, 1, none⟩ = some (.slice An nn cn) := bx.cell 1
  have b2 : W2.cell? ⟨N, 2, none⟩ = some (.slice Al nl cl) := bx.cell 2
  have b3 : W2.cell? ⟨N, 3, none⟩ = some (.slice Ak nk ck) := bx.cell 3
  have hNlt : N < W2.heap.size := by omega
  have up : ∀ V, Below W2.heap.size W2 V → Below w.heap.size w V := fun V hb => hB.trans (hb.mono hB.size)
  have HCE := Lib.hid (fun V' (hb : Below W2.heap.size W2 V') => show V'.cell? ⟨N, 0, none⟩ = some (.slice Am nm cm) ∧ V'.cell? ⟨N, 1, none⟩ = some (.slice An nn cn) ∧ V'.cell? ⟨N, 2, none⟩ = some (.slice Al nl cl) ∧ V'.cell? ⟨N, 3, none⟩ = some (.slice Ak nk ck) from
    ⟨(hb.cell (p := ⟨N, 0, none⟩) hNlt).trans b0, (hb.cell (p := ⟨N, 1, none⟩) hNlt).trans b1, (hb.cell (p := ⟨N, 2, none⟩) hNlt).trans b2, (hb.cell (p := ⟨N, 3, none⟩) hNlt).trans b3⟩)
  have HUP := Lib.hid up
  have HW2 := Lib.hid hW2
  have HN := Lib.hid hN
  have HB0 := Lib.hid (Below.refl W2.heap.size W2)
  have HSM := Lib.hid hsm
  clear bx hsm0 _hs _hm _hn _hL _hK hsm hB up hz hW2 _hc1 _hc2
  rw [hN]
  clear hN
  go_enter Try.func7, Try.ntmps7
  go_wp2_with fail
  rw [HW2.out, HN.out]
  go_wp2_with (first
    | (go_at_call 16; ((with_reducible refine HS.out.mono ?_); rintro e w' ⟨rfl, rfl⟩; rw [HSM.out]))
    | (go_at_call 35; refine (awake4_any _).mono ?_; rintro e Vz ⟨rfl, hBz⟩; have HBz := Lib.hid (below_then HB0.out hBz); clear hBz))
  go_ret
  exact ⟨rfl, by rw [← HN.out]; exact HUP.out _ HBz.out⟩

set_option maxRecDepth 100000 in
set_option maxHeartbeats 4000000 in
theorem kg_long (As Am An Al Ak : Option Addr) (ns cs nm cm nn cn nl cl nk ck : Nat) (ss : Sg) (zM zN : List Int) (ll lk : List Hd) (L K : List Bd) (w : World) (_hs : SigAt w w.heap.size As ns ss) (_hm : IntsAt w w.heap.size Am nm zM) (_hn : IntsAt w w.heap.size An nn zN) (_hL : BindsAt w w.heap.size Al nl ll L) (_hK : BindsAt w w.heap.size Ak nk lk K) (_hc1 : nm ≤ cm) (_hc2 : cm ≤ 9223372036854775807) (hsm : smallOk ns [(Am, nm, cm), (An, nn, cn)] = true) (hl : 30 < nl) :
    Calls Try.prog 7 #[.slice As ns cs, .agg #[.slice Am nm cm, .slice An nn cn, .slice Al nl cl, .slice Ak nk ck]] w fun e w' => e = .returned (.bool true) ∧ Below w.heap.size w w' := by
  obtain ⟨N, hN⟩ : ∃ N, w.heap.size = N := ⟨_, rfl⟩
  obtain ⟨W2, hW2⟩ : ∃ W2, (w.alloc (.cells #[.slice Am nm cm, .slice An nn cn, .slice Al nl cl, .slice Ak nk ck] 45)).alloc (.cells #[.slice Am nm cm, .slice An nn cn] 25) = W2 := ⟨_, rfl⟩
  have hB : Below w.heap.size w W2 := by rw [← hW2]; exact ((Below.refl _ w).alloc (Nat.le_refl _) _).alloc (by simp) _
  have hz : W2.heap.size = N + 2 := by rw [← hW2]; simp [hN]
  have hsm0 : HdsAt W2 W2.heap.size (some ⟨w.heap.size + 1, 0, none⟩) 2 [(Am, nm, cm), (An, nn, cn)] := by
    have := Blk.new (w.alloc (.cells #[.slice Am nm cm, .slice An nn cn, .slice Al nl cl, .slice Ak nk ck] 45)) 25 #[.slice Am nm cm, .slice An nn cn]
    rw [World.size_alloc, hW2] at this
    exact HdsAt.of_blk _ this rfl rfl (by simp)
  have HS := Lib.hid (small_any As _ ns cs 2 2 _ W2 _ hsm0)
  have bx : Blk W2 w.heap.size 45 #[.slice Am nm cm, .slice An nn cn, .slice Al nl cl, .slice Ak nk ck] := by
    rw [← hW2]; exact (Blk.new w _ _).alloc _
  rw [hN] at bx HS
  have b0 : W2.cell? ⟨N, 0, none⟩ = some (.slice Am nm cm) := bx.cell 0
  have b1 : W2.cell? ⟨N, 1, none⟩ = some (.slice An nn cn) := bx.cell 1
  have b2 : W2.cell? ⟨N, 2, none⟩ = some (.slice Al nl cl) := bx.cell 2
  have b3 : W2.cell? ⟨N, 3, none⟩ = some (.slice Ak nk ck) := bx.cell 3
  have hNlt : N < W2.heap.size := by omega
  have up : ∀ V, Below W2.heap.size W2 V → Below w.heap.size w V := fun V hb => hB.trans (hb.mono hB.size)
  have HCE := Lib.hid (fun V' (hb : Below W2.heap.size W2 V') => show V'.cell? ⟨N, 0, none⟩ = some (.slice Am nm cm) ∧ V'.cell? ⟨N, 1, none⟩ = some (.slice An nn cn) ∧ V'.cell? ⟨N, 2, none⟩ = some (.slice Al nl cl) ∧ V'.cell? ⟨N, 3, none⟩ = some (.slice Ak nk ck) from
    ⟨(hb.cell (p := ⟨N, 0, none⟩) hNlt).trans b0, (hb.cell (p := ⟨N, 1, none⟩) hNlt).trans b1, (hb.cell (p := ⟨N, 2, none⟩) hNlt).trans b2, (hb.cell (p := ⟨N, 3, none⟩) hNlt).trans b3⟩)
  have HUP := Lib.hid up
  have HW2 := Lib.hid hW2
  have HN := Lib.hid hN
  have HB0 := Lib.hid (Below.refl W2.heap.size W2)
  have HSM := Lib.hid hsm
  have hl' : (30 : Int) < (nl : Int) := by omega
  clear bx hsm0 _hs _hm _hn _hL _hK hsm hB up hz hW2 _hc1 _hc2
  rw [hN]
  clear hN
  go_enter Try.func7, Try.ntmps7
  go_wp2_with fail
  rw [HW2.out, HN.out]
  go_wp2_with (first
    | (go_at_call 16; ((with_reducible refine HS.out.mono ?_); rintro e w' ⟨rfl, rfl⟩; rw [HSM.out]))
    | (go_at_call 35; refine (awake4_any _).mono ?_; rintro e Vz ⟨rfl, hBz⟩; have HBz := Lib.hid (below_then HB0.out hBz); clear hBz))
  go_ret
  exact ⟨rfl, by rw [← HN.out]; exact HUP.out _ HBz.out⟩

set_option maxRecDepth 100000 in
set_option maxHeartbeats 4000000 in
theorem kg_long2 (As Am An Al Ak : Option Addr) (ns cs nm cm nn cn nl cl nk ck : Nat) (ss : Sg) (zM zN : List Int) (ll lk : List Hd) (L K : List Bd) (w : World) (_hs : SigAt w w.heap.size As ns ss) (_hm : IntsAt w w.heap.size Am nm zM) (_hn : IntsAt w w.heap.size An nn zN) (_hL : BindsAt w w.heap.size Al nl ll L) (_hK : BindsAt w w.heap.size Ak nk lk K) (_hc1 : nm ≤ cm) (_hc2 : cm ≤ 9223372036854775807) (hsm : smallOk ns [(Am, nm, cm), (An, nn, cn)] = true) (hl : nl ≤ 30) (hk : 30 < nk) :
    Calls Try.prog 7 #[.slice As ns cs, .agg #[.slice Am nm cm, .slice An nn cn, .slice Al nl cl, .slice Ak nk ck]] w fun e w' => e = .returned (.bool true) ∧ Below w.heap.size w w' := by
  obtain ⟨N, hN⟩ : ∃ N, w.heap.size = N := ⟨_, rfl⟩
  obtain ⟨W2, hW2⟩ : ∃ W2, (w.alloc (.cells #[.slice Am nm cm, .slice An nn cn, .slice Al nl cl, .slice Ak nk ck] 45)).alloc (.cells #[.slice Am nm cm, .slice An nn cn] 25) = W2 := ⟨_, rfl⟩
  have hB : Below w.heap.size w W2 := by rw [← hW2]; exact ((Below.refl _ w).alloc (Nat.le_refl _) _).alloc (by simp) _
  have hz : W2.heap.size = N + 2 := by rw [← hW2]; simp [hN]
  have hsm0 : HdsAt W2 W2.heap.size (some ⟨w.heap.size + 1, 0, none⟩) 2 [(Am, nm, cm), (An, nn, cn)] := by
    have := Blk.new (w.alloc (.cells #[.slice Am nm cm, .slice An nn cn, .slice Al nl cl, .slice Ak nk ck] 45)) 25 #[.slice Am nm cm, .slice An nn cn]
    rw [World.size_alloc, hW2] at this
    exact HdsAt.of_blk _ this rfl rfl (by simp)
  have HS := Lib.hid (small_any As _ ns cs 2 2 _ W2 _ hsm0)
  have bx : Blk W2 w.heap.size 45 #[.slice Am nm cm, .slice An nn cn, .slice Al nl cl, .slice Ak nk ck] := by
    rw [← hW2]; exact (Blk.new w _ _).alloc _
  rw [hN] at bx HS
  have b0 : W2.cell? ⟨N, 0, none⟩ = some (.slice Am nm cm) := bx.cell 0
  have b1 : W2.cell? ⟨N, 1, none⟩ = some (.slice An nn cn) := bx.cell 1
  have b2 : W2.cell? ⟨N, 2, none⟩ = some (.slice Al nl cl) := bx.cell 2
  have b3 : W2.cell? ⟨N, 3, none⟩ = some (.slice Ak nk ck) := bx.cell 3
  have hNlt : N < W2.heap.size := by omega
  have up : ∀ V, Below W2.heap.size W2 V → Below w.heap.size w V := fun V hb => hB.trans (hb.mono hB.size)
  have HCE := Lib.hid (fun V' (hb : Below W2.heap.size W2 V') => show V'.cell? ⟨N, 0, none⟩ = some (.slice Am nm cm) ∧ V'.cell? ⟨N, 1, none⟩ = some (.slice An nn cn) ∧ V'.cell? ⟨N, 2, none⟩ = some (.slice Al nl cl) ∧ V'.cell? ⟨N, 3, none⟩ = some (.slice Ak nk ck) from
    ⟨(hb.cell (p := ⟨N, 0, none⟩) hNlt).trans b0, (hb.cell (p := ⟨N, 1, none⟩) hNlt).trans b1, (hb.cell (p := ⟨N, 2, none⟩) hNlt).trans b2, (hb.cell (p := ⟨N, 3, none⟩) hNlt).trans b3⟩)
  have HUP := Lib.hid up
  have HW2 := Lib.hid hW2
  have HN := Lib.hid hN
  have HB0 := Lib.hid (Below.refl W2.heap.size W2)
  have HSM := Lib.hid hsm
  have hl' : ¬ (30 : Int) < (nl : Int) := by omega
  have hk' : (30 : Int) < (nk : Int) := by omega
  clear bx hsm0 _hs _hm _hn _hL _hK hsm hB up hz hW2 _hc1 _hc2 hl
  rw [hN]
  clear hN
  go_enter Try.func7, Try.ntmps7
  go_wp2_with fail
  rw [HW2.out, HN.out]
  go_wp2_with (first
    | (go_at_call 16; ((with_reducible refine HS.out.mono ?_); rintro e w' ⟨rfl, rfl⟩; rw [HSM.out]))
    | (go_at_call 35; refine (awake4_any _).mono ?_; rintro e Vz ⟨rfl, hBz⟩; have HBz := Lib.hid (below_then HB0.out hBz); clear hBz))
  go_ret
  exact ⟨rfl, by rw [← HN.out]; exact HUP.out _ HBz.out⟩

set_option maxRecDepth 100000 in
set_option maxHeartbeats 4000000 in
theorem kg_none (As Am An Al Ak : Option Addr) (ns cs nm cm nn cn nl cl nk ck : Nat) (ss : Sg) (zM zN : List Int) (ll lk : List Hd) (L K : List Bd) (w : World) (_hs : SigAt w w.heap.size As ns ss) (hm : IntsAt w w.heap.size Am nm zM) (_hn : IntsAt w w.heap.size An nn zN) (_hL : BindsAt w w.heap.size Al nl ll L) (_hK : BindsAt w w.heap.size Ak nk lk K) (hc1 : nm ≤ cm) (_hc2 : cm ≤ 9223372036854775807) (hsm : smallOk ns [(Am, nm, cm), (An, nn, cn)] = true) (hl : nl ≤ 30) (hk : nk ≤ 30) (h0 : nm = 0) :
    Calls Try.prog 7 #[.slice As ns cs, .agg #[.slice Am nm cm, .slice An nn cn, .slice Al nl cl, .slice Ak nk ck]] w fun e w' => e = .returned (.bool true) ∧ Below w.heap.size w w' := by
  obtain ⟨N, hN⟩ : ∃ N, w.heap.size = N := ⟨_, rfl⟩
  obtain ⟨W2, hW2⟩ : ∃ W2, (w.alloc (.cells #[.slice Am nm cm, .slice An nn cn, .slice Al nl cl, .slice Ak nk ck] 45)).alloc (.cells #[.slice Am nm cm, .slice An nn cn] 25) = W2 := ⟨_, rfl⟩
  have hB : Below w.heap.size w W2 := by rw [← hW2]; exact ((Below.refl _ w).alloc (Nat.le_refl _) _).alloc (by simp) _
  have hz : W2.heap.size = N + 2 := by rw [← hW2]; simp [hN]
  have hsm0 : HdsAt W2 W2.heap.size (some ⟨w.heap.size + 1, 0, none⟩) 2 [(Am, nm, cm), (An, nn, cn)] := by
    have := Blk.new (w.alloc (.cells #[.slice Am nm cm, .slice An nn cn, .slice Al nl cl, .slice Ak nk ck] 45)) 25 #[.slice Am nm cm, .slice An nn cn]
    rw [World.size_alloc, hW2] at this
    exact HdsAt.of_blk _ this rfl rfl (by simp)
  have HS := Lib.hid (small_any As _ ns cs 2 2 _ W2 _ hsm0)
  have bx : Blk W2 w.heap.size 45 #[.slice Am nm cm, .slice An nn cn, .slice Al nl cl, .slice Ak nk ck] := by
    rw [← hW2]; exact (Blk.new w _ _).alloc _
  rw [hN] at bx HS
  have b0 : W2.cell? ⟨N, 0, none⟩ = some (.slice Am nm cm) := bx.cell 0
  have b1 : W2.cell? ⟨N, 1, none⟩ = some (.slice An nn cn) := bx.cell 1
  have b2 : W2.cell? ⟨N, 2, none⟩ = some (.slice Al nl cl) := bx.cell 2
  have b3 : W2.cell? ⟨N, 3, none⟩ = some (.slice Ak nk ck) := bx.cell 3
  have hNlt : N < W2.heap.size := by omega
  have up : ∀ V, Below W2.heap.size W2 V → Below w.heap.size w V := fun V hb => hB.trans (hb.mono hB.size)
  have HCE := Lib.hid (fun V' (hb : Below W2.heap.size W2 V') => show V'.cell? ⟨N, 0, none⟩ = some (.slice Am nm cm) ∧ V'.cell? ⟨N, 1, none⟩ = some (.slice An nn cn) ∧ V'.cell? ⟨N, 2, none⟩ = some (.slice Al nl cl) ∧ V'.cell? ⟨N, 3, none⟩ = some (.slice Ak nk ck) from
    ⟨(hb.cell (p := ⟨N, 0, none⟩) hNlt).trans b0, (hb.cell (p := ⟨N, 1, none⟩) hNlt).trans b1, (hb.cell (p := ⟨N, 2, none⟩) hNlt).trans b2, (hb.cell (p := ⟨N, 3, none⟩) hNlt).trans b3⟩)
  have HUP := Lib.hid up
  have HW2 := Lib.hid hW2
  have HN := Lib.hid hN
  have HB0 := Lib.hid (Below.refl W2.heap.size W2)
  have HSM := Lib.hid hsm
  have hl' : ¬ (30 : Int) < (nl : Int) := by omega
  have hk' : ¬ (30 : Int) < (nk : Int) := by omega
  have h0' : ((nm : Int) == 0) = true := by subst h0; rfl
  clear bx hsm0 _hs hm _hn _hL _hK hsm hB up hz hW2 hc1 _hc2 hl hk h0
  rw [hN]
  clear hN
  go_enter Try.func7, Try.ntmps7
  go_wp2_with fail
  rw [HW2.out, HN.out]
  go_wp2_with (first
    | (go_at_call 16; ((with_reducible refine HS.out.mono ?_); rintro e w' ⟨rfl, rfl⟩; rw [HSM.out]))
    | (go_at_call 35; refine (awake4_any _).mono ?_; rintro e Vz ⟨rfl, hBz⟩; have HBz := Lib.hid (below_then HB0.out hBz); clear hBz))
  go_ret
  exact ⟨rfl, by rw [← HN.out]; exact HUP.out _ HBz.out⟩

set_option maxRecDepth 100000 in
set_option maxHeartbeats 4000000 in
theorem kg_other (As Am An Al Ak : Option Addr) (ns cs nm cm nn cn nl cl nk ck : Nat) (ss : Sg) (zM zN : List Int) (ll lk : List Hd) (L K : List Bd) (w : World) (_hs : SigAt w w.heap.size As ns ss) (hm : IntsAt w w.heap.size Am nm zM) (_hn : IntsAt w w.heap.size An nn zN) (_hL : BindsAt w w.heap.size Al nl ll L) (_hK : BindsAt w w.heap.size Ak nk lk K) (_hc1 : nm ≤ cm) (_hc2 : cm ≤ 9223372036854775807) (hsm : smallOk ns [(Am, nm, cm), (An, nn, cn)] = true) (hl : nl ≤ 30) (hk : nk ≤ 30) (h0 : 1 ≤ nm) (hh : zM.head? ≠ some 0) :
    Calls Try.prog 7 #[.slice As ns cs, .agg #[.slice Am nm cm, .slice An nn cn, .slice Al nl cl, .slice Ak nk ck]] w fun e w' => e = .returned (.bool true) ∧ Below w.heap.size w w' := by
  obtain ⟨bM, oM, y0, rfl, cM, kM, eM⟩ := hm.cellAt (k := 0) (by omega)
  obtain ⟨bM', oM', eM', hbM, _⟩ := hm.mem (by omega)
  cases eM'
  rw [Nat.add_zero] at cM
  have hhd : zM.head? = some y0 := by cases zM with
    | nil => simp at kM
    | cons a t => rw [← eM]; rfl
  obtain ⟨N, hN⟩ : ∃ N, w.heap.size = N := ⟨_, rfl⟩
  obtain ⟨W2, hW2⟩ : ∃ W2, (w.alloc (.cells #[.slice (some ⟨bM, oM, none⟩) nm cm, .slice An nn cn, .slice Al nl cl, .slice Ak nk ck] 45)).alloc (.cells #[.slice (some ⟨bM, oM, none⟩) nm cm, .slice An nn cn] 25) = W2 := ⟨_, rfl⟩
  have hB : Below w.heap.size w W2 := by rw [← hW2]; exact ((Below.refl _ w).alloc (Nat.le_refl _) _).alloc (by simp) _
  have hz : W2.heap.size = N + 2 := by rw [← hW2]; simp [hN]
  have hsm0 : HdsAt W2 W2.heap.size (some ⟨w.heap.size + 1, 0, none⟩) 2 [((some ⟨bM, oM, none⟩), nm, cm), (An, nn, cn)] := by
    have := Blk.new (w.alloc (.cells #[.slice (some ⟨bM, oM, none⟩) nm cm, .slice An nn cn, .slice Al nl cl, .slice Ak nk ck] 45)) 25 #[.slice (some ⟨bM, oM, none⟩) nm cm, .slice An nn cn]
    rw [World.size_alloc, hW2] at this
    exact HdsAt.of_blk _ this rfl rfl (by simp)
  have HS := Lib.hid (small_any As _ ns cs 2 2 _ W2 _ hsm0)
  have bx : Blk W2 w.heap.size 45 #[.slice (some ⟨bM, oM, none⟩) nm cm, .slice An nn cn, .slice Al nl cl, .slice Ak nk ck] := by
    rw [← hW2]; exact (Blk.new w _ _).alloc _
  rw [hN] at bx HS
  have b0 : W2.cell? ⟨N, 0, none⟩ = some (.slice (some ⟨bM, oM, none⟩) nm cm) := bx.cell 0
  have b1 : W2.cell? ⟨N, 1, none⟩ = some (.slice An nn cn) := bx.cell 1
  have b2 : W2.cell? ⟨N, 2, none⟩ = some (.slice Al nl cl) := bx.cell 2
  have b3 : W2.cell? ⟨N, 3, none⟩ = some (.slice Ak nk ck) := bx.cell 3
  have hNlt : N < W2.heap.size := by omega
  have up : ∀ V, Below W2.heap.size W2 V → Below w.heap.size w V := fun V hb => hB.trans (hb.mono hB.size)
  have HCE := Lib.hid (fun V' (hb : Below W2.heap.size W2 V') => show V'.cell? ⟨N, 0, none⟩ = some (.slice (some ⟨bM, oM, none⟩) nm cm) ∧ V'.cell? ⟨N, 1, none⟩ = some (.slice An nn cn) ∧ V'.cell? ⟨N, 2, none⟩ = some (.slice Al nl cl) ∧ V'.cell? ⟨N, 3, none⟩ = some (.slice Ak nk ck) from
    ⟨(hb.cell (p := ⟨N, 0, none⟩) hNlt).trans b0, (hb.cell (p := ⟨N, 1, none⟩) hNlt).trans b1, (hb.cell (p := ⟨N, 2, none⟩) hNlt).trans b2, (hb.cell (p := ⟨N, 3, none⟩) hNlt).trans b3⟩)
  have HUP := Lib.hid up
  have HW2 := Lib.hid hW2
  have HN := Lib.hid hN
  have HB0 := Lib.hid (Below.refl W2.heap.size W2)
  have HSM := Lib.hid hsm
  have hl' : ¬ (30 : Int) < (nl : Int) := by omega
  have hk' : ¬ (30 : Int) < (nk : Int) := by omega
  have h0' : ((nm : Int) == 0) = false := by simp; omega
  have h1' : (0 : Int) < (nm : Int) := by omega
  have hy : (y0 != 0) = true := by simp; intro e; exact hh (by rw [hhd, e])
  have cM2 := (hB.cell (p := ⟨bM, oM, none⟩) hbM).trans cM
  clear bx hsm0 _hs hm _hn _hL _hK hsm hB up hz hW2 _hc1 _hc2 hl hk h0 hh hhd cM kM eM hbM
  rw [hN]
  clear hN
  go_enter Try.func7, Try.ntmps7
  go_wp2_with fail
  rw [HW2.out, HN.out]
  go_wp2_with (first
    | (go_at_call 16; ((with_reducible refine HS.out.mono ?_); rintro e w' ⟨rfl, rfl⟩; rw [HSM.out]))
    | (go_at_call 35; refine (awake4_any _).mono ?_; rintro e Vz ⟨rfl, hBz⟩; have HBz := Lib.hid (below_then HB0.out hBz); clear hBz))
  go_ret
  exact ⟨rfl, by rw [← HN.out]; exact HUP.out _ HBz.out⟩

set_option maxRecDepth 100000 in
set_option maxHeartbeats 4000000 in
theorem kg_main (As Am An Al Ak : Option Addr) (ns cs nm cm nn cn nl cl nk ck : Nat) (ss : Sg) (zM zN : List Int) (ll lk : List Hd) (L K : List Bd) (w : World) (hs : SigAt w w.heap.size As ns ss) (hm : IntsAt w w.heap.size Am nm zM) (hn : IntsAt w w.heap.size An nn zN) (hL : BindsAt w w.heap.size Al nl ll L) (hK : BindsAt w w.heap.size Ak nk lk K) (hc1 : nm ≤ cm) (hc2 : cm ≤ 9223372036854775807) (hsm : smallOk ns [(Am, nm, cm), (An, nn, cn)] = true) (hl : nl ≤ 30) (hk : nk ≤ 30) (h0 : 1 ≤ nm) (hh : zM.head? = some 0) :
    Calls Try.prog 7 #[.slice As ns cs, .agg #[.slice Am nm cm, .slice An nn cn, .slice Al nl cl, .slice Ak nk ck]] w fun e w' => e = .returned (.bool true) ∧ Below w.heap.size w w' := by
  obtain ⟨bM, oM, y0, rfl, cM, kM, eM⟩ := hm.cellAt (k := 0) (by omega)
  obtain ⟨bM', oM', eM', hbM, _⟩ := hm.mem (by omega)
  cases eM'
  rw [Nat.add_zero] at cM
  have hhd : zM.head? = some y0 := by cases zM with
    | nil => simp at kM
    | cons a t => rw [← eM]; rfl
  rw [hh] at hhd
  have hy0 := Option.some.inj hhd
  subst hy0
  obtain ⟨N, hN⟩ : ∃ N, w.heap.size = N := ⟨_, rfl⟩
  obtain ⟨W2, hW2⟩ : ∃ W2, (w.alloc (.cells #[.slice (some ⟨bM, oM, none⟩) nm cm, .slice An nn cn, .slice Al nl cl, .slice Ak nk ck] 45)).alloc (.cells #[.slice (some ⟨bM, oM, none⟩) nm cm, .slice An nn cn] 25) = W2 := ⟨_, rfl⟩
  have hB : Below w.heap.size w W2 := by rw [← hW2]; exact ((Below.refl _ w).alloc (Nat.le_refl _) _).alloc (by simp) _
  have hz : W2.heap.size = N + 2 := by rw [← hW2]; simp [hN]
  have hsm0 : HdsAt W2 W2.heap.size (some ⟨w.heap.size + 1, 0, none⟩) 2 [((some ⟨bM, oM, none⟩), nm, cm), (An, nn, cn)] := by
    have := Blk.new (w.alloc (.cells #[.slice (some ⟨bM, oM, none⟩) nm cm, .slice An nn cn, .slice Al nl cl, .slice Ak nk ck] 45)) 25 #[.slice (some ⟨bM, oM, none⟩) nm cm, .slice An nn cn]
    rw [World.size_alloc, hW2] at this
    exact HdsAt.of_blk _ this rfl rfl (by simp)
  have HS := Lib.hid (small_any As _ ns cs 2 2 _ W2 _ hsm0)
  have bx : Blk W2 w.heap.size 45 #[.slice (some ⟨bM, oM, none⟩) nm cm, .slice An nn cn, .slice Al nl cl, .slice Ak nk ck] := by
    rw [← hW2]; exact (Blk.new w _ _).alloc _
  rw [hN] at bx HS
  have b0 : W2.cell? ⟨N, 0, none⟩ = some (.slice (some ⟨bM, oM, none⟩) nm cm) := bx.cell 0
  have b1 : W2.cell? ⟨N, 1, none⟩ = some (.slice An nn cn) := bx.cell 1
  have b2 : W2.cell? ⟨N, 2, none⟩ = some (.slice Al nl cl) := bx.cell 2
  have b3 : W2.cell? ⟨N, 3, none⟩ = some (.slice Ak nk ck) := bx.cell 3
  have hNlt : N < W2.heap.size := by omega
  have up : ∀ V, Below W2.heap.size W2 V → Below w.heap.size w V := fun V hb => hB.trans (hb.mono hB.size)
  have HCE := Lib.hid (fun V' (hb : Below W2.heap.size W2 V') => show V'.cell? ⟨N, 0, none⟩ = some (.slice (some ⟨bM, oM, none⟩) nm cm) ∧ V'.cell? ⟨N, 1, none⟩ = some (.slice An nn cn) ∧ V'.cell? ⟨N, 2, none⟩ = some (.slice Al nl cl) ∧ V'.cell? ⟨N, 3, none⟩ = some (.slice Ak nk ck) from
    ⟨(hb.cell (p := ⟨N, 0, none⟩) hNlt).trans b0, (hb.cell (p := ⟨N, 1, none⟩) hNlt).trans b1, (hb.cell (p := ⟨N, 2, none⟩) hNlt).trans b2, (hb.cell (p := ⟨N, 3, none⟩) hNlt).trans b3⟩)
  have HUP := Lib.hid up
  have HW2 := Lib.hid hW2
  have HN := Lib.hid hN
  have HB0 := Lib.hid (Below.refl W2.heap.size W2)
  have HSM := Lib.hid hsm
  have hl' : ¬ (30 : Int) < (nl : Int) := by omega
  have hk' : ¬ (30 : Int) < (nk : Int) := by omega
  have h0' : ((nm : Int) == 0) = false := by simp; omega
  have h1' : (0 : Int) < (nm : Int) := by omega
  have cM2 := (hB.cell (p := ⟨bM, oM, none⟩) hbM).trans cM
  have C1 := Lib.hid (fun V (hb : Below W2.heap.size W2 V) => applyk_any As Al (some ⟨bM, oM, none⟩) ns cs nl cl nm cm ss ll L zM V (hs.up (up V hb)) (hL.up (up V hb)) (hm.up (up V hb)) (by omega))
  have C2 := Lib.hid (fun V (hb : Below W2.heap.size W2 V) => applyk_any As Ak An ns cs nk ck nn cn ss lk K zN V (hs.up (up V hb)) (hK.up (up V hb)) (hn.up (up V hb)) (by omega))
  have C5 := Lib.hid (fun V (hb : Below W2.heap.size W2 V) => kdetach_any As (some ⟨bM, oM, none⟩) An ns cs nm cm nn cn ss zM zN V (hs.up (up V hb)) (hm.up (up V hb)) (hn.up (up V hb)) hc1 hc2)
  have C6 := Lib.hid (fun V (hb : Below W2.heap.size W2 V) => kdetaches_all As (some ⟨bM, oM, none⟩) An ns cs nm cm nn cn ss zM zN V (hs.up (up V hb)) (hm.up (up V hb)) (hn.up (up V hb)) hc1 hc2)
  have D7 := Lib.hid (fun V (hb : Below W2.heap.size W2 V) A1 A2 n1 c1 n2 c2 u t (h1 : IntsAt V V.heap.size A1 n1 u) (h2 : IntsAt V V.heap.size A2 n2 t) (k : n2 ≤ c2 ∧ c2 ≤ 9223372036854775807) => instance_any As A1 A2 ns cs n1 c1 n2 c2 ss u t V (hs.up (up V hb)) h1 h2 k.1 k.2)
  have HSG := Lib.hid hs
  by_cases h1 : ¬ (applZ ss L zM).2 = 0
  · obtain ⟨R1, hR1⟩ : ∃ R1, applZ ss L zM = R1 := ⟨_, rfl⟩
    rw [hR1] at C1 h1
    obtain ⟨m, e1⟩ := R1
    obtain ⟨R2, hR2⟩ : ∃ R2, applZ ss K zN = R2 := ⟨_, rfl⟩
    rw [hR2] at C2
    obtain ⟨n, e2⟩ := R2
    try simp only at C1 C2 h1
    have h11 : (e1 != 0) = true := by simpa using h1
    have h12 : (e1 == 0) = false := by simpa using h1
    clear C5 C6 D7 hl hk h0 hh hhd cM kM eM hbM hR1 hR2 h1 bx hsm0 hs hm hn hL hK hsm hB up hz hW2 hc1 hc2
    rw [hN]
    clear hN
    go_enter Try.func7, Try.ntmps7
    go_wp2_with fail
    rw [HW2.out, HN.out]
    go_wp2_with (first
      | (go_at_call 16; ((with_reducible refine HS.out.mono ?_); rintro e w' ⟨rfl, rfl⟩; rw [HSM.out]))
      | (go_at_call 23; ((with_reducible refine (C2.out _ HB1.out).mono ?_); rintro e V2 ⟨A2, n2, c2, rfl, hI2, hk2, hB2⟩; have HI1' := Lib.hid (HI1.out.up hB2); have HI2 := Lib.hid hI2; have HB2 := Lib.hid (below_then HB1.out hB2); clear hI2 hB2 hk2))
      | (go_at_call 23; ((with_reducible refine (C1.out _ HB0.out).mono ?_); rintro e V1 ⟨A1, n1, c1, rfl, hI1, hk1, hB1⟩; obtain ⟨x0, x1, x2, x3⟩ := HCE.out _ hB1; have HK1 := Lib.hid hk1; have HI1 := Lib.hid hI1; have HB1 := Lib.hid (below_then HB0.out hB1); clear hI1 hB1 hk1))
      | (go_at_call 35; refine (awake4_any _).mono ?_; rintro e Vz ⟨rfl, hBz⟩; have HBz := Lib.hid (below_then HB2.out hBz); clear hBz))
    go_ret
    exact ⟨rfl, by rw [← HN.out]; exact HUP.out _ HBz.out⟩
  replace h1 := Decidable.not_not.1 h1
  by_cases h2 : ¬ (applZ ss K zN).2 = 0
  · obtain ⟨_, _, _, g4⟩ := applZ_good h1
    rw [g4] at C1
    obtain ⟨m, hm'⟩ : ∃ m, appl L zM = m := ⟨_, rfl⟩
    rw [hm'] at C1
    obtain ⟨R2, hR2⟩ : ∃ R2, applZ ss K zN = R2 := ⟨_, rfl⟩
    rw [hR2] at C2 h2
    obtain ⟨n, e2⟩ := R2
    try simp only at C1 C2 h2
    have h21 : (e2 != 0) = true := by simpa using h2
    have h22 : (e2 == 0) = false := by simpa using h2
    clear C5 C6 D7 hl hk h0 hh hhd cM kM eM hbM hm' hR2 h1 h2 g4 bx hsm0 hs hm hn hL hK hsm hB up hz hW2 hc1 hc2
    rw [hN]
    clear hN
    go_enter Try.func7, Try.ntmps7
    go_wp2_with fail
    rw [HW2.out, HN.out]
    go_wp2_with (first
      | (go_at_call 16; ((with_reducible refine HS.out.mono ?_); rintro e w' ⟨rfl, rfl⟩; rw [HSM.out]))
      | (go_at_call 23; ((with_reducible refine (C2.out _ HB1.out).mono ?_); rintro e V2 ⟨A2, n2, c2, rfl, hI2, hk2, hB2⟩; have HI1' := Lib.hid (HI1.out.up hB2); have HI2 := Lib.hid hI2; have HB2 := Lib.hid (below_then HB1.out hB2); clear hI2 hB2 hk2))
      | (go_at_call 23; ((with_reducible refine (C1.out _ HB0.out).mono ?_); rintro e V1 ⟨A1, n1, c1, rfl, hI1, hk1, hB1⟩; obtain ⟨x0, x1, x2, x3⟩ := HCE.out _ hB1; have HK1 := Lib.hid hk1; have HI1 := Lib.hid hI1; have HB1 := Lib.hid (below_then HB0.out hB1); clear hI1 hB1 hk1))
      | (go_at_call 35; refine (awake4_any _).mono ?_; rintro e Vz ⟨rfl, hBz⟩; have HBz := Lib.hid (below_then HB2.out hBz); clear hBz))
    go_ret
    exact ⟨rfl, by rw [← HN.out]; exact HUP.out _ HBz.out⟩
  replace h2 := Decidable.not_not.1 h2
  obtain ⟨g1, g2, g3, g4⟩ := applZ_good h1
  obtain ⟨d1, d2, d3, d4⟩ := applZ_good h2
  have vm := appl_val g1 g2 g3
  have hmh : (appl L zM).head? = some 0 := by
    cases zM with
    | nil => cases hh
    | cons x r => cases hh; rfl
  obtain ⟨B, sh⟩ := shot_of vm d2 hmh
  have hargs := argsL_shot sh
  rw [g4] at C1
  rw [d4] at C2
  try simp only at C1 C2
  have hgen := fun e : prt ss (appl L zM) 1 = appl K zN => det_general g2 d2 g1 d1 hh (show Shot ss (appl L zM) zN (appl K zN) B from ⟨sh.vm, sh.vn, by rw [← e]; exact sh.eq, by rw [← e]; exact sh.sa, sh.sb⟩)
  have hdb : prt ss (appl L zM) 1 = appl K zN → detB ss zM zN = true := fun e => by
    unfold detB
    rw [if_pos ⟨g2, hh⟩]
    exact (hgen e).1
  have C3 := Lib.hid (fun V (hb : Below W2.heap.size W2 V) A1 n1 c1 (hI : IntsAt V V.heap.size A1 n1 (appl L zM)) (hk : n1 ≤ c1 ∧ c1 ≤ 9223372036854775807) => (argsC_ok As A1 ns cs n1 c1 ss (appl L zM) V (hs.up (up V hb)) hI hk.1 hk.2 vm).mono (R' := fun e w' => ∃ b3 o3 c3 B1 k1 g1 B2 k2 g2, e = .returned (.tuple #[.slice (some ⟨b3, o3, none⟩) 2 c3, .int .i64 0]) ∧ w'.cell? ⟨b3, o3, none⟩ = some (.slice B1 k1 g1) ∧ w'.cell? ⟨b3, o3 + 1, none⟩ = some (.slice B2 k2 g2) ∧ IntsAt w' w'.heap.size B1 k1 (prt ss (appl L zM) 1) ∧ IntsAt w' w'.heap.size B2 k2 B ∧ (k2 ≤ g2 ∧ g2 ≤ 9223372036854775807) ∧ b3 < w'.heap.size ∧ Below V.heap.size V w') (fun e w' ⟨A, n, c, ls, q1, q2, q3, q4⟩ => by
    rw [hargs] at q2
    have e2 : n = 2 := q2.len
    subst e2
    have hll := q2.hds.len
    obtain ⟨b, off, eA, hb', hc⟩ := q2.hds.mem (by omega)
    subst eA
    have y1 := hc 0 (by omega)
    have y2 := hc 1 (by omega)
    have i1 := q2.each 0 (by omega) (by simp)
    have i2 := q2.each 1 (by omega) (by simp)
    rw [Nat.add_zero] at y1
    exact ⟨b, off, c, _, _, _, _, _, _, q1, y1, y2, i1, i2, q4 _ (List.getElem_mem (show 1 < ls.length by omega)), hb', q3⟩))
  obtain ⟨qs, hqs⟩ : ∃ qs, decide (prt ss (appl L zM) 1 = appl K zN) = qs := ⟨_, rfl⟩
  have C4 := Lib.hid (fun (V : World) A1 n1 c1 A2 n2 c2 (h1 : IntsAt V V.heap.size A1 n1 (prt ss (appl L zM) 1)) (h2 : IntsAt V V.heap.size A2 n2 (appl K zN)) => (same_any A1 A2 n1 c1 n2 c2 _ _ V _ h1 h2).mono (R' := fun e w' => e = .returned (.bool qs) ∧ Below V.heap.size V w') fun e w' ⟨q1, k, q2⟩ => ⟨by rw [← hqs]; exact q1, by rw [q2]; exact below_drewN (Below.refl _ _) k⟩)
  obtain ⟨P1, hP1⟩ : ∃ P1, prt ss (appl L zM) 1 = P1 := ⟨_, rfl⟩
  obtain ⟨m, hm'⟩ : ∃ m, appl L zM = m := ⟨_, rfl⟩
  obtain ⟨n, hn'⟩ : ∃ n, appl K zN = n := ⟨_, rfl⟩
  rw [hP1, hn'] at hgen hdb
  simp only [hm', hn'] at C1 C2 C3 C4
  by_cases hs1 : P1 = n
  · obtain ⟨q1, q2, q3⟩ := hgen hs1
    have hd1 := hdb hs1
    rw [hd1] at C6
    have hqt : qs = true := by rw [← hqs, hP1, hn']; exact decide_eq_true hs1
    subst hqt
    have C7 := Lib.hid (fun V hb A1 A2 n1 c1 n2 c2 => D7.out V hb A1 A2 n1 c1 n2 c2 (detZ ss zM zN).1 B)
    obtain ⟨R4, hR4⟩ : ∃ R4, detZ ss zM zN = R4 := ⟨_, rfl⟩
    simp only [hR4] at C5 C7 q2 q3
    obtain ⟨T, h⟩ := R4
    try simp only at C5 C7 q2 q3
    rcases q2 with rfl | rfl
    · have hi := q3 rfl
      rw [hi] at C7
      clear D7 hl hk h0 hh hhd cM kM eM hbM h1 h2 g1 g2 g3 g4 d1 d2 d3 d4 vm hmh sh hargs hgen hdb hqs hP1 hm' hn' hs1 q1 q3 hd1 hR4 hi bx hsm0 hs hm hn hL hK hsm hB up hz hW2 hc1 hc2
      rw [hN]
      clear hN
      go_enter Try.func7, Try.ntmps7
      go_wp2_with fail
      rw [HW2.out, HN.out]
      go_wp2_with (first
        | (go_at_call 16; ((with_reducible refine HS.out.mono ?_); rintro e w' ⟨rfl, rfl⟩; rw [HSM.out]))
        | (go_at_call 23; ((with_reducible refine (C2.out _ HB1.out).mono ?_); rintro e V2 ⟨A2, n2, c2, rfl, hI2, hk2, hB2⟩; have HI1' := Lib.hid (HI1.out.up hB2); have HI2 := Lib.hid hI2; have HB2 := Lib.hid (below_then HB1.out hB2); clear hI2 hB2 hk2))
        | (go_at_call 23; ((with_reducible refine (C1.out _ HB0.out).mono ?_); rintro e V1 ⟨A1, n1, c1, rfl, hI1, hk1, hB1⟩; obtain ⟨x0, x1, x2, x3⟩ := HCE.out _ hB1; have HK1 := Lib.hid hk1; have HI1 := Lib.hid hI1; have HB1 := Lib.hid (below_then HB0.out hB1); clear hI1 hB1 hk1))
        | (go_at_call 41; ((with_reducible refine (C3.out _ HB2.out _ _ _ HI1'.out HK1.out).mono ?_); rintro e V3 ⟨b3, o3, c3, B1, k1, g1, B2, k2, g2, rfl, y1, y2, hJ1, hJ2, hg2, hb3, hB3⟩; obtain ⟨z0, z1, z2, z3⟩ := HCE.out _ (below_then HB2.out hB3); have HL3 := Lib.hid (fun V' (hb : Below V3.heap.size V3 V') => show V'.cell? ⟨b3, o3 + 1, none⟩ = some (.slice B2 k2 g2) from (hb.cell (p := ⟨b3, o3 + 1, none⟩) hb3).trans y2); have HI2' := Lib.hid (HI2.out.up hB3); have HJ1 := Lib.hid hJ1; have HJ2 := Lib.hid hJ2; have HG2 := Lib.hid hg2; have HB3 := Lib.hid (below_then HB2.out hB3); clear hJ1 hJ2 hg2 hb3 hB3))
        | (go_at_call 24; ((with_reducible refine (C4.out V3 _ _ _ _ _ _ HJ1.out HI2'.out).mono ?_); rintro e V4 ⟨rfl, hB4⟩; obtain ⟨u0, u1, u2, u3⟩ := HCE.out _ (below_then HB3.out hB4); have HJ2a := Lib.hid (HJ2.out.up hB4); have HD4 := Lib.hid hB4; have HB4 := Lib.hid (below_then HB3.out hB4); clear hB4))
        | (go_at_call 36; ((with_reducible refine (C5.out _ HB4.out).mono ?_); rintro e V5 ⟨A5, n5, c5, rfl, hI5, hk5, hB5⟩; obtain ⟨v0, v1, v2, v3⟩ := HCE.out _ (below_then HB4.out hB5); have HJ2b := Lib.hid (HJ2a.out.up hB5); have HI5 := Lib.hid hI5; have HK5 := Lib.hid hk5; have HD5 := Lib.hid (below_then HD4.out hB5); have HB5 := Lib.hid (below_then HB4.out hB5); clear hI5 hk5 hB5))
        | (go_at_call 38; ((with_reducible refine (C6.out _ HB5.out).mono ?_); rintro e V6 ⟨rfl, hB6⟩; have hl6 := HL3.out _ (below_then HD5.out hB6); have HJ2c := Lib.hid (HJ2b.out.up hB6); have HI5' := Lib.hid (HI5.out.up hB6); have HB6 := Lib.hid (below_then HB5.out hB6); clear hB6))
        | (go_at_call 21; ((with_reducible refine (C7.out _ HB6.out _ _ _ _ _ _ HI5'.out HJ2c.out HG2.out).mono ?_); rintro e V7 ⟨rfl, hB7⟩; have HB7 := Lib.hid (below_then HB6.out hB7); clear hB7))
        | (go_at_call 35; refine (awake4_any _).mono ?_; rintro e Vz ⟨rfl, hBz⟩; have HBz := Lib.hid (below_then HB7.out hBz); clear hBz))
      go_ret
      exact ⟨rfl, by rw [← HN.out]; exact HUP.out _ HBz.out⟩
    · clear D7 C7 hl hk h0 hh hhd cM kM eM hbM h1 h2 g1 g2 g3 g4 d1 d2 d3 d4 vm hmh sh hargs hgen hdb hqs hP1 hm' hn' hs1 q1 q3 hd1 hR4 bx hsm0 hs hm hn hL hK hsm hB up hz hW2 hc1 hc2
      rw [hN]
      clear hN
      go_enter Try.func7, Try.ntmps7
      go_wp2_with fail
      rw [HW2.out, HN.out]
      go_wp2_with (first
        | (go_at_call 16; ((with_reducible refine HS.out.mono ?_); rintro e w' ⟨rfl, rfl⟩; rw [HSM.out]))
        | (go_at_call 23; ((with_reducible refine (C2.out _ HB1.out).mono ?_); rintro e V2 ⟨A2, n2, c2, rfl, hI2, hk2, hB2⟩; have HI1' := Lib.hid (HI1.out.up hB2); have HI2 := Lib.hid hI2; have HB2 := Lib.hid (below_then HB1.out hB2); clear hI2 hB2 hk2))
        | (go_at_call 23; ((with_reducible refine (C1.out _ HB0.out).mono ?_); rintro e V1 ⟨A1, n1, c1, rfl, hI1, hk1, hB1⟩; obtain ⟨x0, x1, x2, x3⟩ := HCE.out _ hB1; have HK1 := Lib.hid hk1; have HI1 := Lib.hid hI1; have HB1 := Lib.hid (below_then HB0.out hB1); clear hI1 hB1 hk1))
        | (go_at_call 41; ((with_reducible refine (C3.out _ HB2.out _ _ _ HI1'.out HK1.out).mono ?_); rintro e V3 ⟨b3, o3, c3, B1, k1, g1, B2, k2, g2, rfl, y1, y2, hJ1, hJ2, hg2, hb3, hB3⟩; obtain ⟨z0, z1, z2, z3⟩ := HCE.out _ (below_then HB2.out hB3); have HL3 := Lib.hid (fun V' (hb : Below V3.heap.size V3 V') => show V'.cell? ⟨b3, o3 + 1, none⟩ = some (.slice B2 k2 g2) from (hb.cell (p := ⟨b3, o3 + 1, none⟩) hb3).trans y2); have HI2' := Lib.hid (HI2.out.up hB3); have HJ1 := Lib.hid hJ1; have HJ2 := Lib.hid hJ2; have HG2 := Lib.hid hg2; have HB3 := Lib.hid (below_then HB2.out hB3); clear hJ1 hJ2 hg2 hb3 hB3))
        | (go_at_call 24; ((with_reducible refine (C4.out V3 _ _ _ _ _ _ HJ1.out HI2'.out).mono ?_); rintro e V4 ⟨rfl, hB4⟩; obtain ⟨u0, u1, u2, u3⟩ := HCE.out _ (below_then HB3.out hB4); have HJ2a := Lib.hid (HJ2.out.up hB4); have HD4 := Lib.hid hB4; have HB4 := Lib.hid (below_then HB3.out hB4); clear hB4))
        | (go_at_call 36; ((with_reducible refine (C5.out _ HB4.out).mono ?_); rintro e V5 ⟨A5, n5, c5, rfl, hI5, hk5, hB5⟩; obtain ⟨v0, v1, v2, v3⟩ := HCE.out _ (below_then HB4.out hB5); have HJ2b := Lib.hid (HJ2a.out.up hB5); have HI5 := Lib.hid hI5; have HK5 := Lib.hid hk5; have HD5 := Lib.hid (below_then HD4.out hB5); have HB5 := Lib.hid (below_then HB4.out hB5); clear hI5 hk5 hB5))
        | (go_at_call 38; ((with_reducible refine (C6.out _ HB5.out).mono ?_); rintro e V6 ⟨rfl, hB6⟩; have hl6 := HL3.out _ (below_then HD5.out hB6); have HJ2c := Lib.hid (HJ2b.out.up hB6); have HI5' := Lib.hid (HI5.out.up hB6); have HB6 := Lib.hid (below_then HB5.out hB6); clear hB6))
        | (go_at_call 35; refine (awake4_any _).mono ?_; rintro e Vz ⟨rfl, hBz⟩; have HBz := Lib.hid (below_then HB6.out hBz); clear hBz))
      go_ret
      exact ⟨rfl, by rw [← HN.out]; exact HUP.out _ HBz.out⟩
  · have hqt : qs = false := by rw [← hqs, hP1, hn']; exact decide_eq_false hs1
    subst hqt
    clear D7 C5 C6 hl hk h0 hh hhd cM kM eM hbM h1 h2 g1 g2 g3 g4 d1 d2 d3 d4 vm hmh sh hargs hgen hdb hqs hP1 hm' hn' hs1 bx hsm0 hs hm hn hL hK hsm hB up hz hW2 hc1 hc2
    rw [hN]
    clear hN
    go_enter Try.func7, Try.ntmps7
    go_wp2_with fail
    rw [HW2.out, HN.out]
    go_wp2_with (first
      | (go_at_call 16; ((with_reducible refine HS.out.mono ?_); rintro e w' ⟨rfl, rfl⟩; rw [HSM.out]))
      | (go_at_call 23; ((with_reducible refine (C2.out _ HB1.out).mono ?_); rintro e V2 ⟨A2, n2, c2, rfl, hI2, hk2, hB2⟩; have HI1' := Lib.hid (HI1.out.up hB2); have HI2 := Lib.hid hI2; have HB2 := Lib.hid (below_then HB1.out hB2); clear hI2 hB2 hk2))
      | (go_at_call 23; ((with_reducible refine (C1.out _ HB0.out).mono ?_); rintro e V1 ⟨A1, n1, c1, rfl, hI1, hk1, hB1⟩; obtain ⟨x0, x1, x2, x3⟩ := HCE.out _ hB1; have HK1 := Lib.hid hk1; have HI1 := Lib.hid hI1; have HB1 := Lib.hid (below_then HB0.out hB1); clear hI1 hB1 hk1))
      | (go_at_call 41; ((with_reducible refine (C3.out _ HB2.out _ _ _ HI1'.out HK1.out).mono ?_); rintro e V3 ⟨b3, o3, c3, B1, k1, g1, B2, k2, g2, rfl, y1, y2, hJ1, hJ2, hg2, hb3, hB3⟩; obtain ⟨z0, z1, z2, z3⟩ := HCE.out _ (below_then HB2.out hB3); have HL3 := Lib.hid (fun V' (hb : Below V3.heap.size V3 V') => show V'.cell? ⟨b3, o3 + 1, none⟩ = some (.slice B2 k2 g2) from (hb.cell (p := ⟨b3, o3 + 1, none⟩) hb3).trans y2); have HI2' := Lib.hid (HI2.out.up hB3); have HJ1 := Lib.hid hJ1; have HJ2 := Lib.hid hJ2; have HG2 := Lib.hid hg2; have HB3 := Lib.hid (below_then HB2.out hB3); clear hJ1 hJ2 hg2 hb3 hB3))
      | (go_at_call 24; ((with_reducible refine (C4.out V3 _ _ _ _ _ _ HJ1.out HI2'.out).mono ?_); rintro e V4 ⟨rfl, hB4⟩; obtain ⟨u0, u1, u2, u3⟩ := HCE.out _ (below_then HB3.out hB4); have HJ2a := Lib.hid (HJ2.out.up hB4); have HD4 := Lib.hid hB4; have HB4 := Lib.hid (below_then HB3.out hB4); clear hB4))
      | (go_at_call 35; refine (awake4_any _).mono ?_; rintro e Vz ⟨rfl, hBz⟩; have HBz := Lib.hid (below_then HB4.out hBz); clear hBz))
    go_ret
    exact ⟨rfl, by rw [← HN.out]; exact HUP.out _ HBz.out⟩

theorem kg_walk (As Am An Al Ak : Option Addr) (ns cs nm cm nn cn nl cl nk ck : Nat) (ss : Sg) (zM zN : List Int) (ll lk : List Hd) (L K : List Bd) (w : World) (hs : SigAt w w.heap.size As ns ss) (hm : IntsAt w w.heap.size Am nm zM) (hn : IntsAt w w.heap.size An nn zN) (hL : BindsAt w w.heap.size Al nl ll L) (hK : BindsAt w w.heap.size Ak nk lk K) (hc1 : nm ≤ cm) (hc2 : cm ≤ 9223372036854775807) : Calls Try.prog 7 #[.slice As ns cs, .agg #[.slice Am nm cm, .slice An nn cn, .slice Al nl cl, .slice Ak nk ck]] w fun e w' => e = .returned (.bool true) ∧ Below w.heap.size w w' := by
  cases hsm : smallOk ns [(Am, nm, cm), (An, nn, cn)]
  · exact kg_small As Am An Al Ak ns cs nm cm nn cn nl cl nk ck ss zM zN ll lk L K w hs hm hn hL hK hc1 hc2 hsm
  · by_cases hl : 30 < nl
    · exact kg_long As Am An Al Ak ns cs nm cm nn cn nl cl nk ck ss zM zN ll lk L K w hs hm hn hL hK hc1 hc2 hsm hl
    · by_cases hk : 30 < nk
      · exact kg_long2 As Am An Al Ak ns cs nm cm nn cn nl cl nk ck ss zM zN ll lk L K w hs hm hn hL hK hc1 hc2 hsm (by omega) hk
      · by_cases h0 : nm = 0
        · exact kg_none As Am An Al Ak ns cs nm cm nn cn nl cl nk ck ss zM zN ll lk L K w hs hm hn hL hK hc1 hc2 hsm (by omega) (by omega) h0
        · by_cases hh : zM.head? = some 0
          · exact kg_main As Am An Al Ak ns cs nm cm nn cn nl cl nk ck ss zM zN ll lk L K w hs hm hn hL hK hc1 hc2 hsm (by omega) (by omega) (by omega) hh
          · exact kg_other As Am An Al Ak ns cs nm cm nn cn nl cl nk ck ss zM zN ll lk L K w hs hm hn hL hK hc1 hc2 hsm (by omega) (by omega) (by omega) hh

end Go.Proofs.Ytpdokmdapjdnoaa

namespace Go.Proofs.Ytpdokmdapjdnoaa
open Go.ChangeShapes Go.WideShapes Go.ChangeAt Go.RowKit Go.Deep

set_option maxRecDepth 100000 in
theorem kgen_lifted (os : Os) (started : os.Started) (H : Type) (enc : TypeId × Value → H) :
    ReturnsInHanded {} Try.checked os 7 .any (Rows.kernelGeneralSpec.pre6 enc Try.prog Try.f7 Rows.kernelGeneralRow.domain false) (Rows.kernelGeneralSpec.post enc Try.prog Try.f7 false true false false) := by
  refine returnsInHanded_of_change (C := Try.checked) own started (by kernel_rfl) Try.func7
    (ChangeSpec.witness6 (enc := enc) (C := Try.checked) false ⟨#[], #[.slice none 0 0, .agg #[.slice none 0 0, .slice none 0 0, .slice none 0 0, .slice none 0 0]], []⟩ 8 (by kernel_rfl) (by kernel_rfl) (by kernel_rfl) (by kernel_rfl)) ?_
  intro W base args ds gs before hval0 hW hcnd _
  have hval : ∀ (j : Nat) t v, Try.f7.params[j]? = some t → args[j]? = some v → Value.okWide Try.prog W .any base t v := hval0
  have hW' := hW
  obtain ⟨p, q, hA0, hV, rfl, hfz, hnd⟩ := hW
  have hA : DataW.TrodAll enc Try.prog W 0 (fun _ => true) true Try.f7.params.toList args.toList ds p := hA0
  rw [Try.params7] at hA hval
  obtain ⟨v0, vs0, d0, ds0, p0, q0, hargs, rfl, rfl, h0, r0⟩ := trodAll_cons hA
  obtain ⟨v1, vs1, d1, ds1, p1, q1, rfl, rfl, rfl, h1, r1⟩ := trodAll_cons r0
  obtain ⟨rfl, rfl, rfl⟩ := trodAll_nil r1
  obtain rfl : args = #[v0, v1] := by cases args; simp_all
  obtain ⟨rfl, rfl⟩ := trodVars_none hV
  obtain ⟨a0, len0, cap0, rfl⟩ := okWide_slice Try.underlying23 (hval 0 23 v0 rfl rfl)
  have k0 := h0
  have k1 := h1
  have lt0 : ∀ x ∈ p0, x.block < W.heap.size := by obtain ⟨m, hm⟩ := k0; exact DataW.trod_lt m _ _ _ hm
  have lt1 : ∀ x ∈ p1, x.block < W.heap.size := by obtain ⟨m, hm⟩ := k1; exact DataW.trod_lt m _ _ _ hm
  obtain ⟨f0, e0⟩ := h0
  obtain ⟨As, ns, cs, ss, es, hs⟩ := read_sign e0
  obtain ⟨Aa, na, ca, za, Ab, nb, cb, zb, Ax, nx, cx, lx, bx, Ay, ny, cy, ly, by_, rfl, ha, hb, hx, hy, g1, g2⟩ := read_shot h1
  cases es
  clear hA0 hval0
  refine (kg_walk _ Aa Ab Ax Ay _ _ na ca nb cb nx cx ny cy ss za zb lx ly bx by_ W hs ha hb hx hy g1 g2).mono fun e W' ⟨he, bel⟩ => ?_
  subst he
  exact ⟨_, rfl, _, _, _, [], _, [], hW', trodAll_mk1 (shut_bool Try.underlying4 _), (trodAll_cons_mk (Below.trod laidOut (by kernel_rfl) (of_decide_eq_true (by kernel_rfl)) k0 bel lt0) (trodAll_cons_mk (Below.trod laidOut (by kernel_rfl) (of_decide_eq_true (by kernel_rfl)) k1 bel lt1) trodAll_mk0)), rfl, bel.frame _, fun h => by cases h⟩

theorem kgen_holds : Rows.KernelGeneralSaid :=
  OpenClaim.holds_of_wide 7 Try.f7 rfl rfl rfl rfl rfl rfl rfl ⟨rfl, rfl, rfl, rfl, rfl⟩ rfl rfl rfl rfl rfl (by kernel_rfl) Try.func7 (by kernel_rfl)
    (of_decide_eq_true (by kernel_rfl)) (by unfold Func.isWrapper; first | (rw [if_pos (by decide +kernel)]; kernel_rfl) | (rw [if_neg (by decide +kernel)]; exact ⟨rfl, rfl⟩))
    (fun os started H enc _ => kgen_lifted os started H enc)

end Go.Proofs.Ytpdokmdapjdnoaa
