/- The walk of UnifyGeneral. -/
import Derived.Test.YtodcogngejgpfaaN35g
import Derived.Test.YtodcogngejgpfaaT21g
namespace Go.Proofs.Ytodcogngejgpfaa
open Go.RowKit

/-- The two terms and the binds in their box. -/
abbrev drawnW (w : World) (Aa Ab Ax : Option Addr) (na ca nb cb nx cx : Nat) : World := w.alloc (.cells #[.slice Aa na ca, .slice Ab nb cb, .slice Ax nx cx] 58)
theorem drawn_cells {w V : World} {Aa Ab Ax : Option Addr} {na ca nb cb nx cx : Nat} (h : Below (drawnW w Aa Ab Ax na ca nb cb nx cx).heap.size (drawnW w Aa Ab Ax na ca nb cb nx cx) V) : V.cell? ⟨w.heap.size, 0, none⟩ = some (.slice Aa na ca) ∧ V.cell? ⟨w.heap.size, 1, none⟩ = some (.slice Ab nb cb) ∧ V.cell? ⟨w.heap.size, 2, none⟩ = some (.slice Ax nx cx) := by
  have k := (Blk.new w 58 #[.slice Aa na ca, .slice Ab nb cb, .slice Ax nx cx]).below h (by simp [drawnW])
  exact ⟨by simpa using k.cell 0, by simpa using k.cell 1, by simpa using k.cell 2⟩

set_option maxRecDepth 100000 in
set_option maxHeartbeats 4000000 in
theorem uge_small (As Aa Ab Ax : Option Addr) (ns cs na ca nb cb nx cx : Nat) (ss : Sg) (lx : List Hd) (bb : List Bd) (za zb : List Int) (w : World) (hs : SigAt w w.heap.size As ns ss) (ha : IntsAt w w.heap.size Aa na za) (hb : IntsAt w w.heap.size Ab nb zb) (hx : BindsAt w w.heap.size Ax nx lx bb) (hsm : smallOk ns [(Aa, na, ca), (Ab, nb, cb)] = false) :
    Calls Try.prog 10 #[.slice As ns cs, .agg #[.slice Aa na ca, .slice Ab nb cb, .slice Ax nx cx]] w fun e w' => e = .returned (.bool true) ∧ Below w.heap.size w w' := by
  obtain ⟨WB, hWB⟩ : ∃ WB, drawnW w Aa Ab Ax na ca nb cb nx cx = WB := ⟨_, rfl⟩
  obtain ⟨WA, hWA⟩ : ∃ WA, WB.alloc (.cells #[.slice Aa na ca, .slice Ab nb cb] 30) = WA := ⟨_, rfl⟩
  have szB : WB.heap.size = w.heap.size + 1 := by rw [← hWB]; simp [drawnW]
  have hBB : Below w.heap.size w WB := by rw [← hWB]; exact bel_al (Below.refl _ _) _
  have hBA' : Below WB.heap.size WB WA := by rw [← hWA]; exact bel_al (Below.refl _ _) _
  have hBA : Below w.heap.size w WA := below_then hBB hBA'
  have HCL := Lib.hid (fun V (h : Below WB.heap.size WB V) => drawn_cells (w := w) (Aa := Aa) (Ab := Ab) (Ax := Ax) (na := na) (ca := ca) (nb := nb) (cb := cb) (nx := nx) (cx := cx) (V := V) (by rw [hWB]; exact h))
  obtain ⟨x0, x1, x2⟩ := HCL.out WB (Below.refl _ _)
  obtain ⟨y0, y1, y2⟩ := HCL.out WA hBA'
  have HS := Lib.hid (small_any As (some ⟨WB.heap.size, 0, none⟩) ns cs 2 2 [(Aa, na, ca), (Ab, nb, cb)] _ _ (TermsAt.two (ca := ca) (cb := cb) (ha.up hBB) (hb.up hBB)).hds)
  rw [hWA, szB] at HS
  have HSM := Lib.hid hsm
  have HWB := Lib.hid hWB
  have HWA := Lib.hid hWA
  have HBA := Lib.hid hBA
  have HBA' := Lib.hid hBA'
  have HSZ := Lib.hid szB
  clear hs ha hb hx hsm hWB hWA hBB hBA hBA' szB
  go_enter Try.func10, Try.ntmps10
  go_wp2_with fail
  rw [show w.alloc (.cells #[.slice Aa na ca, .slice Ab nb cb, .slice Ax nx cx] 58) = WB from HWB.out]
  go_wp2_with fail
  rw [HWA.out]
  go_wp2_with (first
    | (go_at_call 15; refine HS.out.mono ?_; rintro e w' ⟨rfl, rfl⟩; rw [HSM.out])
    | (go_at_call 17; refine (awake2_any _).mono ?_; rintro e w9 ⟨rfl, hB9⟩; have HB9 := Lib.hid (below_then HBA.out hB9)))
  go_ret
  exact ⟨rfl, HB9.out⟩

set_option maxRecDepth 100000 in
set_option maxHeartbeats 4000000 in
theorem uge_few (As Aa Ab Ax : Option Addr) (ns cs na ca nb cb nx cx : Nat) (ss : Sg) (lx : List Hd) (bb : List Bd) (za zb : List Int) (w : World) (hs : SigAt w w.heap.size As ns ss) (ha : IntsAt w w.heap.size Aa na za) (hb : IntsAt w w.heap.size Ab nb zb) (hx : BindsAt w w.heap.size Ax nx lx bb) (hsm : smallOk ns [(Aa, na, ca), (Ab, nb, cb)] = true) (hf : fewOk lx = false) :
    Calls Try.prog 10 #[.slice As ns cs, .agg #[.slice Aa na ca, .slice Ab nb cb, .slice Ax nx cx]] w fun e w' => e = .returned (.bool true) ∧ Below w.heap.size w w' := by
  obtain ⟨WB, hWB⟩ : ∃ WB, drawnW w Aa Ab Ax na ca nb cb nx cx = WB := ⟨_, rfl⟩
  obtain ⟨WA, hWA⟩ : ∃ WA, WB.alloc (.cells #[.slice Aa na ca, .slice Ab nb cb] 30) = WA := ⟨_, rfl⟩
  have szB : WB.heap.size = w.heap.size + 1 := by rw [← hWB]; simp [drawnW]
  have hBB : Below w.heap.size w WB := by rw [← hWB]; exact bel_al (Below.refl _ _) _
  have hBA' : Below WB.heap.size WB WA := by rw [← hWA]; exact bel_al (Below.refl _ _) _
  have hBA : Below w.heap.size w WA := below_then hBB hBA'
  have HCL := Lib.hid (fun V (h : Below WB.heap.size WB V) => drawn_cells (w := w) (Aa := Aa) (Ab := Ab) (Ax := Ax) (na := na) (ca := ca) (nb := nb) (cb := cb) (nx := nx) (cx := cx) (V := V) (by rw [hWB]; exact h))
  obtain ⟨x0, x1, x2⟩ := HCL.out WB (Below.refl _ _)
  obtain ⟨y0, y1, y2⟩ := HCL.out WA hBA'
  have HS := Lib.hid (small_any As (some ⟨WB.heap.size, 0, none⟩) ns cs 2 2 [(Aa, na, ca), (Ab, nb, cb)] _ _ (TermsAt.two (ca := ca) (cb := cb) (ha.up hBB) (hb.up hBB)).hds)
  rw [hWA, szB] at HS
  have HSM := Lib.hid hsm
  have HWB := Lib.hid hWB
  have HWA := Lib.hid hWA
  have HBA := Lib.hid hBA
  have HBA' := Lib.hid hBA'
  have HSZ := Lib.hid szB
  have HF := Lib.hid (few_any Ax nx cx lx bb WA _ (hx.up hBA))
  have HFF := Lib.hid hf
  clear hs ha hb hx hsm hWB hWA hBB hBA hBA' szB hf
  go_enter Try.func10, Try.ntmps10
  go_wp2_with fail
  rw [show w.alloc (.cells #[.slice Aa na ca, .slice Ab nb cb, .slice Ax nx cx] 58) = WB from HWB.out]
  go_wp2_with fail
  rw [HWA.out]
  go_wp2_with (first
    | (go_at_call 15; refine HS.out.mono ?_; rintro e w' ⟨rfl, rfl⟩; rw [HSM.out])
    | (go_at_call 16; ((with_reducible refine HF.out.mono ?_); clear HF; rintro e w' ⟨rfl, rfl⟩; rw [HFF.out]))
    | (go_at_call 17; refine (awake2_any _).mono ?_; rintro e w9 ⟨rfl, hB9⟩; have HB9 := Lib.hid (below_then HBA.out hB9)))
  go_ret
  exact ⟨rfl, HB9.out⟩

set_option maxRecDepth 100000 in
set_option maxHeartbeats 4000000 in
theorem uge_no (As Aa Ab Ax : Option Addr) (ns cs na ca nb cb nx cx : Nat) (ss : Sg) (lx : List Hd) (bb : List Bd) (za zb : List Int) (w : World) (hs : SigAt w w.heap.size As ns ss) (ha : IntsAt w w.heap.size Aa na za) (hb : IntsAt w w.heap.size Ab nb zb) (hx : BindsAt w w.heap.size Ax nx lx bb) (hsm : smallOk ns [(Aa, na, ca), (Ab, nb, cb)] = true) (hf : fewOk lx = true) (hu : unifB ss bb za zb = false) :
    Calls Try.prog 10 #[.slice As ns cs, .agg #[.slice Aa na ca, .slice Ab nb cb, .slice Ax nx cx]] w fun e w' => e = .returned (.bool true) ∧ Below w.heap.size w w' := by
  obtain ⟨WB, hWB⟩ : ∃ WB, drawnW w Aa Ab Ax na ca nb cb nx cx = WB := ⟨_, rfl⟩
  obtain ⟨WA, hWA⟩ : ∃ WA, WB.alloc (.cells #[.slice Aa na ca, .slice Ab nb cb] 30) = WA := ⟨_, rfl⟩
  have szB : WB.heap.size = w.heap.size + 1 := by rw [← hWB]; simp [drawnW]
  have hBB : Below w.heap.size w WB := by rw [← hWB]; exact bel_al (Below.refl _ _) _
  have hBA' : Below WB.heap.size WB WA := by rw [← hWA]; exact bel_al (Below.refl _ _) _
  have hBA : Below w.heap.size w WA := below_then hBB hBA'
  have HCL := Lib.hid (fun V (h : Below WB.heap.size WB V) => drawn_cells (w := w) (Aa := Aa) (Ab := Ab) (Ax := Ax) (na := na) (ca := ca) (nb := nb) (cb := cb) (nx := nx) (cx := cx) (V := V) (by rw [hWB]; exact h))
  obtain ⟨x0, x1, x2⟩ := HCL.out WB (Below.refl _ _)
  obtain ⟨y0, y1, y2⟩ := HCL.out WA hBA'
  have HS := Lib.hid (small_any As (some ⟨WB.heap.size, 0, none⟩) ns cs 2 2 [(Aa, na, ca), (Ab, nb, cb)] _ _ (TermsAt.two (ca := ca) (cb := cb) (ha.up hBB) (hb.up hBB)).hds)
  rw [hWA, szB] at HS
  have HSM := Lib.hid hsm
  have HWB := Lib.hid hWB
  have HWA := Lib.hid hWA
  have HBA := Lib.hid hBA
  have HBA' := Lib.hid hBA'
  have HSZ := Lib.hid szB
  have HF := Lib.hid (few_any Ax nx cx lx bb WA _ (hx.up hBA))
  have HFF := Lib.hid hf
  have hn : nx ≤ 1000000 := by
    unfold fewOk at hf
    simp only [Bool.and_eq_true, decide_eq_true_eq] at hf
    have := hx.ll
    omega
  have C1 := Lib.hid (fun V (h : Below w.heap.size w V) => unifies_any As Ax Aa Ab ns cs nx cx na ca nb cb ss lx bb za zb V (hs.up h) (hx.up h) (ha.up h) (hb.up h) hn)
  have C2 := Lib.hid (fun V (h : Below w.heap.size w V) => refUnifies_any As Ax Aa Ab ns cs nx cx na ca nb cb ss lx bb za zb V (hs.up h) (hx.up h) (ha.up h) (hb.up h) hn)
  simp only [hu] at C1 C2
  clear hs ha hb hx hsm hWB hWA hBB hBA hBA' szB hf hu
  go_enter Try.func10, Try.ntmps10
  go_wp2_with fail
  rw [show w.alloc (.cells #[.slice Aa na ca, .slice Ab nb cb, .slice Ax nx cx] 58) = WB from HWB.out]
  go_wp2_with fail
  rw [HWA.out]
  go_wp2_with (first
    | (go_at_call 15; refine HS.out.mono ?_; rintro e w' ⟨rfl, rfl⟩; rw [HSM.out])
    | (go_at_call 16; ((with_reducible refine HF.out.mono ?_); clear HF; rintro e w' ⟨rfl, rfl⟩; rw [HFF.out]))
    | (go_at_call 46; ((with_reducible refine (C1.out _ HBA.out).mono ?_); rintro e V1 ⟨rfl, hB⟩; obtain ⟨z0, z1, z2⟩ := HCL.out V1 (below_then HBA'.out hB); have HQ1 := Lib.hid (below_then HBA'.out hB); have HB1 := Lib.hid (below_then HBA.out hB); clear hB))
    | (go_at_call 47; ((with_reducible refine (C2.out _ HB1.out).mono ?_); rintro e V2 ⟨rfl, hB⟩; obtain ⟨z0, z1, z2⟩ := HCL.out V2 (below_then HQ1.out hB); have HQ2 := Lib.hid (below_then HQ1.out hB); have HB2 := Lib.hid (below_then HB1.out hB); clear hB))
    | (go_at_call 17; refine (awake2_any _).mono ?_; rintro e w9 ⟨rfl, hB9⟩; have HB9 := Lib.hid (below_then HB2.out hB9)))
  go_ret
  exact ⟨rfl, HB9.out⟩

set_option maxRecDepth 100000 in
set_option maxHeartbeats 4000000 in
theorem uge_err (As Aa Ab Ax : Option Addr) (ns cs na ca nb cb nx cx : Nat) (ss : Sg) (lx : List Hd) (bb : List Bd) (za zb : List Int) (w : World) (hs : SigAt w w.heap.size As ns ss) (ha : IntsAt w w.heap.size Aa na za) (hb : IntsAt w w.heap.size Ab nb zb) (hx : BindsAt w w.heap.size Ax nx lx bb) (hsm : smallOk ns [(Aa, na, ca), (Ab, nb, cb)] = true) (hf : fewOk lx = true) (hu : unifB ss bb za zb = true) (hne : (applZ ss bb za).2 ≠ 0) :
    Calls Try.prog 10 #[.slice As ns cs, .agg #[.slice Aa na ca, .slice Ab nb cb, .slice Ax nx cx]] w fun e w' => e = .returned (.bool true) ∧ Below w.heap.size w w' := by
  obtain ⟨WB, hWB⟩ : ∃ WB, drawnW w Aa Ab Ax na ca nb cb nx cx = WB := ⟨_, rfl⟩
  obtain ⟨WA, hWA⟩ : ∃ WA, WB.alloc (.cells #[.slice Aa na ca, .slice Ab nb cb] 30) = WA := ⟨_, rfl⟩
  have szB : WB.heap.size = w.heap.size + 1 := by rw [← hWB]; simp [drawnW]
  have hBB : Below w.heap.size w WB := by rw [← hWB]; exact bel_al (Below.refl _ _) _
  have hBA' : Below WB.heap.size WB WA := by rw [← hWA]; exact bel_al (Below.refl _ _) _
  have hBA : Below w.heap.size w WA := below_then hBB hBA'
  have HCL := Lib.hid (fun V (h : Below WB.heap.size WB V) => drawn_cells (w := w) (Aa := Aa) (Ab := Ab) (Ax := Ax) (na := na) (ca := ca) (nb := nb) (cb := cb) (nx := nx) (cx := cx) (V := V) (by rw [hWB]; exact h))
  obtain ⟨x0, x1, x2⟩ := HCL.out WB (Below.refl _ _)
  obtain ⟨y0, y1, y2⟩ := HCL.out WA hBA'
  have HS := Lib.hid (small_any As (some ⟨WB.heap.size, 0, none⟩) ns cs 2 2 [(Aa, na, ca), (Ab, nb, cb)] _ _ (TermsAt.two (ca := ca) (cb := cb) (ha.up hBB) (hb.up hBB)).hds)
  rw [hWA, szB] at HS
  have HSM := Lib.hid hsm
  have HWB := Lib.hid hWB
  have HWA := Lib.hid hWA
  have HBA := Lib.hid hBA
  have HBA' := Lib.hid hBA'
  have HSZ := Lib.hid szB
  have HF := Lib.hid (few_any Ax nx cx lx bb WA _ (hx.up hBA))
  have HFF := Lib.hid hf
  have hn : nx ≤ 1000000 := by
    unfold fewOk at hf
    simp only [Bool.and_eq_true, decide_eq_true_eq] at hf
    have := hx.ll
    omega
  have C1 := Lib.hid (fun V (h : Below w.heap.size w V) => unifies_any As Ax Aa Ab ns cs nx cx na ca nb cb ss lx bb za zb V (hs.up h) (hx.up h) (ha.up h) (hb.up h) hn)
  have C2 := Lib.hid (fun V (h : Below w.heap.size w V) => refUnifies_any As Ax Aa Ab ns cs nx cx na ca nb cb ss lx bb za zb V (hs.up h) (hx.up h) (ha.up h) (hb.up h) hn)
  simp only [hu] at C1 C2
  have C3 := Lib.hid (fun V (h : Below w.heap.size w V) => unifiable_all As Aa Ab ns cs na ca nb cb ss za zb V (hs.up h) (ha.up h) (hb.up h))
  have C4 := Lib.hid (fun V (h : Below w.heap.size w V) => applyk_any As Ax Aa ns cs nx cx na ca ss lx bb za V (hs.up h) (hx.up h) (ha.up h) hn)
  obtain ⟨hg1, hg2⟩ := unif_general hu
  simp only [hg1] at C3
  obtain ⟨⟨us, er⟩, hR⟩ : ∃ R, applZ ss bb za = R := ⟨_, rfl⟩
  simp only [hR] at C4 hne
  have hne1 : (er != 0) = true := by simpa using hne
  have hne2 : ¬ er = 0 := hne
  clear hs ha hb hx hsm hWB hWA hBB hBA hBA' szB hf hu hg1 hg2 hR hne
  go_enter Try.func10, Try.ntmps10
  go_wp2_with fail
  rw [show w.alloc (.cells #[.slice Aa na ca, .slice Ab nb cb, .slice Ax nx cx] 58) = WB from HWB.out]
  go_wp2_with fail
  rw [HWA.out]
  go_wp2_with (first
    | (go_at_call 15; refine HS.out.mono ?_; rintro e w' ⟨rfl, rfl⟩; rw [HSM.out])
    | (go_at_call 16; ((with_reducible refine HF.out.mono ?_); clear HF; rintro e w' ⟨rfl, rfl⟩; rw [HFF.out]))
    | (go_at_call 46; ((with_reducible refine (C1.out _ HBA.out).mono ?_); rintro e V1 ⟨rfl, hB⟩; obtain ⟨z0, z1, z2⟩ := HCL.out V1 (below_then HBA'.out hB); have HQ1 := Lib.hid (below_then HBA'.out hB); have HB1 := Lib.hid (below_then HBA.out hB); clear hB))
    | (go_at_call 47; ((with_reducible refine (C2.out _ HB1.out).mono ?_); rintro e V2 ⟨rfl, hB⟩; obtain ⟨z0, z1, z2⟩ := HCL.out V2 (below_then HQ1.out hB); have HQ2 := Lib.hid (below_then HQ1.out hB); have HB2 := Lib.hid (below_then HB1.out hB); clear hB))
    | (go_at_call 42; ((with_reducible refine (C3.out _ HB2.out).mono ?_); rintro e V3 ⟨rfl, hB⟩; obtain ⟨z0, z1, z2⟩ := HCL.out V3 (below_then HQ2.out hB); have HQ3 := Lib.hid (below_then HQ2.out hB); have HB3 := Lib.hid (below_then HB2.out hB); clear hB))
    | (go_at_call 24; ((with_reducible refine (C4.out _ HB3.out).mono ?_); rintro e V4 ⟨A4, n4, c4, rfl, hI4, hk4, hB⟩; have HI4 := Lib.hid hI4; have HK4 := Lib.hid hk4; obtain ⟨z0, z1, z2⟩ := HCL.out V4 (below_then HQ3.out hB); have HQ4 := Lib.hid (below_then HQ3.out hB); have HB4 := Lib.hid (below_then HB3.out hB); clear hB; clear hI4 hk4))
    | (go_at_call 17; refine (awake2_any _).mono ?_; rintro e w9 ⟨rfl, hB9⟩; have HB9 := Lib.hid (below_then HB4.out hB9)))
  go_ret
  exact ⟨rfl, HB9.out⟩

set_option maxRecDepth 100000 in
set_option maxHeartbeats 4000000 in
theorem uge_ok (As Aa Ab Ax : Option Addr) (ns cs na ca nb cb nx cx : Nat) (ss : Sg) (lx : List Hd) (bb : List Bd) (za zb : List Int) (w : World) (hs : SigAt w w.heap.size As ns ss) (ha : IntsAt w w.heap.size Aa na za) (hb : IntsAt w w.heap.size Ab nb zb) (hx : BindsAt w w.heap.size Ax nx lx bb) (hsm : smallOk ns [(Aa, na, ca), (Ab, nb, cb)] = true) (hf : fewOk lx = true) (hu : unifB ss bb za zb = true) (hz : (applZ ss bb za).2 = 0) :
    Calls Try.prog 10 #[.slice As ns cs, .agg #[.slice Aa na ca, .slice Ab nb cb, .slice Ax nx cx]] w fun e w' => e = .returned (.bool true) ∧ Below w.heap.size w w' := by
  obtain ⟨WB, hWB⟩ : ∃ WB, drawnW w Aa Ab Ax na ca nb cb nx cx = WB := ⟨_, rfl⟩
  obtain ⟨WA, hWA⟩ : ∃ WA, WB.alloc (.cells #[.slice Aa na ca, .slice Ab nb cb] 30) = WA := ⟨_, rfl⟩
  have szB : WB.heap.size = w.heap.size + 1 := by rw [← hWB]; simp [drawnW]
  have hBB : Below w.heap.size w WB := by rw [← hWB]; exact bel_al (Below.refl _ _) _
  have hBA' : Below WB.heap.size WB WA := by rw [← hWA]; exact bel_al (Below.refl _ _) _
  have hBA : Below w.heap.size w WA := below_then hBB hBA'
  have HCL := Lib.hid (fun V (h : Below WB.heap.size WB V) => drawn_cells (w := w) (Aa := Aa) (Ab := Ab) (Ax := Ax) (na := na) (ca := ca) (nb := nb) (cb := cb) (nx := nx) (cx := cx) (V := V) (by rw [hWB]; exact h))
  obtain ⟨x0, x1, x2⟩ := HCL.out WB (Below.refl _ _)
  obtain ⟨y0, y1, y2⟩ := HCL.out WA hBA'
  have HS := Lib.hid (small_any As (some ⟨WB.heap.size, 0, none⟩) ns cs 2 2 [(Aa, na, ca), (Ab, nb, cb)] _ _ (TermsAt.two (ca := ca) (cb := cb) (ha.up hBB) (hb.up hBB)).hds)
  rw [hWA, szB] at HS
  have HSM := Lib.hid hsm
  have HWB := Lib.hid hWB
  have HWA := Lib.hid hWA
  have HBA := Lib.hid hBA
  have HBA' := Lib.hid hBA'
  have HSZ := Lib.hid szB
  have HF := Lib.hid (few_any Ax nx cx lx bb WA _ (hx.up hBA))
  have HFF := Lib.hid hf
  have hn : nx ≤ 1000000 := by
    unfold fewOk at hf
    simp only [Bool.and_eq_true, decide_eq_true_eq] at hf
    have := hx.ll
    omega
  have C1 := Lib.hid (fun V (h : Below w.heap.size w V) => unifies_any As Ax Aa Ab ns cs nx cx na ca nb cb ss lx bb za zb V (hs.up h) (hx.up h) (ha.up h) (hb.up h) hn)
  have C2 := Lib.hid (fun V (h : Below w.heap.size w V) => refUnifies_any As Ax Aa Ab ns cs nx cx na ca nb cb ss lx bb za zb V (hs.up h) (hx.up h) (ha.up h) (hb.up h) hn)
  simp only [hu] at C1 C2
  have C3 := Lib.hid (fun V (h : Below w.heap.size w V) => unifiable_all As Aa Ab ns cs na ca nb cb ss za zb V (hs.up h) (ha.up h) (hb.up h))
  have C4 := Lib.hid (fun V (h : Below w.heap.size w V) => applyk_any As Ax Aa ns cs nx cx na ca ss lx bb za V (hs.up h) (hx.up h) (ha.up h) hn)
  obtain ⟨hg1, hg2⟩ := unif_general hu
  simp only [hg1] at C3
  obtain ⟨hg3, hg4⟩ := hg2 hz
  have C5 := Lib.hid (fun V (h : Below w.heap.size w V) => unified_all As Aa Ab ns cs na ca nb cb ss za zb V (hs.up h) (ha.up h) (hb.up h))
  obtain ⟨⟨us, er⟩, hR⟩ : ∃ R, applZ ss bb za = R := ⟨_, rfl⟩
  obtain ⟨⟨vs, fr⟩, hR2⟩ : ∃ R, comZ ss 0 za zb = R := ⟨_, rfl⟩
  rw [hR] at hz hg4
  rw [hR2] at hg3 hg4
  simp only [hR] at C4
  simp only [hR2] at C5
  simp only at hz hg3 hg4
  subst hz
  subst hg3
  have C6 := Lib.hid (fun V (A1 A2 : Option Addr) (n1 c1 n2 c2 : Nat) (h : Below w.heap.size w V) (h1 : IntsAt V V.heap.size A1 n1 vs) (h2 : IntsAt V V.heap.size A2 n2 us) (hk : n2 ≤ c2 ∧ c2 ≤ 9223372036854775807) => instance_any As A1 A2 ns cs n1 c1 n2 c2 ss vs us V (hs.up h) h1 h2 hk.1 hk.2)
  simp only [hg4] at C6
  clear hs ha hb hx hsm hWB hWA hBB hBA hBA' szB hf hu hg1 hg2 hR hR2 hg4
  go_enter Try.func10, Try.ntmps10
  go_wp2_with fail
  rw [show w.alloc (.cells #[.slice Aa na ca, .slice Ab nb cb, .slice Ax nx cx] 58) = WB from HWB.out]
  go_wp2_with fail
  rw [HWA.out]
  go_wp2_with (first
    | (go_at_call 15; refine HS.out.mono ?_; rintro e w' ⟨rfl, rfl⟩; rw [HSM.out])
    | (go_at_call 16; ((with_reducible refine HF.out.mono ?_); clear HF; rintro e w' ⟨rfl, rfl⟩; rw [HFF.out]))
    | (go_at_call 46; ((with_reducible refine (C1.out _ HBA.out).mono ?_); rintro e V1 ⟨rfl, hB⟩; obtain ⟨z0, z1, z2⟩ := HCL.out V1 (below_then HBA'.out hB); have HQ1 := Lib.hid (below_then HBA'.out hB); have HB1 := Lib.hid (below_then HBA.out hB); clear hB))
    | (go_at_call 47; ((with_reducible refine (C2.out _ HB1.out).mono ?_); rintro e V2 ⟨rfl, hB⟩; obtain ⟨z0, z1, z2⟩ := HCL.out V2 (below_then HQ1.out hB); have HQ2 := Lib.hid (below_then HQ1.out hB); have HB2 := Lib.hid (below_then HB1.out hB); clear hB))
    | (go_at_call 42; ((with_reducible refine (C3.out _ HB2.out).mono ?_); rintro e V3 ⟨rfl, hB⟩; obtain ⟨z0, z1, z2⟩ := HCL.out V3 (below_then HQ2.out hB); have HQ3 := Lib.hid (below_then HQ2.out hB); have HB3 := Lib.hid (below_then HB2.out hB); clear hB))
    | (go_at_call 24; ((with_reducible refine (C4.out _ HB3.out).mono ?_); rintro e V4 ⟨A4, n4, c4, rfl, hI4, hk4, hB⟩; have HI4 := Lib.hid hI4; have HK4 := Lib.hid hk4; obtain ⟨z0, z1, z2⟩ := HCL.out V4 (below_then HQ3.out hB); have HQ4 := Lib.hid (below_then HQ3.out hB); have HB4 := Lib.hid (below_then HB3.out hB); clear hB; clear hI4 hk4))
    | (go_at_call 40; ((with_reducible refine (C5.out _ HB4.out).mono ?_); rintro e V5 ⟨A5, n5, c5, rfl, hI5, hk5, hB⟩; have HI5 := Lib.hid hI5; have HI45 := Lib.hid (HI4.out.up hB); obtain ⟨z0, z1, z2⟩ := HCL.out V5 (below_then HQ4.out hB); have HQ5 := Lib.hid (below_then HQ4.out hB); have HB5 := Lib.hid (below_then HB4.out hB); clear hB; clear hI5 hk5))
    | (go_at_call 34; ((with_reducible refine (C6.out _ _ _ _ _ _ _ HB5.out HI5.out HI45.out HK4.out).mono ?_); rintro e V6 ⟨rfl, hB⟩; have HB6 := Lib.hid (below_then HB5.out hB); clear hB))
    | (go_at_call 17; refine (awake2_any _).mono ?_; rintro e w9 ⟨rfl, hB9⟩; have HB9 := Lib.hid (below_then HB6.out hB9)))
  go_ret
  exact ⟨rfl, HB9.out⟩

theorem uge_walk (As Aa Ab Ax : Option Addr) (ns cs na ca nb cb nx cx : Nat) (ss : Sg) (lx : List Hd) (bb : List Bd) (za zb : List Int) (w : World) (hs : SigAt w w.heap.size As ns ss) (ha : IntsAt w w.heap.size Aa na za) (hb : IntsAt w w.heap.size Ab nb zb) (hx : BindsAt w w.heap.size Ax nx lx bb) :
    Calls Try.prog 10 #[.slice As ns cs, .agg #[.slice Aa na ca, .slice Ab nb cb, .slice Ax nx cx]] w fun e w' => e = .returned (.bool true) ∧ Below w.heap.size w w' := by
  cases hsm : smallOk ns [(Aa, na, ca), (Ab, nb, cb)]
  · exact uge_small As Aa Ab Ax ns cs na ca nb cb nx cx ss lx bb za zb w hs ha hb hx hsm
  · cases hf : fewOk lx
    · exact uge_few As Aa Ab Ax ns cs na ca nb cb nx cx ss lx bb za zb w hs ha hb hx hsm hf
    · cases hu : unifB ss bb za zb
      · exact uge_no As Aa Ab Ax ns cs na ca nb cb nx cx ss lx bb za zb w hs ha hb hx hsm hf hu
      · by_cases hz : (applZ ss bb za).2 = 0
        · exact uge_ok As Aa Ab Ax ns cs na ca nb cb nx cx ss lx bb za zb w hs ha hb hx hsm hf hu hz
        · exact uge_err As Aa Ab Ax ns cs na ca nb cb nx cx ss lx bb za zb w hs ha hb hx hsm hf hu hz

end Go.Proofs.Ytodcogngejgpfaa
