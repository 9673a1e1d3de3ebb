/- The walk of UnifyComposes. -/
import Derived.Test.YtodcogngejgpfaaN17g
import Derived.Test.YtodcogngejgpfaaT21g
namespace Go.Proofs.Ytodcogngejgpfaa
open Go.RowKit

theorem compZ_zero {ss : Sg} {bb mm : List Bd} (h : (compZ ss bb mm).2 = 0) : bindsOk ss bb = true ∧ bindsOk ss mm = true ∧ ¬ LongTo bb mm 12 ∧ compZ ss bb mm = (compB bb mm, 0) := by
  cases h1 : bindsOk ss bb
  · rw [compZ_bad1 h1] at h; cases h
  · cases h2 : bindsOk ss mm
    · rw [compZ_bad2 h2] at h; cases h
    · by_cases h3 : LongTo bb mm 12
      · rw [compZ_long h1 h2 h3] at h; cases h
      · exact ⟨rfl, rfl, h3, compZ_ok h1 h2 h3⟩
theorem applZ_zero {ss : Sg} {bb : List Bd} {zs : List Int} (h : (applZ ss bb zs).2 = 0) : bindsOk ss bb = true ∧ valOk ss zs = true ∧ (appl bb zs).length ≤ 60 ∧ applZ ss bb zs = (appl bb zs, 0) := by
  unfold applZ at h ⊢
  by_cases h1 : (bindsOk ss bb && valOk ss zs) = true
  · rw [if_pos h1] at h ⊢
    simp only [Bool.and_eq_true] at h1
    by_cases h2 : (appl bb zs).length ≤ 60
    · rw [if_pos h2]; exact ⟨h1.1, h1.2, h2, rfl⟩
    · rw [if_neg h2] at h; cases h
  · rw [if_neg h1] at h; cases h
/-- To apply what is composed is to apply one, and then the other. -/
theorem appl_both {ss : Sg} {bb mm : List Bd} {zs : List Int} (h1 : (compZ ss bb mm).2 = 0) (h2 : (applZ ss bb zs).2 = 0) : applZ ss (compB bb mm) zs = applZ ss mm (appl bb zs) := by
  obtain ⟨a1, a2, a3, _⟩ := compZ_zero h1
  obtain ⟨_, b2, b3, _⟩ := applZ_zero h2
  have hc := comp_ok a1 a2 a3
  have hv := appl_val a1 b2 b3
  have e := appl_comp bb mm (zs := zs) (fun z hz => ((valOk_term b2).2.2.1 z hz).1)
  unfold applZ
  rw [hc, hv, a2, b2, e]
theorem compB_len (bb mm : List Bd) : (compB bb mm).length ≤ 12 := compTo_le bb mm 12

/-- The pair, as it lies in its box. -/
abbrev pairW (w : World) (Al Am At : Option Addr) (nl cl nm cm nt ct : Nat) : World := w.alloc (.cells #[.slice Al nl cl, .slice Am nm cm, .slice At nt ct] 39)
theorem pair_cells {w V : World} {Al Am At : Option Addr} {nl cl nm cm nt ct : Nat} (h : Below (pairW w Al Am At nl cl nm cm nt ct).heap.size (pairW w Al Am At nl cl nm cm nt ct) V) : V.cell? ⟨w.heap.size, 0, none⟩ = some (.slice Al nl cl) ∧ V.cell? ⟨w.heap.size, 1, none⟩ = some (.slice Am nm cm) ∧ V.cell? ⟨w.heap.size, 2, none⟩ = some (.slice At nt ct) := by
  have k := (Blk.new w 39 #[.slice Al nl cl, .slice Am nm cm, .slice At nt ct]).below h (by simp [pairW])
  exact ⟨by simpa using k.cell 0, by simpa using k.cell 1, by simpa using k.cell 2⟩

set_option maxRecDepth 100000 in
set_option maxHeartbeats 4000000 in
theorem uco_small (As Al Am At : Option Addr) (ns cs nl cl nm cm nt ct : Nat) (w : World) (hsm : smallOk ns [(At, nt, ct)] = false) :
    Calls Try.prog 5 #[.slice As ns cs, .agg #[.slice Al nl cl, .slice Am nm cm, .slice At nt ct]] w fun e w' => e = .returned (.bool true) ∧ Below w.heap.size w w' := by
  obtain ⟨WB, hWB⟩ : ∃ WB, pairW w Al Am At nl cl nm cm nt ct = WB := ⟨_, rfl⟩
  obtain ⟨WA, hWA⟩ : ∃ WA, WB.alloc (.cells #[.slice At nt ct] 30) = WA := ⟨_, rfl⟩
  have szB : WB.heap.size = w.heap.size + 1 := by rw [← hWB]; simp [pairW]
  have hBB : Below w.heap.size w WB := by rw [← hWB]; exact bel_al (Below.refl _ _) _
  have hBA' : Below WB.heap.size WB WA := by rw [← hWA]; exact bel_al (Below.refl _ _) _
  have hBA : Below w.heap.size w WA := below_then hBB hBA'
  have HCL := Lib.hid (fun V (h : Below WB.heap.size WB V) => pair_cells (w := w) (Al := Al) (Am := Am) (At := At) (nl := nl) (cl := cl) (nm := nm) (cm := cm) (nt := nt) (ct := ct) (V := V) (by rw [hWB]; exact h))
  obtain ⟨x0, x1, x2⟩ := HCL.out WB (Below.refl _ _)
  obtain ⟨y0, y1, y2⟩ := HCL.out WA hBA'
  have HS := Lib.hid (small_any As (some ⟨WB.heap.size, 0, none⟩) ns cs 1 1 [(At, nt, ct)] _ _ (hds_one WB At nt ct))
  rw [hWA, szB] at HS
  have HSM := Lib.hid hsm
  have HWB := Lib.hid hWB
  have HWA := Lib.hid hWA
  have HBA := Lib.hid hBA
  have HBA' := Lib.hid hBA'
  have HSZ := Lib.hid szB
  clear hsm hWB hWA hBB hBA hBA' szB
  go_enter Try.func5, Try.ntmps5
  go_wp2_with fail
  rw [show w.alloc (.cells #[.slice Al nl cl, .slice Am nm cm, .slice At nt ct] 39) = WB from HWB.out]
  go_wp2_with fail
  rw [HWA.out]
  go_wp2_with (first
    | (go_at_call 15; refine HS.out.mono ?_; rintro e w' ⟨rfl, rfl⟩; rw [HSM.out])
    | (go_at_call 17; refine (awake2_any _).mono ?_; rintro e w9 ⟨rfl, hB9⟩; have HB9 := Lib.hid (below_then HBA.out hB9)))
  go_ret
  exact ⟨rfl, HB9.out⟩

set_option maxRecDepth 100000 in
set_option maxHeartbeats 4000000 in
theorem uco_few1 (As Al Am At : Option Addr) (ns cs nl cl nm cm nt ct : Nat) (ss : Sg) (ll lm : List Hd) (bb mm : List Bd) (zs : List Int) (w : World) (hs : SigAt w w.heap.size As ns ss) (hl : BindsAt w w.heap.size Al nl ll bb) (hm : BindsAt w w.heap.size Am nm lm mm) (ht : IntsAt w w.heap.size At nt zs) (hsm : smallOk ns [(At, nt, ct)] = true) (hf1 : fewOk ll = false) :
    Calls Try.prog 5 #[.slice As ns cs, .agg #[.slice Al nl cl, .slice Am nm cm, .slice At nt ct]] w fun e w' => e = .returned (.bool true) ∧ Below w.heap.size w w' := by
  obtain ⟨WB, hWB⟩ : ∃ WB, pairW w Al Am At nl cl nm cm nt ct = WB := ⟨_, rfl⟩
  obtain ⟨WA, hWA⟩ : ∃ WA, WB.alloc (.cells #[.slice At nt ct] 30) = WA := ⟨_, rfl⟩
  have szB : WB.heap.size = w.heap.size + 1 := by rw [← hWB]; simp [pairW]
  have hBB : Below w.heap.size w WB := by rw [← hWB]; exact bel_al (Below.refl _ _) _
  have hBA' : Below WB.heap.size WB WA := by rw [← hWA]; exact bel_al (Below.refl _ _) _
  have hBA : Below w.heap.size w WA := below_then hBB hBA'
  have HCL := Lib.hid (fun V (h : Below WB.heap.size WB V) => pair_cells (w := w) (Al := Al) (Am := Am) (At := At) (nl := nl) (cl := cl) (nm := nm) (cm := cm) (nt := nt) (ct := ct) (V := V) (by rw [hWB]; exact h))
  obtain ⟨x0, x1, x2⟩ := HCL.out WB (Below.refl _ _)
  obtain ⟨y0, y1, y2⟩ := HCL.out WA hBA'
  have HS := Lib.hid (small_any As (some ⟨WB.heap.size, 0, none⟩) ns cs 1 1 [(At, nt, ct)] _ _ (hds_one WB At nt ct))
  rw [hWA, szB] at HS
  have HSM := Lib.hid hsm
  have HWB := Lib.hid hWB
  have HWA := Lib.hid hWA
  have HBA := Lib.hid hBA
  have HBA' := Lib.hid hBA'
  have HSZ := Lib.hid szB
  have HF1 := Lib.hid (few_any Al nl cl ll bb WA _ (hl.up hBA))
  have HFF1 := Lib.hid hf1
  clear hs hl hm ht hsm hWB hWA hBB hBA hBA' szB hf1
  go_enter Try.func5, Try.ntmps5
  go_wp2_with fail
  rw [show w.alloc (.cells #[.slice Al nl cl, .slice Am nm cm, .slice At nt ct] 39) = WB from HWB.out]
  go_wp2_with fail
  rw [HWA.out]
  go_wp2_with (first
    | (go_at_call 15; refine HS.out.mono ?_; rintro e w' ⟨rfl, rfl⟩; rw [HSM.out])
    | (go_at_call 16; ((with_reducible refine HF1.out.mono ?_); clear HF1; rintro e w' ⟨rfl, rfl⟩; rw [HFF1.out]))
    | (go_at_call 17; refine (awake2_any _).mono ?_; rintro e w9 ⟨rfl, hB9⟩; have HB9 := Lib.hid (below_then HBA.out hB9)))
  go_ret
  exact ⟨rfl, HB9.out⟩

set_option maxRecDepth 100000 in
set_option maxHeartbeats 4000000 in
theorem uco_few2 (As Al Am At : Option Addr) (ns cs nl cl nm cm nt ct : Nat) (ss : Sg) (ll lm : List Hd) (bb mm : List Bd) (zs : List Int) (w : World) (hs : SigAt w w.heap.size As ns ss) (hl : BindsAt w w.heap.size Al nl ll bb) (hm : BindsAt w w.heap.size Am nm lm mm) (ht : IntsAt w w.heap.size At nt zs) (hsm : smallOk ns [(At, nt, ct)] = true) (hf1 : fewOk ll = true) (hf2 : fewOk lm = false) :
    Calls Try.prog 5 #[.slice As ns cs, .agg #[.slice Al nl cl, .slice Am nm cm, .slice At nt ct]] w fun e w' => e = .returned (.bool true) ∧ Below w.heap.size w w' := by
  obtain ⟨WB, hWB⟩ : ∃ WB, pairW w Al Am At nl cl nm cm nt ct = WB := ⟨_, rfl⟩
  obtain ⟨WA, hWA⟩ : ∃ WA, WB.alloc (.cells #[.slice At nt ct] 30) = WA := ⟨_, rfl⟩
  have szB : WB.heap.size = w.heap.size + 1 := by rw [← hWB]; simp [pairW]
  have hBB : Below w.heap.size w WB := by rw [← hWB]; exact bel_al (Below.refl _ _) _
  have hBA' : Below WB.heap.size WB WA := by rw [← hWA]; exact bel_al (Below.refl _ _) _
  have hBA : Below w.heap.size w WA := below_then hBB hBA'
  have HCL := Lib.hid (fun V (h : Below WB.heap.size WB V) => pair_cells (w := w) (Al := Al) (Am := Am) (At := At) (nl := nl) (cl := cl) (nm := nm) (cm := cm) (nt := nt) (ct := ct) (V := V) (by rw [hWB]; exact h))
  obtain ⟨x0, x1, x2⟩ := HCL.out WB (Below.refl _ _)
  obtain ⟨y0, y1, y2⟩ := HCL.out WA hBA'
  have HS := Lib.hid (small_any As (some ⟨WB.heap.size, 0, none⟩) ns cs 1 1 [(At, nt, ct)] _ _ (hds_one WB At nt ct))
  rw [hWA, szB] at HS
  have HSM := Lib.hid hsm
  have HWB := Lib.hid hWB
  have HWA := Lib.hid hWA
  have HBA := Lib.hid hBA
  have HBA' := Lib.hid hBA'
  have HSZ := Lib.hid szB
  have HF1 := Lib.hid (few_any Al nl cl ll bb WA _ (hl.up hBA))
  have HFF1 := Lib.hid hf1
  have HF2 := Lib.hid (few_any Am nm cm lm mm WA _ (hm.up hBA))
  have HFF2 := Lib.hid hf2
  clear hs hl hm ht hsm hWB hWA hBB hBA hBA' szB hf1 hf2
  go_enter Try.func5, Try.ntmps5
  go_wp2_with fail
  rw [show w.alloc (.cells #[.slice Al nl cl, .slice Am nm cm, .slice At nt ct] 39) = WB from HWB.out]
  go_wp2_with fail
  rw [HWA.out]
  go_wp2_with (first
    | (go_at_call 15; refine HS.out.mono ?_; rintro e w' ⟨rfl, rfl⟩; rw [HSM.out])
    | (go_at_call 16; ((with_reducible refine HF1.out.mono ?_); clear HF1; rintro e w' ⟨rfl, rfl⟩; rw [HFF1.out]))
    | (go_at_call 16; ((with_reducible refine HF2.out.mono ?_); clear HF2; rintro e w' ⟨rfl, rfl⟩; rw [HFF2.out]))
    | (go_at_call 17; refine (awake2_any _).mono ?_; rintro e w9 ⟨rfl, hB9⟩; have HB9 := Lib.hid (below_then HBA.out hB9)))
  go_ret
  exact ⟨rfl, HB9.out⟩

set_option maxRecDepth 100000 in
set_option maxHeartbeats 4000000 in
theorem uco_err (As Al Am At : Option Addr) (ns cs nl cl nm cm nt ct : Nat) (ss : Sg) (ll lm : List Hd) (bb mm : List Bd) (zs : List Int) (w : World) (hs : SigAt w w.heap.size As ns ss) (hl : BindsAt w w.heap.size Al nl ll bb) (hm : BindsAt w w.heap.size Am nm lm mm) (ht : IntsAt w w.heap.size At nt zs) (hsm : smallOk ns [(At, nt, ct)] = true) (hf1 : fewOk ll = true) (hf2 : fewOk lm = true) (hne : (compZ ss bb mm).2 ≠ 0) :
    Calls Try.prog 5 #[.slice As ns cs, .agg #[.slice Al nl cl, .slice Am nm cm, .slice At nt ct]] w fun e w' => e = .returned (.bool true) ∧ Below w.heap.size w w' := by
  obtain ⟨WB, hWB⟩ : ∃ WB, pairW w Al Am At nl cl nm cm nt ct = WB := ⟨_, rfl⟩
  obtain ⟨WA, hWA⟩ : ∃ WA, WB.alloc (.cells #[.slice At nt ct] 30) = WA := ⟨_, rfl⟩
  have szB : WB.heap.size = w.heap.size + 1 := by rw [← hWB]; simp [pairW]
  have hBB : Below w.heap.size w WB := by rw [← hWB]; exact bel_al (Below.refl _ _) _
  have hBA' : Below WB.heap.size WB WA := by rw [← hWA]; exact bel_al (Below.refl _ _) _
  have hBA : Below w.heap.size w WA := below_then hBB hBA'
  have HCL := Lib.hid (fun V (h : Below WB.heap.size WB V) => pair_cells (w := w) (Al := Al) (Am := Am) (At := At) (nl := nl) (cl := cl) (nm := nm) (cm := cm) (nt := nt) (ct := ct) (V := V) (by rw [hWB]; exact h))
  obtain ⟨x0, x1, x2⟩ := HCL.out WB (Below.refl _ _)
  obtain ⟨y0, y1, y2⟩ := HCL.out WA hBA'
  have HS := Lib.hid (small_any As (some ⟨WB.heap.size, 0, none⟩) ns cs 1 1 [(At, nt, ct)] _ _ (hds_one WB At nt ct))
  rw [hWA, szB] at HS
  have HSM := Lib.hid hsm
  have HWB := Lib.hid hWB
  have HWA := Lib.hid hWA
  have HBA := Lib.hid hBA
  have HBA' := Lib.hid hBA'
  have HSZ := Lib.hid szB
  have HF1 := Lib.hid (few_any Al nl cl ll bb WA _ (hl.up hBA))
  have HFF1 := Lib.hid hf1
  have HF2 := Lib.hid (few_any Am nm cm lm mm WA _ (hm.up hBA))
  have HFF2 := Lib.hid hf2
  have hn1 : nl ≤ 1000000 := by
    unfold fewOk at hf1
    simp only [Bool.and_eq_true, decide_eq_true_eq] at hf1
    have := hl.ll
    omega
  have hn2 : nm ≤ 1000000 := by
    unfold fewOk at hf2
    simp only [Bool.and_eq_true, decide_eq_true_eq] at hf2
    have := hm.ll
    omega
  have C1 := Lib.hid (compose_any As Al Am ns cs nl cl nm cm ss ll lm bb mm WA (hs.up hBA) (hl.up hBA) (hm.up hBA) hn1 hn2)
  have C2 := Lib.hid (fun V (h : Below w.heap.size w V) => refCompose_any As Al Am ns cs nl cl nm cm ss ll lm bb mm V (hs.up h) (hl.up h) (hm.up h) hn1 hn2)
  have C3 := Lib.hid (fun V (h : Below w.heap.size w V) => apply_any As Al At ns cs nl cl nt ct ss ll bb zs V (hs.up h) (hl.up h) (ht.up h) hn1)
  obtain ⟨⟨cc, er⟩, hR⟩ : ∃ R, compZ ss bb mm = R := ⟨_, rfl⟩
  rw [hR] at hne
  simp only [hR] at C1 C2
  simp only at hne C1 C2
  have heq : (er != er) = false := by simp
  have hne' : (er != 0) = true := by simpa using hne
  clear hs hl hm ht hsm hWB hWA hBB hBA hBA' szB hf1 hf2 hR hne
  go_enter Try.func5, Try.ntmps5
  go_wp2_with fail
  rw [show w.alloc (.cells #[.slice Al nl cl, .slice Am nm cm, .slice At nt ct] 39) = WB from HWB.out]
  go_wp2_with fail
  rw [HWA.out]
  go_wp2_with (first
    | (go_at_call 15; refine HS.out.mono ?_; rintro e w' ⟨rfl, rfl⟩; rw [HSM.out])
    | (go_at_call 16; ((with_reducible refine HF1.out.mono ?_); clear HF1; rintro e w' ⟨rfl, rfl⟩; rw [HFF1.out]))
    | (go_at_call 16; ((with_reducible refine HF2.out.mono ?_); clear HF2; rintro e w' ⟨rfl, rfl⟩; rw [HFF2.out]))
    | (go_at_call 29; ((with_reducible refine C1.out.mono ?_); clear C1; rintro e V1 ⟨A1, n1, c1, l1, rfl, hI1, hB1⟩; obtain ⟨p0, p1, p2⟩ := HCL.out V1 (below_then HBA'.out hB1); have HI1 := Lib.hid hI1; have HQ1 := Lib.hid (below_then HBA'.out hB1); have HB1 := Lib.hid (below_then HBA.out hB1); clear hI1 hB1))
    | (go_at_call 30; ((with_reducible refine (C2.out _ HB1.out).mono ?_); rintro e V2 ⟨A2, n2, c2, l2, rfl, hI2, hB2⟩; obtain ⟨r0, r1, r2⟩ := HCL.out V2 (below_then HQ1.out hB2); have HI12 := Lib.hid (HI1.out.up hB2); have HI2 := Lib.hid hI2; have HQ2 := Lib.hid (below_then HQ1.out hB2); have HB2 := Lib.hid (below_then HB1.out hB2); clear hI2 hB2))
    | (go_at_call 31; ((with_reducible refine (sameBinds_self _ _ _ _ _ _ _ _ _ _ _ HI12.out HI2.out).mono ?_); rintro e V3 ⟨rfl, j3, rfl⟩; obtain ⟨s0, s1, s2⟩ := HCL.out _ (below_drewN HQ2.out j3); have HB3 := Lib.hid (below_drewN HB2.out j3); have HQ3 := Lib.hid (below_drewN HQ2.out j3)))
    | (go_at_call 17; refine (awake2_any _).mono ?_; rintro e w9 ⟨rfl, hB9⟩; have HB9 := Lib.hid (below_then HB3.out hB9)))
  go_ret
  exact ⟨rfl, HB9.out⟩

set_option maxRecDepth 100000 in
set_option maxHeartbeats 4000000 in
theorem uco_app (As Al Am At : Option Addr) (ns cs nl cl nm cm nt ct : Nat) (ss : Sg) (ll lm : List Hd) (bb mm : List Bd) (zs : List Int) (w : World) (hs : SigAt w w.heap.size As ns ss) (hl : BindsAt w w.heap.size Al nl ll bb) (hm : BindsAt w w.heap.size Am nm lm mm) (ht : IntsAt w w.heap.size At nt zs) (hsm : smallOk ns [(At, nt, ct)] = true) (hf1 : fewOk ll = true) (hf2 : fewOk lm = true) (hz : (compZ ss bb mm).2 = 0) (hne : (applZ ss bb zs).2 ≠ 0) :
    Calls Try.prog 5 #[.slice As ns cs, .agg #[.slice Al nl cl, .slice Am nm cm, .slice At nt ct]] w fun e w' => e = .returned (.bool true) ∧ Below w.heap.size w w' := by
  obtain ⟨WB, hWB⟩ : ∃ WB, pairW w Al Am At nl cl nm cm nt ct = WB := ⟨_, rfl⟩
  obtain ⟨WA, hWA⟩ : ∃ WA, WB.alloc (.cells #[.slice At nt ct] 30) = WA := ⟨_, rfl⟩
  have szB : WB.heap.size = w.heap.size + 1 := by rw [← hWB]; simp [pairW]
  have hBB : Below w.heap.size w WB := by rw [← hWB]; exact bel_al (Below.refl _ _) _
  have hBA' : Below WB.heap.size WB WA := by rw [← hWA]; exact bel_al (Below.refl _ _) _
  have hBA : Below w.heap.size w WA := below_then hBB hBA'
  have HCL := Lib.hid (fun V (h : Below WB.heap.size WB V) => pair_cells (w := w) (Al := Al) (Am := Am) (At := At) (nl := nl) (cl := cl) (nm := nm) (cm := cm) (nt := nt) (ct := ct) (V := V) (by rw [hWB]; exact h))
  obtain ⟨x0, x1, x2⟩ := HCL.out WB (Below.refl _ _)
  obtain ⟨y0, y1, y2⟩ := HCL.out WA hBA'
  have HS := Lib.hid (small_any As (some ⟨WB.heap.size, 0, none⟩) ns cs 1 1 [(At, nt, ct)] _ _ (hds_one WB At nt ct))
  rw [hWA, szB] at HS
  have HSM := Lib.hid hsm
  have HWB := Lib.hid hWB
  have HWA := Lib.hid hWA
  have HBA := Lib.hid hBA
  have HBA' := Lib.hid hBA'
  have HSZ := Lib.hid szB
  have HF1 := Lib.hid (few_any Al nl cl ll bb WA _ (hl.up hBA))
  have HFF1 := Lib.hid hf1
  have HF2 := Lib.hid (few_any Am nm cm lm mm WA _ (hm.up hBA))
  have HFF2 := Lib.hid hf2
  have hn1 : nl ≤ 1000000 := by
    unfold fewOk at hf1
    simp only [Bool.and_eq_true, decide_eq_true_eq] at hf1
    have := hl.ll
    omega
  have hn2 : nm ≤ 1000000 := by
    unfold fewOk at hf2
    simp only [Bool.and_eq_true, decide_eq_true_eq] at hf2
    have := hm.ll
    omega
  have C1 := Lib.hid (compose_any As Al Am ns cs nl cl nm cm ss ll lm bb mm WA (hs.up hBA) (hl.up hBA) (hm.up hBA) hn1 hn2)
  have C2 := Lib.hid (fun V (h : Below w.heap.size w V) => refCompose_any As Al Am ns cs nl cl nm cm ss ll lm bb mm V (hs.up h) (hl.up h) (hm.up h) hn1 hn2)
  have C3 := Lib.hid (fun V (h : Below w.heap.size w V) => apply_any As Al At ns cs nl cl nt ct ss ll bb zs V (hs.up h) (hl.up h) (ht.up h) hn1)
  obtain ⟨a1, a2, a3, hR⟩ := compZ_zero hz
  obtain ⟨cc, hcc⟩ : ∃ cc, compB bb mm = cc := ⟨_, rfl⟩
  rw [hcc] at hR
  simp only [hR] at C1 C2
  obtain ⟨⟨us, er⟩, hR4⟩ : ∃ R, applZ ss bb zs = R := ⟨_, rfl⟩
  rw [hR4] at hne
  simp only [hR4] at C3
  simp only at hne C3
  have hne' : (er != 0) = true := by simpa using hne
  clear hs hl hm ht hsm hWB hWA hBB hBA hBA' szB hf1 hf2 hR hne hz a1 a2 a3 hcc hR4
  go_enter Try.func5, Try.ntmps5
  go_wp2_with fail
  rw [show w.alloc (.cells #[.slice Al nl cl, .slice Am nm cm, .slice At nt ct] 39) = WB from HWB.out]
  go_wp2_with fail
  rw [HWA.out]
  go_wp2_with (first
    | (go_at_call 15; refine HS.out.mono ?_; rintro e w' ⟨rfl, rfl⟩; rw [HSM.out])
    | (go_at_call 16; ((with_reducible refine HF1.out.mono ?_); clear HF1; rintro e w' ⟨rfl, rfl⟩; rw [HFF1.out]))
    | (go_at_call 16; ((with_reducible refine HF2.out.mono ?_); clear HF2; rintro e w' ⟨rfl, rfl⟩; rw [HFF2.out]))
    | (go_at_call 29; ((with_reducible refine C1.out.mono ?_); clear C1; rintro e V1 ⟨A1, n1, c1, l1, rfl, hI1, hB1⟩; obtain ⟨p0, p1, p2⟩ := HCL.out V1 (below_then HBA'.out hB1); have HI1 := Lib.hid hI1; have HQ1 := Lib.hid (below_then HBA'.out hB1); have HB1 := Lib.hid (below_then HBA.out hB1); clear hI1 hB1))
    | (go_at_call 30; ((with_reducible refine (C2.out _ HB1.out).mono ?_); rintro e V2 ⟨A2, n2, c2, l2, rfl, hI2, hB2⟩; obtain ⟨r0, r1, r2⟩ := HCL.out V2 (below_then HQ1.out hB2); have HI12 := Lib.hid (HI1.out.up hB2); have HI2 := Lib.hid hI2; have HQ2 := Lib.hid (below_then HQ1.out hB2); have HB2 := Lib.hid (below_then HB1.out hB2); clear hI2 hB2))
    | (go_at_call 31; ((with_reducible refine (sameBinds_self _ _ _ _ _ _ _ _ _ _ _ HI12.out HI2.out).mono ?_); rintro e V3 ⟨rfl, j3, rfl⟩; obtain ⟨s0, s1, s2⟩ := HCL.out _ (below_drewN HQ2.out j3); have HB3 := Lib.hid (below_drewN HB2.out j3); have HQ3 := Lib.hid (below_drewN HQ2.out j3)))
    | (go_at_call 24; ((with_reducible refine (C3.out _ HB3.out).mono ?_); clear C3; rintro e V4 ⟨A4, n4, c4, rfl, hI4, hB4⟩; obtain ⟨t0, t1, t2⟩ := HCL.out V4 (below_then HQ3.out hB4); have HI4 := Lib.hid hI4; have HX4 := Lib.hid ((HI12.out.below (below_drewN (Below.refl _ _) j3)).up hB4); have HQ4 := Lib.hid (below_then HQ3.out hB4); have HB4 := Lib.hid (below_then HB3.out hB4); clear hI4 hB4))
    | (go_at_call 17; refine (awake2_any _).mono ?_; rintro e w9 ⟨rfl, hB9⟩; have HB9 := Lib.hid (below_then HB4.out hB9)))
  go_ret
  exact ⟨rfl, HB9.out⟩

set_option maxRecDepth 100000 in
set_option maxHeartbeats 4000000 in
theorem uco_ok (As Al Am At : Option Addr) (ns cs nl cl nm cm nt ct : Nat) (ss : Sg) (ll lm : List Hd) (bb mm : List Bd) (zs : List Int) (w : World) (hs : SigAt w w.heap.size As ns ss) (hl : BindsAt w w.heap.size Al nl ll bb) (hm : BindsAt w w.heap.size Am nm lm mm) (ht : IntsAt w w.heap.size At nt zs) (hsm : smallOk ns [(At, nt, ct)] = true) (hf1 : fewOk ll = true) (hf2 : fewOk lm = true) (hz : (compZ ss bb mm).2 = 0) (hz2 : (applZ ss bb zs).2 = 0) :
    Calls Try.prog 5 #[.slice As ns cs, .agg #[.slice Al nl cl, .slice Am nm cm, .slice At nt ct]] w fun e w' => e = .returned (.bool true) ∧ Below w.heap.size w w' := by
  obtain ⟨WB, hWB⟩ : ∃ WB, pairW w Al Am At nl cl nm cm nt ct = WB := ⟨_, rfl⟩
  obtain ⟨WA, hWA⟩ : ∃ WA, WB.alloc (.cells #[.slice At nt ct] 30) = WA := ⟨_, rfl⟩
  have szB : WB.heap.size = w.heap.size + 1 := by rw [← hWB]; simp [pairW]
  have hBB : Below w.heap.size w WB := by rw [← hWB]; exact bel_al (Below.refl _ _) _
  have hBA' : Below WB.heap.size WB WA := by rw [← hWA]; exact bel_al (Below.refl _ _) _
  have hBA : Below w.heap.size w WA := below_then hBB hBA'
  have HCL := Lib.hid (fun V (h : Below WB.heap.size WB V) => pair_cells (w := w) (Al := Al) (Am := Am) (At := At) (nl := nl) (cl := cl) (nm := nm) (cm := cm) (nt := nt) (ct := ct) (V := V) (by rw [hWB]; exact h))
  obtain ⟨x0, x1, x2⟩ := HCL.out WB (Below.refl _ _)
  obtain ⟨y0, y1, y2⟩ := HCL.out WA hBA'
  have HS := Lib.hid (small_any As (some ⟨WB.heap.size, 0, none⟩) ns cs 1 1 [(At, nt, ct)] _ _ (hds_one WB At nt ct))
  rw [hWA, szB] at HS
  have HSM := Lib.hid hsm
  have HWB := Lib.hid hWB
  have HWA := Lib.hid hWA
  have HBA := Lib.hid hBA
  have HBA' := Lib.hid hBA'
  have HSZ := Lib.hid szB
  have HF1 := Lib.hid (few_any Al nl cl ll bb WA _ (hl.up hBA))
  have HFF1 := Lib.hid hf1
  have HF2 := Lib.hid (few_any Am nm cm lm mm WA _ (hm.up hBA))
  have HFF2 := Lib.hid hf2
  have hn1 : nl ≤ 1000000 := by
    unfold fewOk at hf1
    simp only [Bool.and_eq_true, decide_eq_true_eq] at hf1
    have := hl.ll
    omega
  have hn2 : nm ≤ 1000000 := by
    unfold fewOk at hf2
    simp only [Bool.and_eq_true, decide_eq_true_eq] at hf2
    have := hm.ll
    omega
  have C1 := Lib.hid (compose_any As Al Am ns cs nl cl nm cm ss ll lm bb mm WA (hs.up hBA) (hl.up hBA) (hm.up hBA) hn1 hn2)
  have C2 := Lib.hid (fun V (h : Below w.heap.size w V) => refCompose_any As Al Am ns cs nl cl nm cm ss ll lm bb mm V (hs.up h) (hl.up h) (hm.up h) hn1 hn2)
  have C3 := Lib.hid (fun V (h : Below w.heap.size w V) => apply_any As Al At ns cs nl cl nt ct ss ll bb zs V (hs.up h) (hl.up h) (ht.up h) hn1)
  have hboth := appl_both hz hz2
  have hcl := compB_len bb mm
  obtain ⟨a1, a2, a3, hR⟩ := compZ_zero hz
  obtain ⟨b1, b2, b3, hR4⟩ := applZ_zero hz2
  obtain ⟨cc, hcc⟩ : ∃ cc, compB bb mm = cc := ⟨_, rfl⟩
  rw [hcc] at hR hboth hcl
  simp only [hR] at C1 C2
  obtain ⟨us, hus⟩ : ∃ us, appl bb zs = us := ⟨_, rfl⟩
  rw [hus] at hR4 hboth
  simp only [hR4] at C3
  have C4 := Lib.hid (fun V (A4 : Option Addr) (n4 c4 : Nat) (h : Below w.heap.size w V) (hI : IntsAt V V.heap.size A4 n4 us) => apply_any As Am A4 ns cs nm cm n4 c4 ss lm mm us V (hs.up h) (hm.up h) hI hn2)
  have C5 := Lib.hid (fun V (A1 : Option Addr) (n1 c1 : Nat) (l1 : List Hd) (h : Below w.heap.size w V) (hI : BindsAt V V.heap.size A1 n1 l1 cc) => apply_any As A1 At ns cs n1 c1 nt ct ss l1 cc zs V (hs.up h) hI (ht.up h) (by have := hI.len; omega))
  obtain ⟨⟨vs, er⟩, hR5⟩ : ∃ R, applZ ss mm us = R := ⟨_, rfl⟩
  rw [hR5] at hboth
  simp only [hR5] at C4
  simp only [hboth] at C5
  try simp only at C4 C5
  have heq : (er == er) = true := by simp
  clear hs hl hm ht hsm hWB hWA hBB hBA hBA' szB hf1 hf2 hR hz hz2 a1 a2 a3 b1 b2 b3 hcc hus hR4 hR5 hboth hcl
  go_enter Try.func5, Try.ntmps5
  go_wp2_with fail
  rw [show w.alloc (.cells #[.slice Al nl cl, .slice Am nm cm, .slice At nt ct] 39) = WB from HWB.out]
  go_wp2_with fail
  rw [HWA.out]
  go_wp2_with (first
    | (go_at_call 15; refine HS.out.mono ?_; rintro e w' ⟨rfl, rfl⟩; rw [HSM.out])
    | (go_at_call 16; ((with_reducible refine HF1.out.mono ?_); clear HF1; rintro e w' ⟨rfl, rfl⟩; rw [HFF1.out]))
    | (go_at_call 16; ((with_reducible refine HF2.out.mono ?_); clear HF2; rintro e w' ⟨rfl, rfl⟩; rw [HFF2.out]))
    | (go_at_call 29; ((with_reducible refine C1.out.mono ?_); clear C1; rintro e V1 ⟨A1, n1, c1, l1, rfl, hI1, hB1⟩; obtain ⟨p0, p1, p2⟩ := HCL.out V1 (below_then HBA'.out hB1); have HI1 := Lib.hid hI1; have HQ1 := Lib.hid (below_then HBA'.out hB1); have HB1 := Lib.hid (below_then HBA.out hB1); clear hI1 hB1))
    | (go_at_call 30; ((with_reducible refine (C2.out _ HB1.out).mono ?_); rintro e V2 ⟨A2, n2, c2, l2, rfl, hI2, hB2⟩; obtain ⟨r0, r1, r2⟩ := HCL.out V2 (below_then HQ1.out hB2); have HI12 := Lib.hid (HI1.out.up hB2); have HI2 := Lib.hid hI2; have HQ2 := Lib.hid (below_then HQ1.out hB2); have HB2 := Lib.hid (below_then HB1.out hB2); clear hI2 hB2))
    | (go_at_call 31; ((with_reducible refine (sameBinds_self _ _ _ _ _ _ _ _ _ _ _ HI12.out HI2.out).mono ?_); rintro e V3 ⟨rfl, j3, rfl⟩; obtain ⟨s0, s1, s2⟩ := HCL.out _ (below_drewN HQ2.out j3); have HB3 := Lib.hid (below_drewN HB2.out j3); have HQ3 := Lib.hid (below_drewN HQ2.out j3)))
    | (go_at_call 24; ((with_reducible refine (C3.out _ HB3.out).mono ?_); clear C3; rintro e V4 ⟨A4, n4, c4, rfl, hI4, hB4⟩; obtain ⟨t0, t1, t2⟩ := HCL.out V4 (below_then HQ3.out hB4); have HI4 := Lib.hid hI4; have HX4 := Lib.hid ((HI12.out.below (below_drewN (Below.refl _ _) j3)).up hB4); have HQ4 := Lib.hid (below_then HQ3.out hB4); have HB4 := Lib.hid (below_then HB3.out hB4); clear hI4 hB4))
    | (go_at_call 24; ((with_reducible refine (C4.out _ _ _ _ HB4.out HI4.out).mono ?_); clear C4; rintro e V5 ⟨A5, n5, c5, rfl, hI5, hB5⟩; obtain ⟨u0, u1, u2⟩ := HCL.out V5 (below_then HQ4.out hB5); have HI5 := Lib.hid hI5; have HX5 := Lib.hid (HX4.out.up hB5); have HB5 := Lib.hid (below_then HB4.out hB5); clear hI5 hB5))
    | (go_at_call 24; ((with_reducible refine (C5.out _ _ _ _ _ HB5.out HX5.out).mono ?_); clear C5; rintro e V6 ⟨A6, n6, c6, rfl, hI6, hB6⟩; have HI6 := Lib.hid hI6; have HI56 := Lib.hid (HI5.out.up hB6); have HB6 := Lib.hid (below_then HB5.out hB6); clear hI6 hB6))
    | (go_at_call 26; ((with_reducible refine (same_self _ _ _ _ _ _ vs _ _ HI56.out HI6.out).mono ?_); rintro e V7 ⟨rfl, j7, rfl⟩; have HB7 := Lib.hid (below_drewN HB6.out j7)))
    | (go_at_call 17; refine (awake2_any _).mono ?_; rintro e w9 ⟨rfl, hB9⟩; have HB9 := Lib.hid (below_then HB7.out hB9)))
  go_ret
  exact ⟨rfl, HB9.out⟩

theorem uco_walk (As Al Am At : Option Addr) (ns cs nl cl nm cm nt ct : Nat) (ss : Sg) (ll lm : List Hd) (bb mm : List Bd) (zs : List Int) (w : World) (hs : SigAt w w.heap.size As ns ss) (hl : BindsAt w w.heap.size Al nl ll bb) (hm : BindsAt w w.heap.size Am nm lm mm) (ht : IntsAt w w.heap.size At nt zs) :
    Calls Try.prog 5 #[.slice As ns cs, .agg #[.slice Al nl cl, .slice Am nm cm, .slice At nt ct]] w fun e w' => e = .returned (.bool true) ∧ Below w.heap.size w w' := by
  cases hsm : smallOk ns [(At, nt, ct)]
  · exact uco_small As Al Am At ns cs nl cl nm cm nt ct w hsm
  · cases hf1 : fewOk ll
    · exact uco_few1 As Al Am At ns cs nl cl nm cm nt ct ss ll lm bb mm zs w hs hl hm ht hsm hf1
    · cases hf2 : fewOk lm
      · exact uco_few2 As Al Am At ns cs nl cl nm cm nt ct ss ll lm bb mm zs w hs hl hm ht hsm hf1 hf2
      · by_cases hz : (compZ ss bb mm).2 = 0
        · by_cases hz2 : (applZ ss bb zs).2 = 0
          · exact uco_ok As Al Am At ns cs nl cl nm cm nt ct ss ll lm bb mm zs w hs hl hm ht hsm hf1 hf2 hz hz2
          · exact uco_app As Al Am At ns cs nl cl nm cm nt ct ss ll lm bb mm zs w hs hl hm ht hsm hf1 hf2 hz hz2
        · exact uco_err As Al Am At ns cs nl cl nm cm nt ct ss ll lm bb mm zs w hs hl hm ht hsm hf1 hf2 hz

end Go.Proofs.Ytodcogngejgpfaa
