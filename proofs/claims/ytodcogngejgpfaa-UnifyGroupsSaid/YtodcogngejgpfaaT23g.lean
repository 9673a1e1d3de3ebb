/- The walk of UnifyGroups. -/
import Derived.Test.YtodcogngejgpfaaT22g
namespace Go.Proofs.Ytodcogngejgpfaa
open Go.RowKit

/-- The three lists, as they lie in their box. -/
abbrev trioW (w : World) (A0 A1 A2 : Option Addr) (n0 c0 n1 c1 n2 c2 : Nat) : World := w.alloc (.cells #[.slice A0 n0 c0, .slice A1 n1 c1, .slice A2 n2 c2] 44)
theorem trio_cells {w V : World} {A0 A1 A2 : Option Addr} {n0 c0 n1 c1 n2 c2 : Nat} (h : Below (trioW w A0 A1 A2 n0 c0 n1 c1 n2 c2).heap.size (trioW w A0 A1 A2 n0 c0 n1 c1 n2 c2) V) : V.cell? ⟨w.heap.size, 0, none⟩ = some (.slice A0 n0 c0) ∧ V.cell? ⟨w.heap.size, 1, none⟩ = some (.slice A1 n1 c1) ∧ V.cell? ⟨w.heap.size, 2, none⟩ = some (.slice A2 n2 c2) := by
  have k := (Blk.new w 44 #[.slice A0 n0 c0, .slice A1 n1 c1, .slice A2 n2 c2]).below h (by simp [trioW])
  exact ⟨by simpa using k.cell 0, by simpa using k.cell 1, by simpa using k.cell 2⟩
theorem ren_trio {ss : Sg} {a b : List Bd} (hz : (compZ ss a b).2 = 0) (h1 : renB ss a = true) (h2 : renB ss b = true) : renB ss (compB a b) = true := by
  obtain ⟨a1, a2, a3, _⟩ := compZ_zero hz
  have hc := comp_ok a1 a2 a3
  simp only [renB, a1, a2, hc, Bool.true_and, decide_eq_true_eq] at h1 h2 ⊢
  exact ren_comp a1 a2 h1 h2

set_option maxRecDepth 100000 in
set_option maxHeartbeats 4000000 in
theorem ugr_small (As A0 A1 A2 : Option Addr) (ns cs n0 c0 n1 c1 n2 c2 : Nat) (ss : Sg) (l0 l1 l2 : List Hd) (b0 b1 b2 : List Bd) (w : World) (hs : SigAt w w.heap.size As ns ss) (h0 : BindsAt w w.heap.size A0 n0 l0 b0) (h1 : BindsAt w w.heap.size A1 n1 l1 b1) (h2 : BindsAt w w.heap.size A2 n2 l2 b2) (hsm : smallOk ns [] = false) :
    Calls Try.prog 6 #[.slice As ns cs, .agg #[.slice A0 n0 c0, .slice A1 n1 c1, .slice A2 n2 c2]] w fun e w' => e = .returned (.bool true) ∧ Below w.heap.size w w' := by
  obtain ⟨WB, hWB⟩ : ∃ WB, trioW w A0 A1 A2 n0 c0 n1 c1 n2 c2 = WB := ⟨_, rfl⟩
  have hBB : Below w.heap.size w WB := by rw [← hWB]; exact bel_al (Below.refl _ _) _
  have HCL := Lib.hid (fun V (h : Below WB.heap.size WB V) => trio_cells (w := w) (A0 := A0) (A1 := A1) (A2 := A2) (n0 := n0) (c0 := c0) (n1 := n1) (c1 := c1) (n2 := n2) (c2 := c2) (V := V) (by rw [hWB]; exact h))
  obtain ⟨x0, x1, x2⟩ := HCL.out WB (Below.refl _ _)
  have HS := Lib.hid (small_any As none ns cs 0 0 [] WB WB.heap.size ⟨rfl, by omega, fun h => absurd h (by omega)⟩)
  have HSM := Lib.hid hsm
  have HWB := Lib.hid hWB
  have HBB := Lib.hid hBB
  have HF0 := Lib.hid (few_any A0 n0 c0 l0 b0 WB _ (h0.up hBB))
  have HF1 := Lib.hid (few_any A1 n1 c1 l1 b1 WB _ (h1.up hBB))
  have HF2 := Lib.hid (few_any A2 n2 c2 l2 b2 WB _ (h2.up hBB))
  clear hs h0 h1 h2 hsm hWB hBB 
  go_enter Try.func6, Try.ntmps6
  go_wp2_with fail
  rw [show w.alloc (.cells #[.slice A0 n0 c0, .slice A1 n1 c1, .slice A2 n2 c2] 44) = WB from HWB.out]
  go_wp2_with (first
    | (go_at_call 15; refine HS.out.mono ?_; rintro e w8 ⟨rfl, rfl⟩; rw [HSM.out])
    | (go_at_call 17; refine (awake2_any _).mono ?_; rintro e w9 ⟨rfl, hB9⟩; have HB9 := Lib.hid (below_then HBB.out hB9)))
  go_ret
  exact ⟨rfl, HB9.out⟩

set_option maxRecDepth 100000 in
set_option maxHeartbeats 4000000 in
theorem ugr_few0 (As A0 A1 A2 : Option Addr) (ns cs n0 c0 n1 c1 n2 c2 : Nat) (ss : Sg) (l0 l1 l2 : List Hd) (b0 b1 b2 : List Bd) (w : World) (hs : SigAt w w.heap.size As ns ss) (h0 : BindsAt w w.heap.size A0 n0 l0 b0) (h1 : BindsAt w w.heap.size A1 n1 l1 b1) (h2 : BindsAt w w.heap.size A2 n2 l2 b2) (hsm : smallOk ns [] = true)  (hf0 : fewOk l0 = false) :
    Calls Try.prog 6 #[.slice As ns cs, .agg #[.slice A0 n0 c0, .slice A1 n1 c1, .slice A2 n2 c2]] w fun e w' => e = .returned (.bool true) ∧ Below w.heap.size w w' := by
  obtain ⟨WB, hWB⟩ : ∃ WB, trioW w A0 A1 A2 n0 c0 n1 c1 n2 c2 = WB := ⟨_, rfl⟩
  have hBB : Below w.heap.size w WB := by rw [← hWB]; exact bel_al (Below.refl _ _) _
  have HCL := Lib.hid (fun V (h : Below WB.heap.size WB V) => trio_cells (w := w) (A0 := A0) (A1 := A1) (A2 := A2) (n0 := n0) (c0 := c0) (n1 := n1) (c1 := c1) (n2 := n2) (c2 := c2) (V := V) (by rw [hWB]; exact h))
  obtain ⟨x0, x1, x2⟩ := HCL.out WB (Below.refl _ _)
  have HS := Lib.hid (small_any As none ns cs 0 0 [] WB WB.heap.size ⟨rfl, by omega, fun h => absurd h (by omega)⟩)
  have HSM := Lib.hid hsm
  have HWB := Lib.hid hWB
  have HBB := Lib.hid hBB
  have HF0 := Lib.hid (few_any A0 n0 c0 l0 b0 WB _ (h0.up hBB))
  have HF1 := Lib.hid (few_any A1 n1 c1 l1 b1 WB _ (h1.up hBB))
  have HF2 := Lib.hid (few_any A2 n2 c2 l2 b2 WB _ (h2.up hBB))
  have HFF0 := Lib.hid hf0
  clear hs h0 h1 h2 hsm hWB hBB hf0
  go_enter Try.func6, Try.ntmps6
  go_wp2_with fail
  rw [show w.alloc (.cells #[.slice A0 n0 c0, .slice A1 n1 c1, .slice A2 n2 c2] 44) = WB from HWB.out]
  go_wp2_with (first
    | (go_at_call 15; refine HS.out.mono ?_; rintro e w8 ⟨rfl, rfl⟩; rw [HSM.out])
    | (go_at_call 16; ((with_reducible refine HF0.out.mono ?_); clear HF0; rintro e w8 ⟨rfl, rfl⟩; rw [HFF0.out]))
    | (go_at_call 17; refine (awake2_any _).mono ?_; rintro e w9 ⟨rfl, hB9⟩; have HB9 := Lib.hid (below_then HBB.out hB9)))
  go_ret
  exact ⟨rfl, HB9.out⟩

set_option maxRecDepth 100000 in
set_option maxHeartbeats 4000000 in
theorem ugr_few1 (As A0 A1 A2 : Option Addr) (ns cs n0 c0 n1 c1 n2 c2 : Nat) (ss : Sg) (l0 l1 l2 : List Hd) (b0 b1 b2 : List Bd) (w : World) (hs : SigAt w w.heap.size As ns ss) (h0 : BindsAt w w.heap.size A0 n0 l0 b0) (h1 : BindsAt w w.heap.size A1 n1 l1 b1) (h2 : BindsAt w w.heap.size A2 n2 l2 b2) (hsm : smallOk ns [] = true) (hf0 : fewOk l0 = true) (hf1 : fewOk l1 = false) :
    Calls Try.prog 6 #[.slice As ns cs, .agg #[.slice A0 n0 c0, .slice A1 n1 c1, .slice A2 n2 c2]] w fun e w' => e = .returned (.bool true) ∧ Below w.heap.size w w' := by
  obtain ⟨WB, hWB⟩ : ∃ WB, trioW w A0 A1 A2 n0 c0 n1 c1 n2 c2 = WB := ⟨_, rfl⟩
  have hBB : Below w.heap.size w WB := by rw [← hWB]; exact bel_al (Below.refl _ _) _
  have HCL := Lib.hid (fun V (h : Below WB.heap.size WB V) => trio_cells (w := w) (A0 := A0) (A1 := A1) (A2 := A2) (n0 := n0) (c0 := c0) (n1 := n1) (c1 := c1) (n2 := n2) (c2 := c2) (V := V) (by rw [hWB]; exact h))
  obtain ⟨x0, x1, x2⟩ := HCL.out WB (Below.refl _ _)
  have HS := Lib.hid (small_any As none ns cs 0 0 [] WB WB.heap.size ⟨rfl, by omega, fun h => absurd h (by omega)⟩)
  have HSM := Lib.hid hsm
  have HWB := Lib.hid hWB
  have HBB := Lib.hid hBB
  have HF0 := Lib.hid (few_any A0 n0 c0 l0 b0 WB _ (h0.up hBB))
  have HF1 := Lib.hid (few_any A1 n1 c1 l1 b1 WB _ (h1.up hBB))
  have HF2 := Lib.hid (few_any A2 n2 c2 l2 b2 WB _ (h2.up hBB))
  have HFF0 := Lib.hid hf0
  have HFF1 := Lib.hid hf1
  clear hs h0 h1 h2 hsm hWB hBB hf0 hf1
  go_enter Try.func6, Try.ntmps6
  go_wp2_with fail
  rw [show w.alloc (.cells #[.slice A0 n0 c0, .slice A1 n1 c1, .slice A2 n2 c2] 44) = WB from HWB.out]
  go_wp2_with (first
    | (go_at_call 15; refine HS.out.mono ?_; rintro e w8 ⟨rfl, rfl⟩; rw [HSM.out])
    | (go_at_call 16; ((with_reducible refine HF0.out.mono ?_); clear HF0; rintro e w8 ⟨rfl, rfl⟩; rw [HFF0.out]))
    | (go_at_call 16; ((with_reducible refine HF1.out.mono ?_); clear HF1; rintro e w8 ⟨rfl, rfl⟩; rw [HFF1.out]))
    | (go_at_call 17; refine (awake2_any _).mono ?_; rintro e w9 ⟨rfl, hB9⟩; have HB9 := Lib.hid (below_then HBB.out hB9)))
  go_ret
  exact ⟨rfl, HB9.out⟩

set_option maxRecDepth 100000 in
set_option maxHeartbeats 4000000 in
theorem ugr_few2 (As A0 A1 A2 : Option Addr) (ns cs n0 c0 n1 c1 n2 c2 : Nat) (ss : Sg) (l0 l1 l2 : List Hd) (b0 b1 b2 : List Bd) (w : World) (hs : SigAt w w.heap.size As ns ss) (h0 : BindsAt w w.heap.size A0 n0 l0 b0) (h1 : BindsAt w w.heap.size A1 n1 l1 b1) (h2 : BindsAt w w.heap.size A2 n2 l2 b2) (hsm : smallOk ns [] = true) (hf0 : fewOk l0 = true) (hf1 : fewOk l1 = true) (hf2 : fewOk l2 = false) :
    Calls Try.prog 6 #[.slice As ns cs, .agg #[.slice A0 n0 c0, .slice A1 n1 c1, .slice A2 n2 c2]] w fun e w' => e = .returned (.bool true) ∧ Below w.heap.size w w' := by
  obtain ⟨WB, hWB⟩ : ∃ WB, trioW w A0 A1 A2 n0 c0 n1 c1 n2 c2 = WB := ⟨_, rfl⟩
  have hBB : Below w.heap.size w WB := by rw [← hWB]; exact bel_al (Below.refl _ _) _
  have HCL := Lib.hid (fun V (h : Below WB.heap.size WB V) => trio_cells (w := w) (A0 := A0) (A1 := A1) (A2 := A2) (n0 := n0) (c0 := c0) (n1 := n1) (c1 := c1) (n2 := n2) (c2 := c2) (V := V) (by rw [hWB]; exact h))
  obtain ⟨x0, x1, x2⟩ := HCL.out WB (Below.refl _ _)
  have HS := Lib.hid (small_any As none ns cs 0 0 [] WB WB.heap.size ⟨rfl, by omega, fun h => absurd h (by omega)⟩)
  have HSM := Lib.hid hsm
  have HWB := Lib.hid hWB
  have HBB := Lib.hid hBB
  have HF0 := Lib.hid (few_any A0 n0 c0 l0 b0 WB _ (h0.up hBB))
  have HF1 := Lib.hid (few_any A1 n1 c1 l1 b1 WB _ (h1.up hBB))
  have HF2 := Lib.hid (few_any A2 n2 c2 l2 b2 WB _ (h2.up hBB))
  have HFF0 := Lib.hid hf0
  have HFF1 := Lib.hid hf1
  have HFF2 := Lib.hid hf2
  clear hs h0 h1 h2 hsm hWB hBB hf0 hf1 hf2
  go_enter Try.func6, Try.ntmps6
  go_wp2_with fail
  rw [show w.alloc (.cells #[.slice A0 n0 c0, .slice A1 n1 c1, .slice A2 n2 c2] 44) = WB from HWB.out]
  go_wp2_with (first
    | (go_at_call 15; refine HS.out.mono ?_; rintro e w8 ⟨rfl, rfl⟩; rw [HSM.out])
    | (go_at_call 16; ((with_reducible refine HF0.out.mono ?_); clear HF0; rintro e w8 ⟨rfl, rfl⟩; rw [HFF0.out]))
    | (go_at_call 16; ((with_reducible refine HF1.out.mono ?_); clear HF1; rintro e w8 ⟨rfl, rfl⟩; rw [HFF1.out]))
    | (go_at_call 16; ((with_reducible refine HF2.out.mono ?_); clear HF2; rintro e w8 ⟨rfl, rfl⟩; rw [HFF2.out]))
    | (go_at_call 17; refine (awake2_any _).mono ?_; rintro e w9 ⟨rfl, hB9⟩; have HB9 := Lib.hid (below_then HBB.out hB9)))
  go_ret
  exact ⟨rfl, HB9.out⟩

set_option maxRecDepth 100000 in
set_option maxHeartbeats 4000000 in
theorem ugr_e (As A0 A1 A2 : Option Addr) (ns cs n0 c0 n1 c1 n2 c2 : Nat) (ss : Sg) (l0 l1 l2 : List Hd) (b0 b1 b2 : List Bd) (w : World) (hs : SigAt w w.heap.size As ns ss) (h0 : BindsAt w w.heap.size A0 n0 l0 b0) (h1 : BindsAt w w.heap.size A1 n1 l1 b1) (h2 : BindsAt w w.heap.size A2 n2 l2 b2) (hsm : smallOk ns [] = true) (hf0 : fewOk l0 = true) (hf1 : fewOk l1 = true) (hf2 : fewOk l2 = true) (hne : (compZ ss b0 b1).2 ≠ 0) :
    Calls Try.prog 6 #[.slice As ns cs, .agg #[.slice A0 n0 c0, .slice A1 n1 c1, .slice A2 n2 c2]] w fun e w' => e = .returned (.bool true) ∧ Below w.heap.size w w' := by
  obtain ⟨WB, hWB⟩ : ∃ WB, trioW w A0 A1 A2 n0 c0 n1 c1 n2 c2 = WB := ⟨_, rfl⟩
  have hBB : Below w.heap.size w WB := by rw [← hWB]; exact bel_al (Below.refl _ _) _
  have HCL := Lib.hid (fun V (h : Below WB.heap.size WB V) => trio_cells (w := w) (A0 := A0) (A1 := A1) (A2 := A2) (n0 := n0) (c0 := c0) (n1 := n1) (c1 := c1) (n2 := n2) (c2 := c2) (V := V) (by rw [hWB]; exact h))
  obtain ⟨x0, x1, x2⟩ := HCL.out WB (Below.refl _ _)
  have HS := Lib.hid (small_any As none ns cs 0 0 [] WB WB.heap.size ⟨rfl, by omega, fun h => absurd h (by omega)⟩)
  have HSM := Lib.hid hsm
  have HWB := Lib.hid hWB
  have HBB := Lib.hid hBB
  have HF0 := Lib.hid (few_any A0 n0 c0 l0 b0 WB _ (h0.up hBB))
  have HF1 := Lib.hid (few_any A1 n1 c1 l1 b1 WB _ (h1.up hBB))
  have HF2 := Lib.hid (few_any A2 n2 c2 l2 b2 WB _ (h2.up hBB))
  have HFF0 := Lib.hid hf0
  have HFF1 := Lib.hid hf1
  have HFF2 := Lib.hid hf2
  have hn0 : n0 ≤ 1000000 := by
    unfold fewOk at hf0
    simp only [Bool.and_eq_true, decide_eq_true_eq] at hf0
    have := h0.ll
    omega
  have hn1 : n1 ≤ 1000000 := by
    unfold fewOk at hf1
    simp only [Bool.and_eq_true, decide_eq_true_eq] at hf1
    have := h1.ll
    omega
  have hn2 : n2 ≤ 1000000 := by
    unfold fewOk at hf2
    simp only [Bool.and_eq_true, decide_eq_true_eq] at hf2
    have := h2.ll
    omega
  have C1 := Lib.hid (compose_any As A0 A1 ns cs n0 c0 n1 c1 ss l0 l1 b0 b1 WB (hs.up hBB) (h0.up hBB) (h1.up hBB) hn0 hn1)
  have C2 := Lib.hid (fun V (h : Below w.heap.size w V) => compose_any As A1 A2 ns cs n1 c1 n2 c2 ss l1 l2 b1 b2 V (hs.up h) (h1.up h) (h2.up h) hn1 hn2)
  obtain ⟨⟨ca', er⟩, hR⟩ : ∃ R, compZ ss b0 b1 = R := ⟨_, rfl⟩
  rw [hR] at hne
  simp only [hR] at C1
  simp only at hne C1
  obtain ⟨⟨cb', er2⟩, hR2⟩ : ∃ R, compZ ss b1 b2 = R := ⟨_, rfl⟩
  simp only [hR2] at C2
  have hne' : (er != 0) = true := by simpa using hne
  clear hs h0 h1 h2 hsm hWB hBB hf0 hf1 hf2 hR hR2 hne
  go_enter Try.func6, Try.ntmps6
  go_wp2_with fail
  rw [show w.alloc (.cells #[.slice A0 n0 c0, .slice A1 n1 c1, .slice A2 n2 c2] 44) = WB from HWB.out]
  go_wp2_with (first
    | (go_at_call 15; refine HS.out.mono ?_; rintro e w8 ⟨rfl, rfl⟩; rw [HSM.out])
    | (go_at_call 16; ((with_reducible refine HF0.out.mono ?_); clear HF0; rintro e w8 ⟨rfl, rfl⟩; rw [HFF0.out]))
    | (go_at_call 16; ((with_reducible refine HF1.out.mono ?_); clear HF1; rintro e w8 ⟨rfl, rfl⟩; rw [HFF1.out]))
    | (go_at_call 16; ((with_reducible refine HF2.out.mono ?_); clear HF2; rintro e w8 ⟨rfl, rfl⟩; rw [HFF2.out]))
    | (go_at_call 29; ((with_reducible refine C1.out.mono ?_); clear C1; rintro e V1 ⟨Aa, na, ca, la, rfl, hI1, hB1⟩; obtain ⟨p0, p1, p2⟩ := HCL.out V1 hB1; have HI1 := Lib.hid hI1; have HQ1 := Lib.hid hB1; have HB1 := Lib.hid (below_then HBB.out hB1); clear hI1 hB1))
    | (go_at_call 29; ((with_reducible refine (C2.out _ HB1.out).mono ?_); clear C2; rintro e V2 ⟨Ab, nb, cb, lb, rfl, hI2, hB2⟩; obtain ⟨r0, r1, r2⟩ := HCL.out V2 (below_then HQ1.out hB2); have HI12 := Lib.hid (HI1.out.up hB2); have HI2 := Lib.hid hI2; have HQ2 := Lib.hid (below_then HQ1.out hB2); have HB2 := Lib.hid (below_then HB1.out hB2); clear hI2 hB2))
    | (go_at_call 17; refine (awake2_any _).mono ?_; rintro e w9 ⟨rfl, hB9⟩; have HB9 := Lib.hid (below_then HB2.out hB9)))
  go_ret
  exact ⟨rfl, HB9.out⟩

set_option maxRecDepth 100000 in
set_option maxHeartbeats 4000000 in
theorem ugr_f (As A0 A1 A2 : Option Addr) (ns cs n0 c0 n1 c1 n2 c2 : Nat) (ss : Sg) (l0 l1 l2 : List Hd) (b0 b1 b2 : List Bd) (w : World) (hs : SigAt w w.heap.size As ns ss) (h0 : BindsAt w w.heap.size A0 n0 l0 b0) (h1 : BindsAt w w.heap.size A1 n1 l1 b1) (h2 : BindsAt w w.heap.size A2 n2 l2 b2) (hsm : smallOk ns [] = true) (hf0 : fewOk l0 = true) (hf1 : fewOk l1 = true) (hf2 : fewOk l2 = true) (hz : (compZ ss b0 b1).2 = 0) (hne : (compZ ss b1 b2).2 ≠ 0) :
    Calls Try.prog 6 #[.slice As ns cs, .agg #[.slice A0 n0 c0, .slice A1 n1 c1, .slice A2 n2 c2]] w fun e w' => e = .returned (.bool true) ∧ Below w.heap.size w w' := by
  obtain ⟨WB, hWB⟩ : ∃ WB, trioW w A0 A1 A2 n0 c0 n1 c1 n2 c2 = WB := ⟨_, rfl⟩
  have hBB : Below w.heap.size w WB := by rw [← hWB]; exact bel_al (Below.refl _ _) _
  have HCL := Lib.hid (fun V (h : Below WB.heap.size WB V) => trio_cells (w := w) (A0 := A0) (A1 := A1) (A2 := A2) (n0 := n0) (c0 := c0) (n1 := n1) (c1 := c1) (n2 := n2) (c2 := c2) (V := V) (by rw [hWB]; exact h))
  obtain ⟨x0, x1, x2⟩ := HCL.out WB (Below.refl _ _)
  have HS := Lib.hid (small_any As none ns cs 0 0 [] WB WB.heap.size ⟨rfl, by omega, fun h => absurd h (by omega)⟩)
  have HSM := Lib.hid hsm
  have HWB := Lib.hid hWB
  have HBB := Lib.hid hBB
  have HF0 := Lib.hid (few_any A0 n0 c0 l0 b0 WB _ (h0.up hBB))
  have HF1 := Lib.hid (few_any A1 n1 c1 l1 b1 WB _ (h1.up hBB))
  have HF2 := Lib.hid (few_any A2 n2 c2 l2 b2 WB _ (h2.up hBB))
  have HFF0 := Lib.hid hf0
  have HFF1 := Lib.hid hf1
  have HFF2 := Lib.hid hf2
  have hn0 : n0 ≤ 1000000 := by
    unfold fewOk at hf0
    simp only [Bool.and_eq_true, decide_eq_true_eq] at hf0
    have := h0.ll
    omega
  have hn1 : n1 ≤ 1000000 := by
    unfold fewOk at hf1
    simp only [Bool.and_eq_true, decide_eq_true_eq] at hf1
    have := h1.ll
    omega
  have hn2 : n2 ≤ 1000000 := by
    unfold fewOk at hf2
    simp only [Bool.and_eq_true, decide_eq_true_eq] at hf2
    have := h2.ll
    omega
  have C1 := Lib.hid (compose_any As A0 A1 ns cs n0 c0 n1 c1 ss l0 l1 b0 b1 WB (hs.up hBB) (h0.up hBB) (h1.up hBB) hn0 hn1)
  have C2 := Lib.hid (fun V (h : Below w.heap.size w V) => compose_any As A1 A2 ns cs n1 c1 n2 c2 ss l1 l2 b1 b2 V (hs.up h) (h1.up h) (h2.up h) hn1 hn2)
  obtain ⟨_, _, _, hR⟩ := compZ_zero hz
  obtain ⟨ca', hca⟩ : ∃ ca', compB b0 b1 = ca' := ⟨_, rfl⟩
  rw [hca] at hR
  simp only [hR] at C1
  obtain ⟨⟨cb', er2⟩, hR2⟩ : ∃ R, compZ ss b1 b2 = R := ⟨_, rfl⟩
  rw [hR2] at hne
  simp only [hR2] at C2
  simp only at hne C2
  have hne' : (er2 != 0) = true := by simpa using hne
  clear hs h0 h1 h2 hsm hWB hBB hf0 hf1 hf2 hR hR2 hne hz hca
  go_enter Try.func6, Try.ntmps6
  go_wp2_with fail
  rw [show w.alloc (.cells #[.slice A0 n0 c0, .slice A1 n1 c1, .slice A2 n2 c2] 44) = WB from HWB.out]
  go_wp2_with (first
    | (go_at_call 15; refine HS.out.mono ?_; rintro e w8 ⟨rfl, rfl⟩; rw [HSM.out])
    | (go_at_call 16; ((with_reducible refine HF0.out.mono ?_); clear HF0; rintro e w8 ⟨rfl, rfl⟩; rw [HFF0.out]))
    | (go_at_call 16; ((with_reducible refine HF1.out.mono ?_); clear HF1; rintro e w8 ⟨rfl, rfl⟩; rw [HFF1.out]))
    | (go_at_call 16; ((with_reducible refine HF2.out.mono ?_); clear HF2; rintro e w8 ⟨rfl, rfl⟩; rw [HFF2.out]))
    | (go_at_call 29; ((with_reducible refine C1.out.mono ?_); clear C1; rintro e V1 ⟨Aa, na, ca, la, rfl, hI1, hB1⟩; obtain ⟨p0, p1, p2⟩ := HCL.out V1 hB1; have HI1 := Lib.hid hI1; have HQ1 := Lib.hid hB1; have HB1 := Lib.hid (below_then HBB.out hB1); clear hI1 hB1))
    | (go_at_call 29; ((with_reducible refine (C2.out _ HB1.out).mono ?_); clear C2; rintro e V2 ⟨Ab, nb, cb, lb, rfl, hI2, hB2⟩; obtain ⟨r0, r1, r2⟩ := HCL.out V2 (below_then HQ1.out hB2); have HI12 := Lib.hid (HI1.out.up hB2); have HI2 := Lib.hid hI2; have HQ2 := Lib.hid (below_then HQ1.out hB2); have HB2 := Lib.hid (below_then HB1.out hB2); clear hI2 hB2))
    | (go_at_call 17; refine (awake2_any _).mono ?_; rintro e w9 ⟨rfl, hB9⟩; have HB9 := Lib.hid (below_then HB2.out hB9)))
  go_ret
  exact ⟨rfl, HB9.out⟩

set_option maxRecDepth 100000 in
set_option maxHeartbeats 4000000 in
theorem ugr_g0 (As A0 A1 A2 : Option Addr) (ns cs n0 c0 n1 c1 n2 c2 : Nat) (ss : Sg) (l0 l1 l2 : List Hd) (b0 b1 b2 : List Bd) (w : World) (hs : SigAt w w.heap.size As ns ss) (h0 : BindsAt w w.heap.size A0 n0 l0 b0) (h1 : BindsAt w w.heap.size A1 n1 l1 b1) (h2 : BindsAt w w.heap.size A2 n2 l2 b2) (hsm : smallOk ns [] = true) (hf0 : fewOk l0 = true) (hf1 : fewOk l1 = true) (hf2 : fewOk l2 = true) (hz : (compZ ss b0 b1).2 = 0) (hz2 : (compZ ss b1 b2).2 = 0) (hg : (compZ ss (compB b0 b1) b2).2 ≠ 0) (hq0 : renB ss b0 = false) :
    Calls Try.prog 6 #[.slice As ns cs, .agg #[.slice A0 n0 c0, .slice A1 n1 c1, .slice A2 n2 c2]] w fun e w' => e = .returned (.bool true) ∧ Below w.heap.size w w' := by
  obtain ⟨WB, hWB⟩ : ∃ WB, trioW w A0 A1 A2 n0 c0 n1 c1 n2 c2 = WB := ⟨_, rfl⟩
  have hBB : Below w.heap.size w WB := by rw [← hWB]; exact bel_al (Below.refl _ _) _
  have HCL := Lib.hid (fun V (h : Below WB.heap.size WB V) => trio_cells (w := w) (A0 := A0) (A1 := A1) (A2 := A2) (n0 := n0) (c0 := c0) (n1 := n1) (c1 := c1) (n2 := n2) (c2 := c2) (V := V) (by rw [hWB]; exact h))
  obtain ⟨x0, x1, x2⟩ := HCL.out WB (Below.refl _ _)
  have HS := Lib.hid (small_any As none ns cs 0 0 [] WB WB.heap.size ⟨rfl, by omega, fun h => absurd h (by omega)⟩)
  have HSM := Lib.hid hsm
  have HWB := Lib.hid hWB
  have HBB := Lib.hid hBB
  have HF0 := Lib.hid (few_any A0 n0 c0 l0 b0 WB _ (h0.up hBB))
  have HF1 := Lib.hid (few_any A1 n1 c1 l1 b1 WB _ (h1.up hBB))
  have HF2 := Lib.hid (few_any A2 n2 c2 l2 b2 WB _ (h2.up hBB))
  have HFF0 := Lib.hid hf0
  have HFF1 := Lib.hid hf1
  have HFF2 := Lib.hid hf2
  have hn0 : n0 ≤ 1000000 := by
    unfold fewOk at hf0
    simp only [Bool.and_eq_true, decide_eq_true_eq] at hf0
    have := h0.ll
    omega
  have hn1 : n1 ≤ 1000000 := by
    unfold fewOk at hf1
    simp only [Bool.and_eq_true, decide_eq_true_eq] at hf1
    have := h1.ll
    omega
  have hn2 : n2 ≤ 1000000 := by
    unfold fewOk at hf2
    simp only [Bool.and_eq_true, decide_eq_true_eq] at hf2
    have := h2.ll
    omega
  have C1 := Lib.hid (compose_any As A0 A1 ns cs n0 c0 n1 c1 ss l0 l1 b0 b1 WB (hs.up hBB) (h0.up hBB) (h1.up hBB) hn0 hn1)
  have C2 := Lib.hid (fun V (h : Below w.heap.size w V) => compose_any As A1 A2 ns cs n1 c1 n2 c2 ss l1 l2 b1 b2 V (hs.up h) (h1.up h) (h2.up h) hn1 hn2)
  have hlen1 := compB_len b0 b1
  have hlen2 := compB_len b1 b2
  obtain ⟨z1, z2, z3, hR⟩ := compZ_zero hz
  obtain ⟨y1, y2, y3, hR2⟩ := compZ_zero hz2
  have hassoc := comp_assoc (a := b0) (b := b1) (c := b2) z1
  have hrent := fun h1 h2 => ren_trio hz h1 h2
  obtain ⟨a, ha⟩ : ∃ a, compB b0 b1 = a := ⟨_, rfl⟩
  obtain ⟨b, hb⟩ : ∃ b, compB b1 b2 = b := ⟨_, rfl⟩
  rw [ha] at hR hlen1 hassoc hrent
  rw [hb] at hR2 hlen2 hassoc
  simp only [hR] at C1
  simp only [hR2] at C2
  have C3 := Lib.hid (fun V (Aa : Option Addr) (na ca : Nat) (la : List Hd) (h : Below w.heap.size w V) (hI : BindsAt V V.heap.size Aa na la a) => compose_any As Aa A2 ns cs na ca n2 c2 ss la l2 a b2 V (hs.up h) hI (h2.up h) (by have := hI.len; omega) hn2)
  have C4 := Lib.hid (fun V (Ab : Option Addr) (nb cb : Nat) (lb : List Hd) (h : Below w.heap.size w V) (hI : BindsAt V V.heap.size Ab nb lb b) => compose_any As A0 Ab ns cs n0 c0 nb cb ss l0 lb b0 b V (hs.up h) (h0.up h) hI hn0 (by have := hI.len; omega))
  have C5 := Lib.hid (fun V (h : Below w.heap.size w V) => renaming_any As A0 ns cs n0 c0 ss l0 b0 V (hs.up h) (h0.up h) hn0)
  have C6 := Lib.hid (fun V (h : Below w.heap.size w V) => renaming_any As A1 ns cs n1 c1 ss l1 b1 V (hs.up h) (h1.up h) hn1)
  have C7 := Lib.hid (fun V (Aa : Option Addr) (na ca : Nat) (la : List Hd) (h : Below w.heap.size w V) (hI : BindsAt V V.heap.size Aa na la a) => renaming_any As Aa ns cs na ca ss la a V (hs.up h) hI (by have := hI.len; omega))
  rw [ha] at hg
  obtain ⟨⟨cc', er⟩, hR3⟩ : ∃ R, compZ ss a b2 = R := ⟨_, rfl⟩
  rw [hR3] at hg
  simp only [hR3] at C3
  simp only at hg C3
  obtain ⟨⟨cd', er2⟩, hR4⟩ : ∃ R, compZ ss b0 b = R := ⟨_, rfl⟩
  simp only [hR4] at C4
  have hge : (er == 0) = false := by simpa using hg
  simp only [hq0] at C5
  clear hs h0 h1 h2 hsm hWB hBB hf0 hf1 hf2 hz hz2 hlen1 hlen2 z1 z2 z3 y1 y2 y3 hR hR2 hassoc hrent ha hb hg hR3 hR4 hq0
  go_enter Try.func6, Try.ntmps6
  go_wp2_with fail
  rw [show w.alloc (.cells #[.slice A0 n0 c0, .slice A1 n1 c1, .slice A2 n2 c2] 44) = WB from HWB.out]
  go_wp2_with (first
    | (go_at_call 15; refine HS.out.mono ?_; rintro e w8 ⟨rfl, rfl⟩; rw [HSM.out])
    | (go_at_call 16; ((with_reducible refine HF0.out.mono ?_); clear HF0; rintro e w8 ⟨rfl, rfl⟩; rw [HFF0.out]))
    | (go_at_call 16; ((with_reducible refine HF1.out.mono ?_); clear HF1; rintro e w8 ⟨rfl, rfl⟩; rw [HFF1.out]))
    | (go_at_call 16; ((with_reducible refine HF2.out.mono ?_); clear HF2; rintro e w8 ⟨rfl, rfl⟩; rw [HFF2.out]))
    | (go_at_call 29; ((with_reducible refine C1.out.mono ?_); clear C1; rintro e V1 ⟨Aa, na, ca, la, rfl, hI1, hB1⟩; obtain ⟨p0, p1, p2⟩ := HCL.out V1 hB1; have HI1 := Lib.hid hI1; have HQ1 := Lib.hid hB1; have HB1 := Lib.hid (below_then HBB.out hB1); clear hI1 hB1))
    | (go_at_call 29; ((with_reducible refine (C2.out _ HB1.out).mono ?_); clear C2; rintro e V2 ⟨Ab, nb, cb, lb, rfl, hI2, hB2⟩; obtain ⟨r0, r1, r2⟩ := HCL.out V2 (below_then HQ1.out hB2); have HI12 := Lib.hid (HI1.out.up hB2); have HI2 := Lib.hid hI2; have HQ2 := Lib.hid (below_then HQ1.out hB2); have HB2 := Lib.hid (below_then HB1.out hB2); clear hI2 hB2))
    | (go_at_call 29; ((with_reducible refine (C3.out _ _ _ _ _ HB2.out HI12.out).mono ?_); clear C3; rintro e V3 ⟨Ac, nc, cc, lc, rfl, hI3, hB3⟩; obtain ⟨s0, s1, s2⟩ := HCL.out V3 (below_then HQ2.out hB3); have HI3 := Lib.hid hI3; have HI13 := Lib.hid (HI12.out.up hB3); have HI23 := Lib.hid (HI2.out.up hB3); have HQ3 := Lib.hid (below_then HQ2.out hB3); have HB3 := Lib.hid (below_then HB2.out hB3); clear hI3 hB3))
    | (go_at_call 29; ((with_reducible refine (C4.out _ _ _ _ _ HB3.out HI23.out).mono ?_); clear C4; rintro e V4 ⟨Ad, nd, cd, ld, rfl, hI4, hB4⟩; obtain ⟨t0, t1, t2⟩ := HCL.out V4 (below_then HQ3.out hB4); have HI4 := Lib.hid hI4; have HI34 := Lib.hid (HI3.out.up hB4); have HI14 := Lib.hid (HI13.out.up hB4); have HQ4 := Lib.hid (below_then HQ3.out hB4); have HB4 := Lib.hid (below_then HB3.out hB4); clear hI4 hB4))
    | (go_at_call 22; ((with_reducible refine (C5.out _ HB4.out).mono ?_); clear C5; rintro e V6 ⟨rfl, hB6⟩; obtain ⟨v0, v1, v2⟩ := HCL.out V6 (below_then HQ4.out hB6); have HI16 := Lib.hid (HI14.out.up hB6); have HQ6 := Lib.hid (below_then HQ4.out hB6); have HB6 := Lib.hid (below_then HB4.out hB6); clear hB6))
    | (go_at_call 17; refine (awake2_any _).mono ?_; rintro e w9 ⟨rfl, hB9⟩; have HB9 := Lib.hid (below_then HB6.out hB9)))
  go_ret
  exact ⟨rfl, HB9.out⟩

set_option maxRecDepth 100000 in
set_option maxHeartbeats 4000000 in
theorem ugr_g1 (As A0 A1 A2 : Option Addr) (ns cs n0 c0 n1 c1 n2 c2 : Nat) (ss : Sg) (l0 l1 l2 : List Hd) (b0 b1 b2 : List Bd) (w : World) (hs : SigAt w w.heap.size As ns ss) (h0 : BindsAt w w.heap.size A0 n0 l0 b0) (h1 : BindsAt w w.heap.size A1 n1 l1 b1) (h2 : BindsAt w w.heap.size A2 n2 l2 b2) (hsm : smallOk ns [] = true) (hf0 : fewOk l0 = true) (hf1 : fewOk l1 = true) (hf2 : fewOk l2 = true) (hz : (compZ ss b0 b1).2 = 0) (hz2 : (compZ ss b1 b2).2 = 0) (hg : (compZ ss (compB b0 b1) b2).2 ≠ 0) (hq0 : renB ss b0 = true) (hq1 : renB ss b1 = false) :
    Calls Try.prog 6 #[.slice As ns cs, .agg #[.slice A0 n0 c0, .slice A1 n1 c1, .slice A2 n2 c2]] w fun e w' => e = .returned (.bool true) ∧ Below w.heap.size w w' := by
  obtain ⟨WB, hWB⟩ : ∃ WB, trioW w A0 A1 A2 n0 c0 n1 c1 n2 c2 = WB := ⟨_, rfl⟩
  have hBB : Below w.heap.size w WB := by rw [← hWB]; exact bel_al (Below.refl _ _) _
  have HCL := Lib.hid (fun V (h : Below WB.heap.size WB V) => trio_cells (w := w) (A0 := A0) (A1 := A1) (A2 := A2) (n0 := n0) (c0 := c0) (n1 := n1) (c1 := c1) (n2 := n2) (c2 := c2) (V := V) (by rw [hWB]; exact h))
  obtain ⟨x0, x1, x2⟩ := HCL.out WB (Below.refl _ _)
  have HS := Lib.hid (small_any As none ns cs 0 0 [] WB WB.heap.size ⟨rfl, by omega, fun h => absurd h (by omega)⟩)
  have HSM := Lib.hid hsm
  have HWB := Lib.hid hWB
  have HBB := Lib.hid hBB
  have HF0 := Lib.hid (few_any A0 n0 c0 l0 b0 WB _ (h0.up hBB))
  have HF1 := Lib.hid (few_any A1 n1 c1 l1 b1 WB _ (h1.up hBB))
  have HF2 := Lib.hid (few_any A2 n2 c2 l2 b2 WB _ (h2.up hBB))
  have HFF0 := Lib.hid hf0
  have HFF1 := Lib.hid hf1
  have HFF2 := Lib.hid hf2
  have hn0 : n0 ≤ 1000000 := by
    unfold fewOk at hf0
    simp only [Bool.and_eq_true, decide_eq_true_eq] at hf0
    have := h0.ll
    omega
  have hn1 : n1 ≤ 1000000 := by
    unfold fewOk at hf1
    simp only [Bool.and_eq_true, decide_eq_true_eq] at hf1
    have := h1.ll
    omega
  have hn2 : n2 ≤ 1000000 := by
    unfold fewOk at hf2
    simp only [Bool.and_eq_true, decide_eq_true_eq] at hf2
    have := h2.ll
    omega
  have C1 := Lib.hid (compose_any As A0 A1 ns cs n0 c0 n1 c1 ss l0 l1 b0 b1 WB (hs.up hBB) (h0.up hBB) (h1.up hBB) hn0 hn1)
  have C2 := Lib.hid (fun V (h : Below w.heap.size w V) => compose_any As A1 A2 ns cs n1 c1 n2 c2 ss l1 l2 b1 b2 V (hs.up h) (h1.up h) (h2.up h) hn1 hn2)
  have hlen1 := compB_len b0 b1
  have hlen2 := compB_len b1 b2
  obtain ⟨z1, z2, z3, hR⟩ := compZ_zero hz
  obtain ⟨y1, y2, y3, hR2⟩ := compZ_zero hz2
  have hassoc := comp_assoc (a := b0) (b := b1) (c := b2) z1
  have hrent := fun h1 h2 => ren_trio hz h1 h2
  obtain ⟨a, ha⟩ : ∃ a, compB b0 b1 = a := ⟨_, rfl⟩
  obtain ⟨b, hb⟩ : ∃ b, compB b1 b2 = b := ⟨_, rfl⟩
  rw [ha] at hR hlen1 hassoc hrent
  rw [hb] at hR2 hlen2 hassoc
  simp only [hR] at C1
  simp only [hR2] at C2
  have C3 := Lib.hid (fun V (Aa : Option Addr) (na ca : Nat) (la : List Hd) (h : Below w.heap.size w V) (hI : BindsAt V V.heap.size Aa na la a) => compose_any As Aa A2 ns cs na ca n2 c2 ss la l2 a b2 V (hs.up h) hI (h2.up h) (by have := hI.len; omega) hn2)
  have C4 := Lib.hid (fun V (Ab : Option Addr) (nb cb : Nat) (lb : List Hd) (h : Below w.heap.size w V) (hI : BindsAt V V.heap.size Ab nb lb b) => compose_any As A0 Ab ns cs n0 c0 nb cb ss l0 lb b0 b V (hs.up h) (h0.up h) hI hn0 (by have := hI.len; omega))
  have C5 := Lib.hid (fun V (h : Below w.heap.size w V) => renaming_any As A0 ns cs n0 c0 ss l0 b0 V (hs.up h) (h0.up h) hn0)
  have C6 := Lib.hid (fun V (h : Below w.heap.size w V) => renaming_any As A1 ns cs n1 c1 ss l1 b1 V (hs.up h) (h1.up h) hn1)
  have C7 := Lib.hid (fun V (Aa : Option Addr) (na ca : Nat) (la : List Hd) (h : Below w.heap.size w V) (hI : BindsAt V V.heap.size Aa na la a) => renaming_any As Aa ns cs na ca ss la a V (hs.up h) hI (by have := hI.len; omega))
  rw [ha] at hg
  obtain ⟨⟨cc', er⟩, hR3⟩ : ∃ R, compZ ss a b2 = R := ⟨_, rfl⟩
  rw [hR3] at hg
  simp only [hR3] at C3
  simp only at hg C3
  obtain ⟨⟨cd', er2⟩, hR4⟩ : ∃ R, compZ ss b0 b = R := ⟨_, rfl⟩
  simp only [hR4] at C4
  have hge : (er == 0) = false := by simpa using hg
  simp only [hq0] at C5
  simp only [hq1] at C6
  clear hs h0 h1 h2 hsm hWB hBB hf0 hf1 hf2 hz hz2 hlen1 hlen2 z1 z2 z3 y1 y2 y3 hR hR2 hassoc hrent ha hb hg hR3 hR4 hq0 hq1
  go_enter Try.func6, Try.ntmps6
  go_wp2_with fail
  rw [show w.alloc (.cells #[.slice A0 n0 c0, .slice A1 n1 c1, .slice A2 n2 c2] 44) = WB from HWB.out]
  go_wp2_with (first
    | (go_at_call 15; refine HS.out.mono ?_; rintro e w8 ⟨rfl, rfl⟩; rw [HSM.out])
    | (go_at_call 16; ((with_reducible refine HF0.out.mono ?_); clear HF0; rintro e w8 ⟨rfl, rfl⟩; rw [HFF0.out]))
    | (go_at_call 16; ((with_reducible refine HF1.out.mono ?_); clear HF1; rintro e w8 ⟨rfl, rfl⟩; rw [HFF1.out]))
    | (go_at_call 16; ((with_reducible refine HF2.out.mono ?_); clear HF2; rintro e w8 ⟨rfl, rfl⟩; rw [HFF2.out]))
    | (go_at_call 29; ((with_reducible refine C1.out.mono ?_); clear C1; rintro e V1 ⟨Aa, na, ca, la, rfl, hI1, hB1⟩; obtain ⟨p0, p1, p2⟩ := HCL.out V1 hB1; have HI1 := Lib.hid hI1; have HQ1 := Lib.hid hB1; have HB1 := Lib.hid (below_then HBB.out hB1); clear hI1 hB1))
    | (go_at_call 29; ((with_reducible refine (C2.out _ HB1.out).mono ?_); clear C2; rintro e V2 ⟨Ab, nb, cb, lb, rfl, hI2, hB2⟩; obtain ⟨r0, r1, r2⟩ := HCL.out V2 (below_then HQ1.out hB2); have HI12 := Lib.hid (HI1.out.up hB2); have HI2 := Lib.hid hI2; have HQ2 := Lib.hid (below_then HQ1.out hB2); have HB2 := Lib.hid (below_then HB1.out hB2); clear hI2 hB2))
    | (go_at_call 29; ((with_reducible refine (C3.out _ _ _ _ _ HB2.out HI12.out).mono ?_); clear C3; rintro e V3 ⟨Ac, nc, cc, lc, rfl, hI3, hB3⟩; obtain ⟨s0, s1, s2⟩ := HCL.out V3 (below_then HQ2.out hB3); have HI3 := Lib.hid hI3; have HI13 := Lib.hid (HI12.out.up hB3); have HI23 := Lib.hid (HI2.out.up hB3); have HQ3 := Lib.hid (below_then HQ2.out hB3); have HB3 := Lib.hid (below_then HB2.out hB3); clear hI3 hB3))
    | (go_at_call 29; ((with_reducible refine (C4.out _ _ _ _ _ HB3.out HI23.out).mono ?_); clear C4; rintro e V4 ⟨Ad, nd, cd, ld, rfl, hI4, hB4⟩; obtain ⟨t0, t1, t2⟩ := HCL.out V4 (below_then HQ3.out hB4); have HI4 := Lib.hid hI4; have HI34 := Lib.hid (HI3.out.up hB4); have HI14 := Lib.hid (HI13.out.up hB4); have HQ4 := Lib.hid (below_then HQ3.out hB4); have HB4 := Lib.hid (below_then HB3.out hB4); clear hI4 hB4))
    | (go_at_call 22; ((with_reducible refine (C5.out _ HB4.out).mono ?_); clear C5; rintro e V6 ⟨rfl, hB6⟩; obtain ⟨v0, v1, v2⟩ := HCL.out V6 (below_then HQ4.out hB6); have HI16 := Lib.hid (HI14.out.up hB6); have HQ6 := Lib.hid (below_then HQ4.out hB6); have HB6 := Lib.hid (below_then HB4.out hB6); clear hB6))
    | (go_at_call 22; ((with_reducible refine (C6.out _ HB6.out).mono ?_); clear C6; rintro e V7 ⟨rfl, hB7⟩; have HI17 := Lib.hid (HI16.out.up hB7); have HB7 := Lib.hid (below_then HB6.out hB7); clear hB7))
    | (go_at_call 17; refine (awake2_any _).mono ?_; rintro e w9 ⟨rfl, hB9⟩; have HB9 := Lib.hid (below_then HB7.out hB9)))
  go_ret
  exact ⟨rfl, HB9.out⟩

set_option maxRecDepth 100000 in
set_option maxHeartbeats 4000000 in
theorem ugr_g2 (As A0 A1 A2 : Option Addr) (ns cs n0 c0 n1 c1 n2 c2 : Nat) (ss : Sg) (l0 l1 l2 : List Hd) (b0 b1 b2 : List Bd) (w : World) (hs : SigAt w w.heap.size As ns ss) (h0 : BindsAt w w.heap.size A0 n0 l0 b0) (h1 : BindsAt w w.heap.size A1 n1 l1 b1) (h2 : BindsAt w w.heap.size A2 n2 l2 b2) (hsm : smallOk ns [] = true) (hf0 : fewOk l0 = true) (hf1 : fewOk l1 = true) (hf2 : fewOk l2 = true) (hz : (compZ ss b0 b1).2 = 0) (hz2 : (compZ ss b1 b2).2 = 0) (hg : (compZ ss (compB b0 b1) b2).2 ≠ 0) (hq0 : renB ss b0 = true) (hq1 : renB ss b1 = true) :
    Calls Try.prog 6 #[.slice As ns cs, .agg #[.slice A0 n0 c0, .slice A1 n1 c1, .slice A2 n2 c2]] w fun e w' => e = .returned (.bool true) ∧ Below w.heap.size w w' := by
  obtain ⟨WB, hWB⟩ : ∃ WB, trioW w A0 A1 A2 n0 c0 n1 c1 n2 c2 = WB := ⟨_, rfl⟩
  have hBB : Below w.heap.size w WB := by rw [← hWB]; exact bel_al (Below.refl _ _) _
  have HCL := Lib.hid (fun V (h : Below WB.heap.size WB V) => trio_cells (w := w) (A0 := A0) (A1 := A1) (A2 := A2) (n0 := n0) (c0 := c0) (n1 := n1) (c1 := c1) (n2 := n2) (c2 := c2) (V := V) (by rw [hWB]; exact h))
  obtain ⟨x0, x1, x2⟩ := HCL.out WB (Below.refl _ _)
  have HS := Lib.hid (small_any As none ns cs 0 0 [] WB WB.heap.size ⟨rfl, by omega, fun h => absurd h (by omega)⟩)
  have HSM := Lib.hid hsm
  have HWB := Lib.hid hWB
  have HBB := Lib.hid hBB
  have HF0 := Lib.hid (few_any A0 n0 c0 l0 b0 WB _ (h0.up hBB))
  have HF1 := Lib.hid (few_any A1 n1 c1 l1 b1 WB _ (h1.up hBB))
  have HF2 := Lib.hid (few_any A2 n2 c2 l2 b2 WB _ (h2.up hBB))
  have HFF0 := Lib.hid hf0
  have HFF1 := Lib.hid hf1
  have HFF2 := Lib.hid hf2
  have hn0 : n0 ≤ 1000000 := by
    unfold fewOk at hf0
    simp only [Bool.and_eq_true, decide_eq_true_eq] at hf0
    have := h0.ll
    omega
  have hn1 : n1 ≤ 1000000 := by
    unfold fewOk at hf1
    simp only [Bool.and_eq_true, decide_eq_true_eq] at hf1
    have := h1.ll
    omega
  have hn2 : n2 ≤ 1000000 := by
    unfold fewOk at hf2
    simp only [Bool.and_eq_true, decide_eq_true_eq] at hf2
    have := h2.ll
    omega
  have C1 := Lib.hid (compose_any As A0 A1 ns cs n0 c0 n1 c1 ss l0 l1 b0 b1 WB (hs.up hBB) (h0.up hBB) (h1.up hBB) hn0 hn1)
  have C2 := Lib.hid (fun V (h : Below w.heap.size w V) => compose_any As A1 A2 ns cs n1 c1 n2 c2 ss l1 l2 b1 b2 V (hs.up h) (h1.up h) (h2.up h) hn1 hn2)
  have hlen1 := compB_len b0 b1
  have hlen2 := compB_len b1 b2
  obtain ⟨z1, z2, z3, hR⟩ := compZ_zero hz
  obtain ⟨y1, y2, y3, hR2⟩ := compZ_zero hz2
  have hassoc := comp_assoc (a := b0) (b := b1) (c := b2) z1
  have hrent := fun h1 h2 => ren_trio hz h1 h2
  obtain ⟨a, ha⟩ : ∃ a, compB b0 b1 = a := ⟨_, rfl⟩
  obtain ⟨b, hb⟩ : ∃ b, compB b1 b2 = b := ⟨_, rfl⟩
  rw [ha] at hR hlen1 hassoc hrent
  rw [hb] at hR2 hlen2 hassoc
  simp only [hR] at C1
  simp only [hR2] at C2
  have C3 := Lib.hid (fun V (Aa : Option Addr) (na ca : Nat) (la : List Hd) (h : Below w.heap.size w V) (hI : BindsAt V V.heap.size Aa na la a) => compose_any As Aa A2 ns cs na ca n2 c2 ss la l2 a b2 V (hs.up h) hI (h2.up h) (by have := hI.len; omega) hn2)
  have C4 := Lib.hid (fun V (Ab : Option Addr) (nb cb : Nat) (lb : List Hd) (h : Below w.heap.size w V) (hI : BindsAt V V.heap.size Ab nb lb b) => compose_any As A0 Ab ns cs n0 c0 nb cb ss l0 lb b0 b V (hs.up h) (h0.up h) hI hn0 (by have := hI.len; omega))
  have C5 := Lib.hid (fun V (h : Below w.heap.size w V) => renaming_any As A0 ns cs n0 c0 ss l0 b0 V (hs.up h) (h0.up h) hn0)
  have C6 := Lib.hid (fun V (h : Below w.heap.size w V) => renaming_any As A1 ns cs n1 c1 ss l1 b1 V (hs.up h) (h1.up h) hn1)
  have C7 := Lib.hid (fun V (Aa : Option Addr) (na ca : Nat) (la : List Hd) (h : Below w.heap.size w V) (hI : BindsAt V V.heap.size Aa na la a) => renaming_any As Aa ns cs na ca ss la a V (hs.up h) hI (by have := hI.len; omega))
  rw [ha] at hg
  obtain ⟨⟨cc', er⟩, hR3⟩ : ∃ R, compZ ss a b2 = R := ⟨_, rfl⟩
  rw [hR3] at hg
  simp only [hR3] at C3
  simp only at hg C3
  obtain ⟨⟨cd', er2⟩, hR4⟩ : ∃ R, compZ ss b0 b = R := ⟨_, rfl⟩
  simp only [hR4] at C4
  have hge : (er == 0) = false := by simpa using hg
  have hq2 := hrent hq0 hq1
  simp only [hq0] at C5
  simp only [hq1] at C6
  simp only [hq2] at C7
  clear hs h0 h1 h2 hsm hWB hBB hf0 hf1 hf2 hz hz2 hlen1 hlen2 z1 z2 z3 y1 y2 y3 hR hR2 hassoc hrent ha hb hg hR3 hR4 hq0 hq1 hq2
  go_enter Try.func6, Try.ntmps6
  go_wp2_with fail
  rw [show w.alloc (.cells #[.slice A0 n0 c0, .slice A1 n1 c1, .slice A2 n2 c2] 44) = WB from HWB.out]
  go_wp2_with (first
    | (go_at_call 15; refine HS.out.mono ?_; rintro e w8 ⟨rfl, rfl⟩; rw [HSM.out])
    | (go_at_call 16; ((with_reducible refine HF0.out.mono ?_); clear HF0; rintro e w8 ⟨rfl, rfl⟩; rw [HFF0.out]))
    | (go_at_call 16; ((with_reducible refine HF1.out.mono ?_); clear HF1; rintro e w8 ⟨rfl, rfl⟩; rw [HFF1.out]))
    | (go_at_call 16; ((with_reducible refine HF2.out.mono ?_); clear HF2; rintro e w8 ⟨rfl, rfl⟩; rw [HFF2.out]))
    | (go_at_call 29; ((with_reducible refine C1.out.mono ?_); clear C1; rintro e V1 ⟨Aa, na, ca, la, rfl, hI1, hB1⟩; obtain ⟨p0, p1, p2⟩ := HCL.out V1 hB1; have HI1 := Lib.hid hI1; have HQ1 := Lib.hid hB1; have HB1 := Lib.hid (below_then HBB.out hB1); clear hI1 hB1))
    | (go_at_call 29; ((with_reducible refine (C2.out _ HB1.out).mono ?_); clear C2; rintro e V2 ⟨Ab, nb, cb, lb, rfl, hI2, hB2⟩; obtain ⟨r0, r1, r2⟩ := HCL.out V2 (below_then HQ1.out hB2); have HI12 := Lib.hid (HI1.out.up hB2); have HI2 := Lib.hid hI2; have HQ2 := Lib.hid (below_then HQ1.out hB2); have HB2 := Lib.hid (below_then HB1.out hB2); clear hI2 hB2))
    | (go_at_call 29; ((with_reducible refine (C3.out _ _ _ _ _ HB2.out HI12.out).mono ?_); clear C3; rintro e V3 ⟨Ac, nc, cc, lc, rfl, hI3, hB3⟩; obtain ⟨s0, s1, s2⟩ := HCL.out V3 (below_then HQ2.out hB3); have HI3 := Lib.hid hI3; have HI13 := Lib.hid (HI12.out.up hB3); have HI23 := Lib.hid (HI2.out.up hB3); have HQ3 := Lib.hid (below_then HQ2.out hB3); have HB3 := Lib.hid (below_then HB2.out hB3); clear hI3 hB3))
    | (go_at_call 29; ((with_reducible refine (C4.out _ _ _ _ _ HB3.out HI23.out).mono ?_); clear C4; rintro e V4 ⟨Ad, nd, cd, ld, rfl, hI4, hB4⟩; obtain ⟨t0, t1, t2⟩ := HCL.out V4 (below_then HQ3.out hB4); have HI4 := Lib.hid hI4; have HI34 := Lib.hid (HI3.out.up hB4); have HI14 := Lib.hid (HI13.out.up hB4); have HQ4 := Lib.hid (below_then HQ3.out hB4); have HB4 := Lib.hid (below_then HB3.out hB4); clear hI4 hB4))
    | (go_at_call 22; ((with_reducible refine (C5.out _ HB4.out).mono ?_); clear C5; rintro e V6 ⟨rfl, hB6⟩; obtain ⟨v0, v1, v2⟩ := HCL.out V6 (below_then HQ4.out hB6); have HI16 := Lib.hid (HI14.out.up hB6); have HQ6 := Lib.hid (below_then HQ4.out hB6); have HB6 := Lib.hid (below_then HB4.out hB6); clear hB6))
    | (go_at_call 22; ((with_reducible refine (C6.out _ HB6.out).mono ?_); clear C6; rintro e V7 ⟨rfl, hB7⟩; have HI17 := Lib.hid (HI16.out.up hB7); have HB7 := Lib.hid (below_then HB6.out hB7); clear hB7))
    | (go_at_call 22; ((with_reducible refine (C7.out _ _ _ _ _ HB7.out HI17.out).mono ?_); clear C7; rintro e V8 ⟨rfl, hB8⟩; have HB8 := Lib.hid (below_then HB7.out hB8); clear hB8))
    | (go_at_call 17; refine (awake2_any _).mono ?_; rintro e w9 ⟨rfl, hB9⟩; have HB9 := Lib.hid (below_then HB8.out hB9)))
  go_ret
  exact ⟨rfl, HB9.out⟩

set_option maxRecDepth 100000 in
set_option maxHeartbeats 4000000 in
theorem ugr_h0 (As A0 A1 A2 : Option Addr) (ns cs n0 c0 n1 c1 n2 c2 : Nat) (ss : Sg) (l0 l1 l2 : List Hd) (b0 b1 b2 : List Bd) (w : World) (hs : SigAt w w.heap.size As ns ss) (h0 : BindsAt w w.heap.size A0 n0 l0 b0) (h1 : BindsAt w w.heap.size A1 n1 l1 b1) (h2 : BindsAt w w.heap.size A2 n2 l2 b2) (hsm : smallOk ns [] = true) (hf0 : fewOk l0 = true) (hf1 : fewOk l1 = true) (hf2 : fewOk l2 = true) (hz : (compZ ss b0 b1).2 = 0) (hz2 : (compZ ss b1 b2).2 = 0) (hg : (compZ ss (compB b0 b1) b2).2 = 0) (hh : (compZ ss b0 (compB b1 b2)).2 ≠ 0) (hq0 : renB ss b0 = false) :
    Calls Try.prog 6 #[.slice As ns cs, .agg #[.slice A0 n0 c0, .slice A1 n1 c1, .slice A2 n2 c2]] w fun e w' => e = .returned (.bool true) ∧ Below w.heap.size w w' := by
  obtain ⟨WB, hWB⟩ : ∃ WB, trioW w A0 A1 A2 n0 c0 n1 c1 n2 c2 = WB := ⟨_, rfl⟩
  have hBB : Below w.heap.size w WB := by rw [← hWB]; exact bel_al (Below.refl _ _) _
  have HCL := Lib.hid (fun V (h : Below WB.heap.size WB V) => trio_cells (w := w) (A0 := A0) (A1 := A1) (A2 := A2) (n0 := n0) (c0 := c0) (n1 := n1) (c1 := c1) (n2 := n2) (c2 := c2) (V := V) (by rw [hWB]; exact h))
  obtain ⟨x0, x1, x2⟩ := HCL.out WB (Below.refl _ _)
  have HS := Lib.hid (small_any As none ns cs 0 0 [] WB WB.heap.size ⟨rfl, by omega, fun h => absurd h (by omega)⟩)
  have HSM := Lib.hid hsm
  have HWB := Lib.hid hWB
  have HBB := Lib.hid hBB
  have HF0 := Lib.hid (few_any A0 n0 c0 l0 b0 WB _ (h0.up hBB))
  have HF1 := Lib.hid (few_any A1 n1 c1 l1 b1 WB _ (h1.up hBB))
  have HF2 := Lib.hid (few_any A2 n2 c2 l2 b2 WB _ (h2.up hBB))
  have HFF0 := Lib.hid hf0
  have HFF1 := Lib.hid hf1
  have HFF2 := Lib.hid hf2
  have hn0 : n0 ≤ 1000000 := by
    unfold fewOk at hf0
    simp only [Bool.and_eq_true, decide_eq_true_eq] at hf0
    have := h0.ll
    omega
  have hn1 : n1 ≤ 1000000 := by
    unfold fewOk at hf1
    simp only [Bool.and_eq_true, decide_eq_true_eq] at hf1
    have := h1.ll
    omega
  have hn2 : n2 ≤ 1000000 := by
    unfold fewOk at hf2
    simp only [Bool.and_eq_true, decide_eq_true_eq] at hf2
    have := h2.ll
    omega
  have C1 := Lib.hid (compose_any As A0 A1 ns cs n0 c0 n1 c1 ss l0 l1 b0 b1 WB (hs.up hBB) (h0.up hBB) (h1.up hBB) hn0 hn1)
  have C2 := Lib.hid (fun V (h : Below w.heap.size w V) => compose_any As A1 A2 ns cs n1 c1 n2 c2 ss l1 l2 b1 b2 V (hs.up h) (h1.up h) (h2.up h) hn1 hn2)
  have hlen1 := compB_len b0 b1
  have hlen2 := compB_len b1 b2
  obtain ⟨z1, z2, z3, hR⟩ := compZ_zero hz
  obtain ⟨y1, y2, y3, hR2⟩ := compZ_zero hz2
  have hassoc := comp_assoc (a := b0) (b := b1) (c := b2) z1
  have hrent := fun h1 h2 => ren_trio hz h1 h2
  obtain ⟨a, ha⟩ : ∃ a, compB b0 b1 = a := ⟨_, rfl⟩
  obtain ⟨b, hb⟩ : ∃ b, compB b1 b2 = b := ⟨_, rfl⟩
  rw [ha] at hR hlen1 hassoc hrent
  rw [hb] at hR2 hlen2 hassoc
  simp only [hR] at C1
  simp only [hR2] at C2
  have C3 := Lib.hid (fun V (Aa : Option Addr) (na ca : Nat) (la : List Hd) (h : Below w.heap.size w V) (hI : BindsAt V V.heap.size Aa na la a) => compose_any As Aa A2 ns cs na ca n2 c2 ss la l2 a b2 V (hs.up h) hI (h2.up h) (by have := hI.len; omega) hn2)
  have C4 := Lib.hid (fun V (Ab : Option Addr) (nb cb : Nat) (lb : List Hd) (h : Below w.heap.size w V) (hI : BindsAt V V.heap.size Ab nb lb b) => compose_any As A0 Ab ns cs n0 c0 nb cb ss l0 lb b0 b V (hs.up h) (h0.up h) hI hn0 (by have := hI.len; omega))
  have C5 := Lib.hid (fun V (h : Below w.heap.size w V) => renaming_any As A0 ns cs n0 c0 ss l0 b0 V (hs.up h) (h0.up h) hn0)
  have C6 := Lib.hid (fun V (h : Below w.heap.size w V) => renaming_any As A1 ns cs n1 c1 ss l1 b1 V (hs.up h) (h1.up h) hn1)
  have C7 := Lib.hid (fun V (Aa : Option Addr) (na ca : Nat) (la : List Hd) (h : Below w.heap.size w V) (hI : BindsAt V V.heap.size Aa na la a) => renaming_any As Aa ns cs na ca ss la a V (hs.up h) hI (by have := hI.len; omega))
  rw [ha] at hg
  rw [hb] at hh
  obtain ⟨_, _, _, hR3⟩ := compZ_zero hg
  obtain ⟨cc', hcc⟩ : ∃ cc', compB a b2 = cc' := ⟨_, rfl⟩
  rw [hcc] at hR3
  simp only [hR3] at C3
  obtain ⟨⟨cd', er2⟩, hR4⟩ : ∃ R, compZ ss b0 b = R := ⟨_, rfl⟩
  rw [hR4] at hh
  simp only [hR4] at C4
  simp only at hh C4
  have hge : (er2 == 0) = false := by simpa using hh
  simp only [hq0] at C5
  clear hs h0 h1 h2 hsm hWB hBB hf0 hf1 hf2 hz hz2 hlen1 hlen2 z1 z2 z3 y1 y2 y3 hR hR2 hassoc hrent ha hb hg hh hR3 hR4 hcc hq0
  go_enter Try.func6, Try.ntmps6
  go_wp2_with fail
  rw [show w.alloc (.cells #[.slice A0 n0 c0, .slice A1 n1 c1, .slice A2 n2 c2] 44) = WB from HWB.out]
  go_wp2_with (first
    | (go_at_call 15; refine HS.out.mono ?_; rintro e w8 ⟨rfl, rfl⟩; rw [HSM.out])
    | (go_at_call 16; ((with_reducible refine HF0.out.mono ?_); clear HF0; rintro e w8 ⟨rfl, rfl⟩; rw [HFF0.out]))
    | (go_at_call 16; ((with_reducible refine HF1.out.mono ?_); clear HF1; rintro e w8 ⟨rfl, rfl⟩; rw [HFF1.out]))
    | (go_at_call 16; ((with_reducible refine HF2.out.mono ?_); clear HF2; rintro e w8 ⟨rfl, rfl⟩; rw [HFF2.out]))
    | (go_at_call 29; ((with_reducible refine C1.out.mono ?_); clear C1; rintro e V1 ⟨Aa, na, ca, la, rfl, hI1, hB1⟩; obtain ⟨p0, p1, p2⟩ := HCL.out V1 hB1; have HI1 := Lib.hid hI1; have HQ1 := Lib.hid hB1; have HB1 := Lib.hid (below_then HBB.out hB1); clear hI1 hB1))
    | (go_at_call 29; ((with_reducible refine (C2.out _ HB1.out).mono ?_); clear C2; rintro e V2 ⟨Ab, nb, cb, lb, rfl, hI2, hB2⟩; obtain ⟨r0, r1, r2⟩ := HCL.out V2 (below_then HQ1.out hB2); have HI12 := Lib.hid (HI1.out.up hB2); have HI2 := Lib.hid hI2; have HQ2 := Lib.hid (below_then HQ1.out hB2); have HB2 := Lib.hid (below_then HB1.out hB2); clear hI2 hB2))
    | (go_at_call 29; ((with_reducible refine (C3.out _ _ _ _ _ HB2.out HI12.out).mono ?_); clear C3; rintro e V3 ⟨Ac, nc, cc, lc, rfl, hI3, hB3⟩; obtain ⟨s0, s1, s2⟩ := HCL.out V3 (below_then HQ2.out hB3); have HI3 := Lib.hid hI3; have HI13 := Lib.hid (HI12.out.up hB3); have HI23 := Lib.hid (HI2.out.up hB3); have HQ3 := Lib.hid (below_then HQ2.out hB3); have HB3 := Lib.hid (below_then HB2.out hB3); clear hI3 hB3))
    | (go_at_call 29; ((with_reducible refine (C4.out _ _ _ _ _ HB3.out HI23.out).mono ?_); clear C4; rintro e V4 ⟨Ad, nd, cd, ld, rfl, hI4, hB4⟩; obtain ⟨t0, t1, t2⟩ := HCL.out V4 (below_then HQ3.out hB4); have HI4 := Lib.hid hI4; have HI34 := Lib.hid (HI3.out.up hB4); have HI14 := Lib.hid (HI13.out.up hB4); have HQ4 := Lib.hid (below_then HQ3.out hB4); have HB4 := Lib.hid (below_then HB3.out hB4); clear hI4 hB4))
    | (go_at_call 22; ((with_reducible refine (C5.out _ HB4.out).mono ?_); clear C5; rintro e V6 ⟨rfl, hB6⟩; obtain ⟨v0, v1, v2⟩ := HCL.out V6 (below_then HQ4.out hB6); have HI16 := Lib.hid (HI14.out.up hB6); have HQ6 := Lib.hid (below_then HQ4.out hB6); have HB6 := Lib.hid (below_then HB4.out hB6); clear hB6))
    | (go_at_call 17; refine (awake2_any _).mono ?_; rintro e w9 ⟨rfl, hB9⟩; have HB9 := Lib.hid (below_then HB6.out hB9)))
  go_ret
  exact ⟨rfl, HB9.out⟩

set_option maxRecDepth 100000 in
set_option maxHeartbeats 4000000 in
theorem ugr_h1 (As A0 A1 A2 : Option Addr) (ns cs n0 c0 n1 c1 n2 c2 : Nat) (ss : Sg) (l0 l1 l2 : List Hd) (b0 b1 b2 : List Bd) (w : World) (hs : SigAt w w.heap.size As ns ss) (h0 : BindsAt w w.heap.size A0 n0 l0 b0) (h1 : BindsAt w w.heap.size A1 n1 l1 b1) (h2 : BindsAt w w.heap.size A2 n2 l2 b2) (hsm : smallOk ns [] = true) (hf0 : fewOk l0 = true) (hf1 : fewOk l1 = true) (hf2 : fewOk l2 = true) (hz : (compZ ss b0 b1).2 = 0) (hz2 : (compZ ss b1 b2).2 = 0) (hg : (compZ ss (compB b0 b1) b2).2 = 0) (hh : (compZ ss b0 (compB b1 b2)).2 ≠ 0) (hq0 : renB ss b0 = true) (hq1 : renB ss b1 = false) :
    Calls Try.prog 6 #[.slice As ns cs, .agg #[.slice A0 n0 c0, .slice A1 n1 c1, .slice A2 n2 c2]] w fun e w' => e = .returned (.bool true) ∧ Below w.heap.size w w' := by
  obtain ⟨WB, hWB⟩ : ∃ WB, trioW w A0 A1 A2 n0 c0 n1 c1 n2 c2 = WB := ⟨_, rfl⟩
  have hBB : Below w.heap.size w WB := by rw [← hWB]; exact bel_al (Below.refl _ _) _
  have HCL := Lib.hid (fun V (h : Below WB.heap.size WB V) => trio_cells (w := w) (A0 := A0) (A1 := A1) (A2 := A2) (n0 := n0) (c0 := c0) (n1 := n1) (c1 := c1) (n2 := n2) (c2 := c2) (V := V) (by rw [hWB]; exact h))
  obtain ⟨x0, x1, x2⟩ := HCL.out WB (Below.refl _ _)
  have HS := Lib.hid (small_any As none ns cs 0 0 [] WB WB.heap.size ⟨rfl, by omega, fun h => absurd h (by omega)⟩)
  have HSM := Lib.hid hsm
  have HWB := Lib.hid hWB
  have HBB := Lib.hid hBB
  have HF0 := Lib.hid (few_any A0 n0 c0 l0 b0 WB _ (h0.up hBB))
  have HF1 := Lib.hid (few_any A1 n1 c1 l1 b1 WB _ (h1.up hBB))
  have HF2 := Lib.hid (few_any A2 n2 c2 l2 b2 WB _ (h2.up hBB))
  have HFF0 := Lib.hid hf0
  have HFF1 := Lib.hid hf1
  have HFF2 := Lib.hid hf2
  have hn0 : n0 ≤ 1000000 := by
    unfold fewOk at hf0
    simp only [Bool.and_eq_true, decide_eq_true_eq] at hf0
    have := h0.ll
    omega
  have hn1 : n1 ≤ 1000000 := by
    unfold fewOk at hf1
    simp only [Bool.and_eq_true, decide_eq_true_eq] at hf1
    have := h1.ll
    omega
  have hn2 : n2 ≤ 1000000 := by
    unfold fewOk at hf2
    simp only [Bool.and_eq_true, decide_eq_true_eq] at hf2
    have := h2.ll
    omega
  have C1 := Lib.hid (compose_any As A0 A1 ns cs n0 c0 n1 c1 ss l0 l1 b0 b1 WB (hs.up hBB) (h0.up hBB) (h1.up hBB) hn0 hn1)
  have C2 := Lib.hid (fun V (h : Below w.heap.size w V) => compose_any As A1 A2 ns cs n1 c1 n2 c2 ss l1 l2 b1 b2 V (hs.up h) (h1.up h) (h2.up h) hn1 hn2)
  have hlen1 := compB_len b0 b1
  have hlen2 := compB_len b1 b2
  obtain ⟨z1, z2, z3, hR⟩ := compZ_zero hz
  obtain ⟨y1, y2, y3, hR2⟩ := compZ_zero hz2
  have hassoc := comp_assoc (a := b0) (b := b1) (c := b2) z1
  have hrent := fun h1 h2 => ren_trio hz h1 h2
  obtain ⟨a, ha⟩ : ∃ a, compB b0 b1 = a := ⟨_, rfl⟩
  obtain ⟨b, hb⟩ : ∃ b, compB b1 b2 = b := ⟨_, rfl⟩
  rw [ha] at hR hlen1 hassoc hrent
  rw [hb] at hR2 hlen2 hassoc
  simp only [hR] at C1
  simp only [hR2] at C2
  have C3 := Lib.hid (fun V (Aa : Option Addr) (na ca : Nat) (la : List Hd) (h : Below w.heap.size w V) (hI : BindsAt V V.heap.size Aa na la a) => compose_any As Aa A2 ns cs na ca n2 c2 ss la l2 a b2 V (hs.up h) hI (h2.up h) (by have := hI.len; omega) hn2)
  have C4 := Lib.hid (fun V (Ab : Option Addr) (nb cb : Nat) (lb : List Hd) (h : Below w.heap.size w V) (hI : BindsAt V V.heap.size Ab nb lb b) => compose_any As A0 Ab ns cs n0 c0 nb cb ss l0 lb b0 b V (hs.up h) (h0.up h) hI hn0 (by have := hI.len; omega))
  have C5 := Lib.hid (fun V (h : Below w.heap.size w V) => renaming_any As A0 ns cs n0 c0 ss l0 b0 V (hs.up h) (h0.up h) hn0)
  have C6 := Lib.hid (fun V (h : Below w.heap.size w V) => renaming_any As A1 ns cs n1 c1 ss l1 b1 V (hs.up h) (h1.up h) hn1)
  have C7 := Lib.hid (fun V (Aa : Option Addr) (na ca : Nat) (la : List Hd) (h : Below w.heap.size w V) (hI : BindsAt V V.heap.size Aa na la a) => renaming_any As Aa ns cs na ca ss la a V (hs.up h) hI (by have := hI.len; omega))
  rw [ha] at hg
  rw [hb] at hh
  obtain ⟨_, _, _, hR3⟩ := compZ_zero hg
  obtain ⟨cc', hcc⟩ : ∃ cc', compB a b2 = cc' := ⟨_, rfl⟩
  rw [hcc] at hR3
  simp only [hR3] at C3
  obtain ⟨⟨cd', er2⟩, hR4⟩ : ∃ R, compZ ss b0 b = R := ⟨_, rfl⟩
  rw [hR4] at hh
  simp only [hR4] at C4
  simp only at hh C4
  have hge : (er2 == 0) = false := by simpa using hh
  simp only [hq0] at C5
  simp only [hq1] at C6
  clear hs h0 h1 h2 hsm hWB hBB hf0 hf1 hf2 hz hz2 hlen1 hlen2 z1 z2 z3 y1 y2 y3 hR hR2 hassoc hrent ha hb hg hh hR3 hR4 hcc hq0 hq1
  go_enter Try.func6, Try.ntmps6
  go_wp2_with fail
  rw [show w.alloc (.cells #[.slice A0 n0 c0, .slice A1 n1 c1, .slice A2 n2 c2] 44) = WB from HWB.out]
  go_wp2_with (first
    | (go_at_call 15; refine HS.out.mono ?_; rintro e w8 ⟨rfl, rfl⟩; rw [HSM.out])
    | (go_at_call 16; ((with_reducible refine HF0.out.mono ?_); clear HF0; rintro e w8 ⟨rfl, rfl⟩; rw [HFF0.out]))
    | (go_at_call 16; ((with_reducible refine HF1.out.mono ?_); clear HF1; rintro e w8 ⟨rfl, rfl⟩; rw [HFF1.out]))
    | (go_at_call 16; ((with_reducible refine HF2.out.mono ?_); clear HF2; rintro e w8 ⟨rfl, rfl⟩; rw [HFF2.out]))
    | (go_at_call 29; ((with_reducible refine C1.out.mono ?_); clear C1; rintro e V1 ⟨Aa, na, ca, la, rfl, hI1, hB1⟩; obtain ⟨p0, p1, p2⟩ := HCL.out V1 hB1; have HI1 := Lib.hid hI1; have HQ1 := Lib.hid hB1; have HB1 := Lib.hid (below_then HBB.out hB1); clear hI1 hB1))
    | (go_at_call 29; ((with_reducible refine (C2.out _ HB1.out).mono ?_); clear C2; rintro e V2 ⟨Ab, nb, cb, lb, rfl, hI2, hB2⟩; obtain ⟨r0, r1, r2⟩ := HCL.out V2 (below_then HQ1.out hB2); have HI12 := Lib.hid (HI1.out.up hB2); have HI2 := Lib.hid hI2; have HQ2 := Lib.hid (below_then HQ1.out hB2); have HB2 := Lib.hid (below_then HB1.out hB2); clear hI2 hB2))
    | (go_at_call 29; ((with_reducible refine (C3.out _ _ _ _ _ HB2.out HI12.out).mono ?_); clear C3; rintro e V3 ⟨Ac, nc, cc, lc, rfl, hI3, hB3⟩; obtain ⟨s0, s1, s2⟩ := HCL.out V3 (below_then HQ2.out hB3); have HI3 := Lib.hid hI3; have HI13 := Lib.hid (HI12.out.up hB3); have HI23 := Lib.hid (HI2.out.up hB3); have HQ3 := Lib.hid (below_then HQ2.out hB3); have HB3 := Lib.hid (below_then HB2.out hB3); clear hI3 hB3))
    | (go_at_call 29; ((with_reducible refine (C4.out _ _ _ _ _ HB3.out HI23.out).mono ?_); clear C4; rintro e V4 ⟨Ad, nd, cd, ld, rfl, hI4, hB4⟩; obtain ⟨t0, t1, t2⟩ := HCL.out V4 (below_then HQ3.out hB4); have HI4 := Lib.hid hI4; have HI34 := Lib.hid (HI3.out.up hB4); have HI14 := Lib.hid (HI13.out.up hB4); have HQ4 := Lib.hid (below_then HQ3.out hB4); have HB4 := Lib.hid (below_then HB3.out hB4); clear hI4 hB4))
    | (go_at_call 22; ((with_reducible refine (C5.out _ HB4.out).mono ?_); clear C5; rintro e V6 ⟨rfl, hB6⟩; obtain ⟨v0, v1, v2⟩ := HCL.out V6 (below_then HQ4.out hB6); have HI16 := Lib.hid (HI14.out.up hB6); have HQ6 := Lib.hid (below_then HQ4.out hB6); have HB6 := Lib.hid (below_then HB4.out hB6); clear hB6))
    | (go_at_call 22; ((with_reducible refine (C6.out _ HB6.out).mono ?_); clear C6; rintro e V7 ⟨rfl, hB7⟩; have HI17 := Lib.hid (HI16.out.up hB7); have HB7 := Lib.hid (below_then HB6.out hB7); clear hB7))
    | (go_at_call 17; refine (awake2_any _).mono ?_; rintro e w9 ⟨rfl, hB9⟩; have HB9 := Lib.hid (below_then HB7.out hB9)))
  go_ret
  exact ⟨rfl, HB9.out⟩

set_option maxRecDepth 100000 in
set_option maxHeartbeats 4000000 in
theorem ugr_h2 (As A0 A1 A2 : Option Addr) (ns cs n0 c0 n1 c1 n2 c2 : Nat) (ss : Sg) (l0 l1 l2 : List Hd) (b0 b1 b2 : List Bd) (w : World) (hs : SigAt w w.heap.size As ns ss) (h0 : BindsAt w w.heap.size A0 n0 l0 b0) (h1 : BindsAt w w.heap.size A1 n1 l1 b1) (h2 : BindsAt w w.heap.size A2 n2 l2 b2) (hsm : smallOk ns [] = true) (hf0 : fewOk l0 = true) (hf1 : fewOk l1 = true) (hf2 : fewOk l2 = true) (hz : (compZ ss b0 b1).2 = 0) (hz2 : (compZ ss b1 b2).2 = 0) (hg : (compZ ss (compB b0 b1) b2).2 = 0) (hh : (compZ ss b0 (compB b1 b2)).2 ≠ 0) (hq0 : renB ss b0 = true) (hq1 : renB ss b1 = true) :
    Calls Try.prog 6 #[.slice As ns cs, .agg #[.slice A0 n0 c0, .slice A1 n1 c1, .slice A2 n2 c2]] w fun e w' => e = .returned (.bool true) ∧ Below w.heap.size w w' := by
  obtain ⟨WB, hWB⟩ : ∃ WB, trioW w A0 A1 A2 n0 c0 n1 c1 n2 c2 = WB := ⟨_, rfl⟩
  have hBB : Below w.heap.size w WB := by rw [← hWB]; exact bel_al (Below.refl _ _) _
  have HCL := Lib.hid (fun V (h : Below WB.heap.size WB V) => trio_cells (w := w) (A0 := A0) (A1 := A1) (A2 := A2) (n0 := n0) (c0 := c0) (n1 := n1) (c1 := c1) (n2 := n2) (c2 := c2) (V := V) (by rw [hWB]; exact h))
  obtain ⟨x0, x1, x2⟩ := HCL.out WB (Below.refl _ _)
  have HS := Lib.hid (small_any As none ns cs 0 0 [] WB WB.heap.size ⟨rfl, by omega, fun h => absurd h (by omega)⟩)
  have HSM := Lib.hid hsm
  have HWB := Lib.hid hWB
  have HBB := Lib.hid hBB
  have HF0 := Lib.hid (few_any A0 n0 c0 l0 b0 WB _ (h0.up hBB))
  have HF1 := Lib.hid (few_any A1 n1 c1 l1 b1 WB _ (h1.up hBB))
  have HF2 := Lib.hid (few_any A2 n2 c2 l2 b2 WB _ (h2.up hBB))
  have HFF0 := Lib.hid hf0
  have HFF1 := Lib.hid hf1
  have HFF2 := Lib.hid hf2
  have hn0 : n0 ≤ 1000000 := by
    unfold fewOk at hf0
    simp only [Bool.and_eq_true, decide_eq_true_eq] at hf0
    have := h0.ll
    omega
  have hn1 : n1 ≤ 1000000 := by
    unfold fewOk at hf1
    simp only [Bool.and_eq_true, decide_eq_true_eq] at hf1
    have := h1.ll
    omega
  have hn2 : n2 ≤ 1000000 := by
    unfold fewOk at hf2
    simp only [Bool.and_eq_true, decide_eq_true_eq] at hf2
    have := h2.ll
    omega
  have C1 := Lib.hid (compose_any As A0 A1 ns cs n0 c0 n1 c1 ss l0 l1 b0 b1 WB (hs.up hBB) (h0.up hBB) (h1.up hBB) hn0 hn1)
  have C2 := Lib.hid (fun V (h : Below w.heap.size w V) => compose_any As A1 A2 ns cs n1 c1 n2 c2 ss l1 l2 b1 b2 V (hs.up h) (h1.up h) (h2.up h) hn1 hn2)
  have hlen1 := compB_len b0 b1
  have hlen2 := compB_len b1 b2
  obtain ⟨z1, z2, z3, hR⟩ := compZ_zero hz
  obtain ⟨y1, y2, y3, hR2⟩ := compZ_zero hz2
  have hassoc := comp_assoc (a := b0) (b := b1) (c := b2) z1
  have hrent := fun h1 h2 => ren_trio hz h1 h2
  obtain ⟨a, ha⟩ : ∃ a, compB b0 b1 = a := ⟨_, rfl⟩
  obtain ⟨b, hb⟩ : ∃ b, compB b1 b2 = b := ⟨_, rfl⟩
  rw [ha] at hR hlen1 hassoc hrent
  rw [hb] at hR2 hlen2 hassoc
  simp only [hR] at C1
  simp only [hR2] at C2
  have C3 := Lib.hid (fun V (Aa : Option Addr) (na ca : Nat) (la : List Hd) (h : Below w.heap.size w V) (hI : BindsAt V V.heap.size Aa na la a) => compose_any As Aa A2 ns cs na ca n2 c2 ss la l2 a b2 V (hs.up h) hI (h2.up h) (by have := hI.len; omega) hn2)
  have C4 := Lib.hid (fun V (Ab : Option Addr) (nb cb : Nat) (lb : List Hd) (h : Below w.heap.size w V) (hI : BindsAt V V.heap.size Ab nb lb b) => compose_any As A0 Ab ns cs n0 c0 nb cb ss l0 lb b0 b V (hs.up h) (h0.up h) hI hn0 (by have := hI.len; omega))
  have C5 := Lib.hid (fun V (h : Below w.heap.size w V) => renaming_any As A0 ns cs n0 c0 ss l0 b0 V (hs.up h) (h0.up h) hn0)
  have C6 := Lib.hid (fun V (h : Below w.heap.size w V) => renaming_any As A1 ns cs n1 c1 ss l1 b1 V (hs.up h) (h1.up h) hn1)
  have C7 := Lib.hid (fun V (Aa : Option Addr) (na ca : Nat) (la : List Hd) (h : Below w.heap.size w V) (hI : BindsAt V V.heap.size Aa na la a) => renaming_any As Aa ns cs na ca ss la a V (hs.up h) hI (by have := hI.len; omega))
  rw [ha] at hg
  rw [hb] at hh
  obtain ⟨_, _, _, hR3⟩ := compZ_zero hg
  obtain ⟨cc', hcc⟩ : ∃ cc', compB a b2 = cc' := ⟨_, rfl⟩
  rw [hcc] at hR3
  simp only [hR3] at C3
  obtain ⟨⟨cd', er2⟩, hR4⟩ : ∃ R, compZ ss b0 b = R := ⟨_, rfl⟩
  rw [hR4] at hh
  simp only [hR4] at C4
  simp only at hh C4
  have hge : (er2 == 0) = false := by simpa using hh
  have hq2 := hrent hq0 hq1
  simp only [hq0] at C5
  simp only [hq1] at C6
  simp only [hq2] at C7
  clear hs h0 h1 h2 hsm hWB hBB hf0 hf1 hf2 hz hz2 hlen1 hlen2 z1 z2 z3 y1 y2 y3 hR hR2 hassoc hrent ha hb hg hh hR3 hR4 hcc hq0 hq1 hq2
  go_enter Try.func6, Try.ntmps6
  go_wp2_with fail
  rw [show w.alloc (.cells #[.slice A0 n0 c0, .slice A1 n1 c1, .slice A2 n2 c2] 44) = WB from HWB.out]
  go_wp2_with (first
    | (go_at_call 15; refine HS.out.mono ?_; rintro e w8 ⟨rfl, rfl⟩; rw [HSM.out])
    | (go_at_call 16; ((with_reducible refine HF0.out.mono ?_); clear HF0; rintro e w8 ⟨rfl, rfl⟩; rw [HFF0.out]))
    | (go_at_call 16; ((with_reducible refine HF1.out.mono ?_); clear HF1; rintro e w8 ⟨rfl, rfl⟩; rw [HFF1.out]))
    | (go_at_call 16; ((with_reducible refine HF2.out.mono ?_); clear HF2; rintro e w8 ⟨rfl, rfl⟩; rw [HFF2.out]))
    | (go_at_call 29; ((with_reducible refine C1.out.mono ?_); clear C1; rintro e V1 ⟨Aa, na, ca, la, rfl, hI1, hB1⟩; obtain ⟨p0, p1, p2⟩ := HCL.out V1 hB1; have HI1 := Lib.hid hI1; have HQ1 := Lib.hid hB1; have HB1 := Lib.hid (below_then HBB.out hB1); clear hI1 hB1))
    | (go_at_call 29; ((with_reducible refine (C2.out _ HB1.out).mono ?_); clear C2; rintro e V2 ⟨Ab, nb, cb, lb, rfl, hI2, hB2⟩; obtain ⟨r0, r1, r2⟩ := HCL.out V2 (below_then HQ1.out hB2); have HI12 := Lib.hid (HI1.out.up hB2); have HI2 := Lib.hid hI2; have HQ2 := Lib.hid (below_then HQ1.out hB2); have HB2 := Lib.hid (below_then HB1.out hB2); clear hI2 hB2))
    | (go_at_call 29; ((with_reducible refine (C3.out _ _ _ _ _ HB2.out HI12.out).mono ?_); clear C3; rintro e V3 ⟨Ac, nc, cc, lc, rfl, hI3, hB3⟩; obtain ⟨s0, s1, s2⟩ := HCL.out V3 (below_then HQ2.out hB3); have HI3 := Lib.hid hI3; have HI13 := Lib.hid (HI12.out.up hB3); have HI23 := Lib.hid (HI2.out.up hB3); have HQ3 := Lib.hid (below_then HQ2.out hB3); have HB3 := Lib.hid (below_then HB2.out hB3); clear hI3 hB3))
    | (go_at_call 29; ((with_reducible refine (C4.out _ _ _ _ _ HB3.out HI23.out).mono ?_); clear C4; rintro e V4 ⟨Ad, nd, cd, ld, rfl, hI4, hB4⟩; obtain ⟨t0, t1, t2⟩ := HCL.out V4 (below_then HQ3.out hB4); have HI4 := Lib.hid hI4; have HI34 := Lib.hid (HI3.out.up hB4); have HI14 := Lib.hid (HI13.out.up hB4); have HQ4 := Lib.hid (below_then HQ3.out hB4); have HB4 := Lib.hid (below_then HB3.out hB4); clear hI4 hB4))
    | (go_at_call 22; ((with_reducible refine (C5.out _ HB4.out).mono ?_); clear C5; rintro e V6 ⟨rfl, hB6⟩; obtain ⟨v0, v1, v2⟩ := HCL.out V6 (below_then HQ4.out hB6); have HI16 := Lib.hid (HI14.out.up hB6); have HQ6 := Lib.hid (below_then HQ4.out hB6); have HB6 := Lib.hid (below_then HB4.out hB6); clear hB6))
    | (go_at_call 22; ((with_reducible refine (C6.out _ HB6.out).mono ?_); clear C6; rintro e V7 ⟨rfl, hB7⟩; have HI17 := Lib.hid (HI16.out.up hB7); have HB7 := Lib.hid (below_then HB6.out hB7); clear hB7))
    | (go_at_call 22; ((with_reducible refine (C7.out _ _ _ _ _ HB7.out HI17.out).mono ?_); clear C7; rintro e V8 ⟨rfl, hB8⟩; have HB8 := Lib.hid (below_then HB7.out hB8); clear hB8))
    | (go_at_call 17; refine (awake2_any _).mono ?_; rintro e w9 ⟨rfl, hB9⟩; have HB9 := Lib.hid (below_then HB8.out hB9)))
  go_ret
  exact ⟨rfl, HB9.out⟩

set_option maxRecDepth 100000 in
set_option maxHeartbeats 4000000 in
theorem ugr_b0 (As A0 A1 A2 : Option Addr) (ns cs n0 c0 n1 c1 n2 c2 : Nat) (ss : Sg) (l0 l1 l2 : List Hd) (b0 b1 b2 : List Bd) (w : World) (hs : SigAt w w.heap.size As ns ss) (h0 : BindsAt w w.heap.size A0 n0 l0 b0) (h1 : BindsAt w w.heap.size A1 n1 l1 b1) (h2 : BindsAt w w.heap.size A2 n2 l2 b2) (hsm : smallOk ns [] = true) (hf0 : fewOk l0 = true) (hf1 : fewOk l1 = true) (hf2 : fewOk l2 = true) (hz : (compZ ss b0 b1).2 = 0) (hz2 : (compZ ss b1 b2).2 = 0) (hg : (compZ ss (compB b0 b1) b2).2 = 0) (hh : (compZ ss b0 (compB b1 b2)).2 = 0) (hq0 : renB ss b0 = false) :
    Calls Try.prog 6 #[.slice As ns cs, .agg #[.slice A0 n0 c0, .slice A1 n1 c1, .slice A2 n2 c2]] w fun e w' => e = .returned (.bool true) ∧ Below w.heap.size w w' := by
  obtain ⟨WB, hWB⟩ : ∃ WB, trioW w A0 A1 A2 n0 c0 n1 c1 n2 c2 = WB := ⟨_, rfl⟩
  have hBB : Below w.heap.size w WB := by rw [← hWB]; exact bel_al (Below.refl _ _) _
  have HCL := Lib.hid (fun V (h : Below WB.heap.size WB V) => trio_cells (w := w) (A0 := A0) (A1 := A1) (A2 := A2) (n0 := n0) (c0 := c0) (n1 := n1) (c1 := c1) (n2 := n2) (c2 := c2) (V := V) (by rw [hWB]; exact h))
  obtain ⟨x0, x1, x2⟩ := HCL.out WB (Below.refl _ _)
  have HS := Lib.hid (small_any As none ns cs 0 0 [] WB WB.heap.size ⟨rfl, by omega, fun h => absurd h (by omega)⟩)
  have HSM := Lib.hid hsm
  have HWB := Lib.hid hWB
  have HBB := Lib.hid hBB
  have HF0 := Lib.hid (few_any A0 n0 c0 l0 b0 WB _ (h0.up hBB))
  have HF1 := Lib.hid (few_any A1 n1 c1 l1 b1 WB _ (h1.up hBB))
  have HF2 := Lib.hid (few_any A2 n2 c2 l2 b2 WB _ (h2.up hBB))
  have HFF0 := Lib.hid hf0
  have HFF1 := Lib.hid hf1
  have HFF2 := Lib.hid hf2
  have hn0 : n0 ≤ 1000000 := by
    unfold fewOk at hf0
    simp only [Bool.and_eq_true, decide_eq_true_eq] at hf0
    have := h0.ll
    omega
  have hn1 : n1 ≤ 1000000 := by
    unfold fewOk at hf1
    simp only [Bool.and_eq_true, decide_eq_true_eq] at hf1
    have := h1.ll
    omega
  have hn2 : n2 ≤ 1000000 := by
    unfold fewOk at hf2
    simp only [Bool.and_eq_true, decide_eq_true_eq] at hf2
    have := h2.ll
    omega
  have C1 := Lib.hid (compose_any As A0 A1 ns cs n0 c0 n1 c1 ss l0 l1 b0 b1 WB (hs.up hBB) (h0.up hBB) (h1.up hBB) hn0 hn1)
  have C2 := Lib.hid (fun V (h : Below w.heap.size w V) => compose_any As A1 A2 ns cs n1 c1 n2 c2 ss l1 l2 b1 b2 V (hs.up h) (h1.up h) (h2.up h) hn1 hn2)
  have hlen1 := compB_len b0 b1
  have hlen2 := compB_len b1 b2
  obtain ⟨z1, z2, z3, hR⟩ := compZ_zero hz
  obtain ⟨y1, y2, y3, hR2⟩ := compZ_zero hz2
  have hassoc := comp_assoc (a := b0) (b := b1) (c := b2) z1
  have hrent := fun h1 h2 => ren_trio hz h1 h2
  obtain ⟨a, ha⟩ : ∃ a, compB b0 b1 = a := ⟨_, rfl⟩
  obtain ⟨b, hb⟩ : ∃ b, compB b1 b2 = b := ⟨_, rfl⟩
  rw [ha] at hR hlen1 hassoc hrent
  rw [hb] at hR2 hlen2 hassoc
  simp only [hR] at C1
  simp only [hR2] at C2
  have C3 := Lib.hid (fun V (Aa : Option Addr) (na ca : Nat) (la : List Hd) (h : Below w.heap.size w V) (hI : BindsAt V V.heap.size Aa na la a) => compose_any As Aa A2 ns cs na ca n2 c2 ss la l2 a b2 V (hs.up h) hI (h2.up h) (by have := hI.len; omega) hn2)
  have C4 := Lib.hid (fun V (Ab : Option Addr) (nb cb : Nat) (lb : List Hd) (h : Below w.heap.size w V) (hI : BindsAt V V.heap.size Ab nb lb b) => compose_any As A0 Ab ns cs n0 c0 nb cb ss l0 lb b0 b V (hs.up h) (h0.up h) hI hn0 (by have := hI.len; omega))
  have C5 := Lib.hid (fun V (h : Below w.heap.size w V) => renaming_any As A0 ns cs n0 c0 ss l0 b0 V (hs.up h) (h0.up h) hn0)
  have C6 := Lib.hid (fun V (h : Below w.heap.size w V) => renaming_any As A1 ns cs n1 c1 ss l1 b1 V (hs.up h) (h1.up h) hn1)
  have C7 := Lib.hid (fun V (Aa : Option Addr) (na ca : Nat) (la : List Hd) (h : Below w.heap.size w V) (hI : BindsAt V V.heap.size Aa na la a) => renaming_any As Aa ns cs na ca ss la a V (hs.up h) hI (by have := hI.len; omega))
  rw [ha] at hg
  rw [hb] at hh
  obtain ⟨_, _, _, hR3⟩ := compZ_zero hg
  obtain ⟨_, _, _, hR4⟩ := compZ_zero hh
  rw [← hassoc] at hR4
  obtain ⟨cc', hcc⟩ : ∃ cc', compB a b2 = cc' := ⟨_, rfl⟩
  rw [hcc] at hR3 hR4
  simp only [hR3] at C3
  simp only [hR4] at C4
  simp only [hq0] at C5
  clear hs h0 h1 h2 hsm hWB hBB hf0 hf1 hf2 hz hz2 hlen1 hlen2 z1 z2 z3 y1 y2 y3 hR hR2 hassoc hrent ha hb hg hh hR3 hR4 hcc hq0
  go_enter Try.func6, Try.ntmps6
  go_wp2_with fail
  rw [show w.alloc (.cells #[.slice A0 n0 c0, .slice A1 n1 c1, .slice A2 n2 c2] 44) = WB from HWB.out]
  go_wp2_with (first
    | (go_at_call 15; refine HS.out.mono ?_; rintro e w8 ⟨rfl, rfl⟩; rw [HSM.out])
    | (go_at_call 16; ((with_reducible refine HF0.out.mono ?_); clear HF0; rintro e w8 ⟨rfl, rfl⟩; rw [HFF0.out]))
    | (go_at_call 16; ((with_reducible refine HF1.out.mono ?_); clear HF1; rintro e w8 ⟨rfl, rfl⟩; rw [HFF1.out]))
    | (go_at_call 16; ((with_reducible refine HF2.out.mono ?_); clear HF2; rintro e w8 ⟨rfl, rfl⟩; rw [HFF2.out]))
    | (go_at_call 29; ((with_reducible refine C1.out.mono ?_); clear C1; rintro e V1 ⟨Aa, na, ca, la, rfl, hI1, hB1⟩; obtain ⟨p0, p1, p2⟩ := HCL.out V1 hB1; have HI1 := Lib.hid hI1; have HQ1 := Lib.hid hB1; have HB1 := Lib.hid (below_then HBB.out hB1); clear hI1 hB1))
    | (go_at_call 29; ((with_reducible refine (C2.out _ HB1.out).mono ?_); clear C2; rintro e V2 ⟨Ab, nb, cb, lb, rfl, hI2, hB2⟩; obtain ⟨r0, r1, r2⟩ := HCL.out V2 (below_then HQ1.out hB2); have HI12 := Lib.hid (HI1.out.up hB2); have HI2 := Lib.hid hI2; have HQ2 := Lib.hid (below_then HQ1.out hB2); have HB2 := Lib.hid (below_then HB1.out hB2); clear hI2 hB2))
    | (go_at_call 29; ((with_reducible refine (C3.out _ _ _ _ _ HB2.out HI12.out).mono ?_); clear C3; rintro e V3 ⟨Ac, nc, cc, lc, rfl, hI3, hB3⟩; obtain ⟨s0, s1, s2⟩ := HCL.out V3 (below_then HQ2.out hB3); have HI3 := Lib.hid hI3; have HI13 := Lib.hid (HI12.out.up hB3); have HI23 := Lib.hid (HI2.out.up hB3); have HQ3 := Lib.hid (below_then HQ2.out hB3); have HB3 := Lib.hid (below_then HB2.out hB3); clear hI3 hB3))
    | (go_at_call 29; ((with_reducible refine (C4.out _ _ _ _ _ HB3.out HI23.out).mono ?_); clear C4; rintro e V4 ⟨Ad, nd, cd, ld, rfl, hI4, hB4⟩; obtain ⟨t0, t1, t2⟩ := HCL.out V4 (below_then HQ3.out hB4); have HI4 := Lib.hid hI4; have HI34 := Lib.hid (HI3.out.up hB4); have HI14 := Lib.hid (HI13.out.up hB4); have HQ4 := Lib.hid (below_then HQ3.out hB4); have HB4 := Lib.hid (below_then HB3.out hB4); clear hI4 hB4))
    | (go_at_call 31; ((with_reducible refine (sameBinds_self _ _ _ _ _ _ _ _ _ _ _ HI34.out HI4.out).mono ?_); rintro e V5 ⟨rfl, j5, rfl⟩; obtain ⟨u0, u1, u2⟩ := HCL.out _ (below_drewN HQ4.out j5); have HB5 := Lib.hid (below_drewN HB4.out j5); have HQ5 := Lib.hid (below_drewN HQ4.out j5); have HI15 := Lib.hid (HI14.out.below (below_drewN (Below.refl _ _) j5))))
    | (go_at_call 22; ((with_reducible refine (C5.out _ HB5.out).mono ?_); clear C5; rintro e V6 ⟨rfl, hB6⟩; obtain ⟨v0, v1, v2⟩ := HCL.out V6 (below_then HQ5.out hB6); have HI16 := Lib.hid (HI15.out.up hB6); have HQ6 := Lib.hid (below_then HQ5.out hB6); have HB6 := Lib.hid (below_then HB5.out hB6); clear hB6))
    | (go_at_call 17; refine (awake2_any _).mono ?_; rintro e w9 ⟨rfl, hB9⟩; have HB9 := Lib.hid (below_then HB6.out hB9)))
  go_ret
  exact ⟨rfl, HB9.out⟩

set_option maxRecDepth 100000 in
set_option maxHeartbeats 4000000 in
theorem ugr_b1 (As A0 A1 A2 : Option Addr) (ns cs n0 c0 n1 c1 n2 c2 : Nat) (ss : Sg) (l0 l1 l2 : List Hd) (b0 b1 b2 : List Bd) (w : World) (hs : SigAt w w.heap.size As ns ss) (h0 : BindsAt w w.heap.size A0 n0 l0 b0) (h1 : BindsAt w w.heap.size A1 n1 l1 b1) (h2 : BindsAt w w.heap.size A2 n2 l2 b2) (hsm : smallOk ns [] = true) (hf0 : fewOk l0 = true) (hf1 : fewOk l1 = true) (hf2 : fewOk l2 = true) (hz : (compZ ss b0 b1).2 = 0) (hz2 : (compZ ss b1 b2).2 = 0) (hg : (compZ ss (compB b0 b1) b2).2 = 0) (hh : (compZ ss b0 (compB b1 b2)).2 = 0) (hq0 : renB ss b0 = true) (hq1 : renB ss b1 = false) :
    Calls Try.prog 6 #[.slice As ns cs, .agg #[.slice A0 n0 c0, .slice A1 n1 c1, .slice A2 n2 c2]] w fun e w' => e = .returned (.bool true) ∧ Below w.heap.size w w' := by
  obtain ⟨WB, hWB⟩ : ∃ WB, trioW w A0 A1 A2 n0 c0 n1 c1 n2 c2 = WB := ⟨_, rfl⟩
  have hBB : Below w.heap.size w WB := by rw [← hWB]; exact bel_al (Below.refl _ _) _
  have HCL := Lib.hid (fun V (h : Below WB.heap.size WB V) => trio_cells (w := w) (A0 := A0) (A1 := A1) (A2 := A2) (n0 := n0) (c0 := c0) (n1 := n1) (c1 := c1) (n2 := n2) (c2 := c2) (V := V) (by rw [hWB]; exact h))
  obtain ⟨x0, x1, x2⟩ := HCL.out WB (Below.refl _ _)
  have HS := Lib.hid (small_any As none ns cs 0 0 [] WB WB.heap.size ⟨rfl, by omega, fun h => absurd h (by omega)⟩)
  have HSM := Lib.hid hsm
  have HWB := Lib.hid hWB
  have HBB := Lib.hid hBB
  have HF0 := Lib.hid (few_any A0 n0 c0 l0 b0 WB _ (h0.up hBB))
  have HF1 := Lib.hid (few_any A1 n1 c1 l1 b1 WB _ (h1.up hBB))
  have HF2 := Lib.hid (few_any A2 n2 c2 l2 b2 WB _ (h2.up hBB))
  have HFF0 := Lib.hid hf0
  have HFF1 := Lib.hid hf1
  have HFF2 := Lib.hid hf2
  have hn0 : n0 ≤ 1000000 := by
    unfold fewOk at hf0
    simp only [Bool.and_eq_true, decide_eq_true_eq] at hf0
    have := h0.ll
    omega
  have hn1 : n1 ≤ 1000000 := by
    unfold fewOk at hf1
    simp only [Bool.and_eq_true, decide_eq_true_eq] at hf1
    have := h1.ll
    omega
  have hn2 : n2 ≤ 1000000 := by
    unfold fewOk at hf2
    simp only [Bool.and_eq_true, decide_eq_true_eq] at hf2
    have := h2.ll
    omega
  have C1 := Lib.hid (compose_any As A0 A1 ns cs n0 c0 n1 c1 ss l0 l1 b0 b1 WB (hs.up hBB) (h0.up hBB) (h1.up hBB) hn0 hn1)
  have C2 := Lib.hid (fun V (h : Below w.heap.size w V) => compose_any As A1 A2 ns cs n1 c1 n2 c2 ss l1 l2 b1 b2 V (hs.up h) (h1.up h) (h2.up h) hn1 hn2)
  have hlen1 := compB_len b0 b1
  have hlen2 := compB_len b1 b2
  obtain ⟨z1, z2, z3, hR⟩ := compZ_zero hz
  obtain ⟨y1, y2, y3, hR2⟩ := compZ_zero hz2
  have hassoc := comp_assoc (a := b0) (b := b1) (c := b2) z1
  have hrent := fun h1 h2 => ren_trio hz h1 h2
  obtain ⟨a, ha⟩ : ∃ a, compB b0 b1 = a := ⟨_, rfl⟩
  obtain ⟨b, hb⟩ : ∃ b, compB b1 b2 = b := ⟨_, rfl⟩
  rw [ha] at hR hlen1 hassoc hrent
  rw [hb] at hR2 hlen2 hassoc
  simp only [hR] at C1
  simp only [hR2] at C2
  have C3 := Lib.hid (fun V (Aa : Option Addr) (na ca : Nat) (la : List Hd) (h : Below w.heap.size w V) (hI : BindsAt V V.heap.size Aa na la a) => compose_any As Aa A2 ns cs na ca n2 c2 ss la l2 a b2 V (hs.up h) hI (h2.up h) (by have := hI.len; omega) hn2)
  have C4 := Lib.hid (fun V (Ab : Option Addr) (nb cb : Nat) (lb : List Hd) (h : Below w.heap.size w V) (hI : BindsAt V V.heap.size Ab nb lb b) => compose_any As A0 Ab ns cs n0 c0 nb cb ss l0 lb b0 b V (hs.up h) (h0.up h) hI hn0 (by have := hI.len; omega))
  have C5 := Lib.hid (fun V (h : Below w.heap.size w V) => renaming_any As A0 ns cs n0 c0 ss l0 b0 V (hs.up h) (h0.up h) hn0)
  have C6 := Lib.hid (fun V (h : Below w.heap.size w V) => renaming_any As A1 ns cs n1 c1 ss l1 b1 V (hs.up h) (h1.up h) hn1)
  have C7 := Lib.hid (fun V (Aa : Option Addr) (na ca : Nat) (la : List Hd) (h : Below w.heap.size w V) (hI : BindsAt V V.heap.size Aa na la a) => renaming_any As Aa ns cs na ca ss la a V (hs.up h) hI (by have := hI.len; omega))
  rw [ha] at hg
  rw [hb] at hh
  obtain ⟨_, _, _, hR3⟩ := compZ_zero hg
  obtain ⟨_, _, _, hR4⟩ := compZ_zero hh
  rw [← hassoc] at hR4
  obtain ⟨cc', hcc⟩ : ∃ cc', compB a b2 = cc' := ⟨_, rfl⟩
  rw [hcc] at hR3 hR4
  simp only [hR3] at C3
  simp only [hR4] at C4
  simp only [hq0] at C5
  simp only [hq1] at C6
  clear hs h0 h1 h2 hsm hWB hBB hf0 hf1 hf2 hz hz2 hlen1 hlen2 z1 z2 z3 y1 y2 y3 hR hR2 hassoc hrent ha hb hg hh hR3 hR4 hcc hq0 hq1
  go_enter Try.func6, Try.ntmps6
  go_wp2_with fail
  rw [show w.alloc (.cells #[.slice A0 n0 c0, .slice A1 n1 c1, .slice A2 n2 c2] 44) = WB from HWB.out]
  go_wp2_with (first
    | (go_at_call 15; refine HS.out.mono ?_; rintro e w8 ⟨rfl, rfl⟩; rw [HSM.out])
    | (go_at_call 16; ((with_reducible refine HF0.out.mono ?_); clear HF0; rintro e w8 ⟨rfl, rfl⟩; rw [HFF0.out]))
    | (go_at_call 16; ((with_reducible refine HF1.out.mono ?_); clear HF1; rintro e w8 ⟨rfl, rfl⟩; rw [HFF1.out]))
    | (go_at_call 16; ((with_reducible refine HF2.out.mono ?_); clear HF2; rintro e w8 ⟨rfl, rfl⟩; rw [HFF2.out]))
    | (go_at_call 29; ((with_reducible refine C1.out.mono ?_); clear C1; rintro e V1 ⟨Aa, na, ca, la, rfl, hI1, hB1⟩; obtain ⟨p0, p1, p2⟩ := HCL.out V1 hB1; have HI1 := Lib.hid hI1; have HQ1 := Lib.hid hB1; have HB1 := Lib.hid (below_then HBB.out hB1); clear hI1 hB1))
    | (go_at_call 29; ((with_reducible refine (C2.out _ HB1.out).mono ?_); clear C2; rintro e V2 ⟨Ab, nb, cb, lb, rfl, hI2, hB2⟩; obtain ⟨r0, r1, r2⟩ := HCL.out V2 (below_then HQ1.out hB2); have HI12 := Lib.hid (HI1.out.up hB2); have HI2 := Lib.hid hI2; have HQ2 := Lib.hid (below_then HQ1.out hB2); have HB2 := Lib.hid (below_then HB1.out hB2); clear hI2 hB2))
    | (go_at_call 29; ((with_reducible refine (C3.out _ _ _ _ _ HB2.out HI12.out).mono ?_); clear C3; rintro e V3 ⟨Ac, nc, cc, lc, rfl, hI3, hB3⟩; obtain ⟨s0, s1, s2⟩ := HCL.out V3 (below_then HQ2.out hB3); have HI3 := Lib.hid hI3; have HI13 := Lib.hid (HI12.out.up hB3); have HI23 := Lib.hid (HI2.out.up hB3); have HQ3 := Lib.hid (below_then HQ2.out hB3); have HB3 := Lib.hid (below_then HB2.out hB3); clear hI3 hB3))
    | (go_at_call 29; ((with_reducible refine (C4.out _ _ _ _ _ HB3.out HI23.out).mono ?_); clear C4; rintro e V4 ⟨Ad, nd, cd, ld, rfl, hI4, hB4⟩; obtain ⟨t0, t1, t2⟩ := HCL.out V4 (below_then HQ3.out hB4); have HI4 := Lib.hid hI4; have HI34 := Lib.hid (HI3.out.up hB4); have HI14 := Lib.hid (HI13.out.up hB4); have HQ4 := Lib.hid (below_then HQ3.out hB4); have HB4 := Lib.hid (below_then HB3.out hB4); clear hI4 hB4))
    | (go_at_call 31; ((with_reducible refine (sameBinds_self _ _ _ _ _ _ _ _ _ _ _ HI34.out HI4.out).mono ?_); rintro e V5 ⟨rfl, j5, rfl⟩; obtain ⟨u0, u1, u2⟩ := HCL.out _ (below_drewN HQ4.out j5); have HB5 := Lib.hid (below_drewN HB4.out j5); have HQ5 := Lib.hid (below_drewN HQ4.out j5); have HI15 := Lib.hid (HI14.out.below (below_drewN (Below.refl _ _) j5))))
    | (go_at_call 22; ((with_reducible refine (C5.out _ HB5.out).mono ?_); clear C5; rintro e V6 ⟨rfl, hB6⟩; obtain ⟨v0, v1, v2⟩ := HCL.out V6 (below_then HQ5.out hB6); have HI16 := Lib.hid (HI15.out.up hB6); have HQ6 := Lib.hid (below_then HQ5.out hB6); have HB6 := Lib.hid (below_then HB5.out hB6); clear hB6))
    | (go_at_call 22; ((with_reducible refine (C6.out _ HB6.out).mono ?_); clear C6; rintro e V7 ⟨rfl, hB7⟩; have HI17 := Lib.hid (HI16.out.up hB7); have HB7 := Lib.hid (below_then HB6.out hB7); clear hB7))
    | (go_at_call 17; refine (awake2_any _).mono ?_; rintro e w9 ⟨rfl, hB9⟩; have HB9 := Lib.hid (below_then HB7.out hB9)))
  go_ret
  exact ⟨rfl, HB9.out⟩

set_option maxRecDepth 100000 in
set_option maxHeartbeats 4000000 in
theorem ugr_b2 (As A0 A1 A2 : Option Addr) (ns cs n0 c0 n1 c1 n2 c2 : Nat) (ss : Sg) (l0 l1 l2 : List Hd) (b0 b1 b2 : List Bd) (w : World) (hs : SigAt w w.heap.size As ns ss) (h0 : BindsAt w w.heap.size A0 n0 l0 b0) (h1 : BindsAt w w.heap.size A1 n1 l1 b1) (h2 : BindsAt w w.heap.size A2 n2 l2 b2) (hsm : smallOk ns [] = true) (hf0 : fewOk l0 = true) (hf1 : fewOk l1 = true) (hf2 : fewOk l2 = true) (hz : (compZ ss b0 b1).2 = 0) (hz2 : (compZ ss b1 b2).2 = 0) (hg : (compZ ss (compB b0 b1) b2).2 = 0) (hh : (compZ ss b0 (compB b1 b2)).2 = 0) (hq0 : renB ss b0 = true) (hq1 : renB ss b1 = true) :
    Calls Try.prog 6 #[.slice As ns cs, .agg #[.slice A0 n0 c0, .slice A1 n1 c1, .slice A2 n2 c2]] w fun e w' => e = .returned (.bool true) ∧ Below w.heap.size w w' := by
  obtain ⟨WB, hWB⟩ : ∃ WB, trioW w A0 A1 A2 n0 c0 n1 c1 n2 c2 = WB := ⟨_, rfl⟩
  have hBB : Below w.heap.size w WB := by rw [← hWB]; exact bel_al (Below.refl _ _) _
  have HCL := Lib.hid (fun V (h : Below WB.heap.size WB V) => trio_cells (w := w) (A0 := A0) (A1 := A1) (A2 := A2) (n0 := n0) (c0 := c0) (n1 := n1) (c1 := c1) (n2 := n2) (c2 := c2) (V := V) (by rw [hWB]; exact h))
  obtain ⟨x0, x1, x2⟩ := HCL.out WB (Below.refl _ _)
  have HS := Lib.hid (small_any As none ns cs 0 0 [] WB WB.heap.size ⟨rfl, by omega, fun h => absurd h (by omega)⟩)
  have HSM := Lib.hid hsm
  have HWB := Lib.hid hWB
  have HBB := Lib.hid hBB
  have HF0 := Lib.hid (few_any A0 n0 c0 l0 b0 WB _ (h0.up hBB))
  have HF1 := Lib.hid (few_any A1 n1 c1 l1 b1 WB _ (h1.up hBB))
  have HF2 := Lib.hid (few_any A2 n2 c2 l2 b2 WB _ (h2.up hBB))
  have HFF0 := Lib.hid hf0
  have HFF1 := Lib.hid hf1
  have HFF2 := Lib.hid hf2
  have hn0 : n0 ≤ 1000000 := by
    unfold fewOk at hf0
    simp only [Bool.and_eq_true, decide_eq_true_eq] at hf0
    have := h0.ll
    omega
  have hn1 : n1 ≤ 1000000 := by
    unfold fewOk at hf1
    simp only [Bool.and_eq_true, decide_eq_true_eq] at hf1
    have := h1.ll
    omega
  have hn2 : n2 ≤ 1000000 := by
    unfold fewOk at hf2
    simp only [Bool.and_eq_true, decide_eq_true_eq] at hf2
    have := h2.ll
    omega
  have C1 := Lib.hid (compose_any As A0 A1 ns cs n0 c0 n1 c1 ss l0 l1 b0 b1 WB (hs.up hBB) (h0.up hBB) (h1.up hBB) hn0 hn1)
  have C2 := Lib.hid (fun V (h : Below w.heap.size w V) => compose_any As A1 A2 ns cs n1 c1 n2 c2 ss l1 l2 b1 b2 V (hs.up h) (h1.up h) (h2.up h) hn1 hn2)
  have hlen1 := compB_len b0 b1
  have hlen2 := compB_len b1 b2
  obtain ⟨z1, z2, z3, hR⟩ := compZ_zero hz
  obtain ⟨y1, y2, y3, hR2⟩ := compZ_zero hz2
  have hassoc := comp_assoc (a := b0) (b := b1) (c := b2) z1
  have hrent := fun h1 h2 => ren_trio hz h1 h2
  obtain ⟨a, ha⟩ : ∃ a, compB b0 b1 = a := ⟨_, rfl⟩
  obtain ⟨b, hb⟩ : ∃ b, compB b1 b2 = b := ⟨_, rfl⟩
  rw [ha] at hR hlen1 hassoc hrent
  rw [hb] at hR2 hlen2 hassoc
  simp only [hR] at C1
  simp only [hR2] at C2
  have C3 := Lib.hid (fun V (Aa : Option Addr) (na ca : Nat) (la : List Hd) (h : Below w.heap.size w V) (hI : BindsAt V V.heap.size Aa na la a) => compose_any As Aa A2 ns cs na ca n2 c2 ss la l2 a b2 V (hs.up h) hI (h2.up h) (by have := hI.len; omega) hn2)
  have C4 := Lib.hid (fun V (Ab : Option Addr) (nb cb : Nat) (lb : List Hd) (h : Below w.heap.size w V) (hI : BindsAt V V.heap.size Ab nb lb b) => compose_any As A0 Ab ns cs n0 c0 nb cb ss l0 lb b0 b V (hs.up h) (h0.up h) hI hn0 (by have := hI.len; omega))
  have C5 := Lib.hid (fun V (h : Below w.heap.size w V) => renaming_any As A0 ns cs n0 c0 ss l0 b0 V (hs.up h) (h0.up h) hn0)
  have C6 := Lib.hid (fun V (h : Below w.heap.size w V) => renaming_any As A1 ns cs n1 c1 ss l1 b1 V (hs.up h) (h1.up h) hn1)
  have C7 := Lib.hid (fun V (Aa : Option Addr) (na ca : Nat) (la : List Hd) (h : Below w.heap.size w V) (hI : BindsAt V V.heap.size Aa na la a) => renaming_any As Aa ns cs na ca ss la a V (hs.up h) hI (by have := hI.len; omega))
  rw [ha] at hg
  rw [hb] at hh
  obtain ⟨_, _, _, hR3⟩ := compZ_zero hg
  obtain ⟨_, _, _, hR4⟩ := compZ_zero hh
  rw [← hassoc] at hR4
  obtain ⟨cc', hcc⟩ : ∃ cc', compB a b2 = cc' := ⟨_, rfl⟩
  rw [hcc] at hR3 hR4
  simp only [hR3] at C3
  simp only [hR4] at C4
  have hq2 := hrent hq0 hq1
  simp only [hq0] at C5
  simp only [hq1] at C6
  simp only [hq2] at C7
  clear hs h0 h1 h2 hsm hWB hBB hf0 hf1 hf2 hz hz2 hlen1 hlen2 z1 z2 z3 y1 y2 y3 hR hR2 hassoc hrent ha hb hg hh hR3 hR4 hcc hq0 hq1 hq2
  go_enter Try.func6, Try.ntmps6
  go_wp2_with fail
  rw [show w.alloc (.cells #[.slice A0 n0 c0, .slice A1 n1 c1, .slice A2 n2 c2] 44) = WB from HWB.out]
  go_wp2_with (first
    | (go_at_call 15; refine HS.out.mono ?_; rintro e w8 ⟨rfl, rfl⟩; rw [HSM.out])
    | (go_at_call 16; ((with_reducible refine HF0.out.mono ?_); clear HF0; rintro e w8 ⟨rfl, rfl⟩; rw [HFF0.out]))
    | (go_at_call 16; ((with_reducible refine HF1.out.mono ?_); clear HF1; rintro e w8 ⟨rfl, rfl⟩; rw [HFF1.out]))
    | (go_at_call 16; ((with_reducible refine HF2.out.mono ?_); clear HF2; rintro e w8 ⟨rfl, rfl⟩; rw [HFF2.out]))
    | (go_at_call 29; ((with_reducible refine C1.out.mono ?_); clear C1; rintro e V1 ⟨Aa, na, ca, la, rfl, hI1, hB1⟩; obtain ⟨p0, p1, p2⟩ := HCL.out V1 hB1; have HI1 := Lib.hid hI1; have HQ1 := Lib.hid hB1; have HB1 := Lib.hid (below_then HBB.out hB1); clear hI1 hB1))
    | (go_at_call 29; ((with_reducible refine (C2.out _ HB1.out).mono ?_); clear C2; rintro e V2 ⟨Ab, nb, cb, lb, rfl, hI2, hB2⟩; obtain ⟨r0, r1, r2⟩ := HCL.out V2 (below_then HQ1.out hB2); have HI12 := Lib.hid (HI1.out.up hB2); have HI2 := Lib.hid hI2; have HQ2 := Lib.hid (below_then HQ1.out hB2); have HB2 := Lib.hid (below_then HB1.out hB2); clear hI2 hB2))
    | (go_at_call 29; ((with_reducible refine (C3.out _ _ _ _ _ HB2.out HI12.out).mono ?_); clear C3; rintro e V3 ⟨Ac, nc, cc, lc, rfl, hI3, hB3⟩; obtain ⟨s0, s1, s2⟩ := HCL.out V3 (below_then HQ2.out hB3); have HI3 := Lib.hid hI3; have HI13 := Lib.hid (HI12.out.up hB3); have HI23 := Lib.hid (HI2.out.up hB3); have HQ3 := Lib.hid (below_then HQ2.out hB3); have HB3 := Lib.hid (below_then HB2.out hB3); clear hI3 hB3))
    | (go_at_call 29; ((with_reducible refine (C4.out _ _ _ _ _ HB3.out HI23.out).mono ?_); clear C4; rintro e V4 ⟨Ad, nd, cd, ld, rfl, hI4, hB4⟩; obtain ⟨t0, t1, t2⟩ := HCL.out V4 (below_then HQ3.out hB4); have HI4 := Lib.hid hI4; have HI34 := Lib.hid (HI3.out.up hB4); have HI14 := Lib.hid (HI13.out.up hB4); have HQ4 := Lib.hid (below_then HQ3.out hB4); have HB4 := Lib.hid (below_then HB3.out hB4); clear hI4 hB4))
    | (go_at_call 31; ((with_reducible refine (sameBinds_self _ _ _ _ _ _ _ _ _ _ _ HI34.out HI4.out).mono ?_); rintro e V5 ⟨rfl, j5, rfl⟩; obtain ⟨u0, u1, u2⟩ := HCL.out _ (below_drewN HQ4.out j5); have HB5 := Lib.hid (below_drewN HB4.out j5); have HQ5 := Lib.hid (below_drewN HQ4.out j5); have HI15 := Lib.hid (HI14.out.below (below_drewN (Below.refl _ _) j5))))
    | (go_at_call 22; ((with_reducible refine (C5.out _ HB5.out).mono ?_); clear C5; rintro e V6 ⟨rfl, hB6⟩; obtain ⟨v0, v1, v2⟩ := HCL.out V6 (below_then HQ5.out hB6); have HI16 := Lib.hid (HI15.out.up hB6); have HQ6 := Lib.hid (below_then HQ5.out hB6); have HB6 := Lib.hid (below_then HB5.out hB6); clear hB6))
    | (go_at_call 22; ((with_reducible refine (C6.out _ HB6.out).mono ?_); clear C6; rintro e V7 ⟨rfl, hB7⟩; have HI17 := Lib.hid (HI16.out.up hB7); have HB7 := Lib.hid (below_then HB6.out hB7); clear hB7))
    | (go_at_call 22; ((with_reducible refine (C7.out _ _ _ _ _ HB7.out HI17.out).mono ?_); clear C7; rintro e V8 ⟨rfl, hB8⟩; have HB8 := Lib.hid (below_then HB7.out hB8); clear hB8))
    | (go_at_call 17; refine (awake2_any _).mono ?_; rintro e w9 ⟨rfl, hB9⟩; have HB9 := Lib.hid (below_then HB8.out hB9)))
  go_ret
  exact ⟨rfl, HB9.out⟩

theorem ugr_walk (As A0 A1 A2 : Option Addr) (ns cs n0 c0 n1 c1 n2 c2 : Nat) (ss : Sg) (l0 l1 l2 : List Hd) (b0 b1 b2 : List Bd) (w : World) (hs : SigAt w w.heap.size As ns ss) (h0 : BindsAt w w.heap.size A0 n0 l0 b0) (h1 : BindsAt w w.heap.size A1 n1 l1 b1) (h2 : BindsAt w w.heap.size A2 n2 l2 b2) :
    Calls Try.prog 6 #[.slice As ns cs, .agg #[.slice A0 n0 c0, .slice A1 n1 c1, .slice A2 n2 c2]] w fun e w' => e = .returned (.bool true) ∧ Below w.heap.size w w' := by
  cases hsm : smallOk ns []
  · exact ugr_small As A0 A1 A2 ns cs n0 c0 n1 c1 n2 c2 ss l0 l1 l2 b0 b1 b2 w hs h0 h1 h2 hsm
  cases hf0 : fewOk l0
  · exact ugr_few0 As A0 A1 A2 ns cs n0 c0 n1 c1 n2 c2 ss l0 l1 l2 b0 b1 b2 w hs h0 h1 h2 hsm hf0
  cases hf1 : fewOk l1
  · exact ugr_few1 As A0 A1 A2 ns cs n0 c0 n1 c1 n2 c2 ss l0 l1 l2 b0 b1 b2 w hs h0 h1 h2 hsm hf0 hf1
  cases hf2 : fewOk l2
  · exact ugr_few2 As A0 A1 A2 ns cs n0 c0 n1 c1 n2 c2 ss l0 l1 l2 b0 b1 b2 w hs h0 h1 h2 hsm hf0 hf1 hf2
  by_cases hz : (compZ ss b0 b1).2 = 0
  · by_cases hz2 : (compZ ss b1 b2).2 = 0
    · by_cases hg : (compZ ss (compB b0 b1) b2).2 = 0
      · by_cases hh : (compZ ss b0 (compB b1 b2)).2 = 0
        · cases hq0 : renB ss b0
          · exact ugr_b0 As A0 A1 A2 ns cs n0 c0 n1 c1 n2 c2 ss l0 l1 l2 b0 b1 b2 w hs h0 h1 h2 hsm hf0 hf1 hf2 hz hz2 hg hh hq0
          · cases hq1 : renB ss b1
            · exact ugr_b1 As A0 A1 A2 ns cs n0 c0 n1 c1 n2 c2 ss l0 l1 l2 b0 b1 b2 w hs h0 h1 h2 hsm hf0 hf1 hf2 hz hz2 hg hh hq0 hq1
            · exact ugr_b2 As A0 A1 A2 ns cs n0 c0 n1 c1 n2 c2 ss l0 l1 l2 b0 b1 b2 w hs h0 h1 h2 hsm hf0 hf1 hf2 hz hz2 hg hh hq0 hq1
        · cases hq0 : renB ss b0
          · exact ugr_h0 As A0 A1 A2 ns cs n0 c0 n1 c1 n2 c2 ss l0 l1 l2 b0 b1 b2 w hs h0 h1 h2 hsm hf0 hf1 hf2 hz hz2 hg hh hq0
          · cases hq1 : renB ss b1
            · exact ugr_h1 As A0 A1 A2 ns cs n0 c0 n1 c1 n2 c2 ss l0 l1 l2 b0 b1 b2 w hs h0 h1 h2 hsm hf0 hf1 hf2 hz hz2 hg hh hq0 hq1
            · exact ugr_h2 As A0 A1 A2 ns cs n0 c0 n1 c1 n2 c2 ss l0 l1 l2 b0 b1 b2 w hs h0 h1 h2 hsm hf0 hf1 hf2 hz hz2 hg hh hq0 hq1
      · cases hq0 : renB ss b0
        · exact ugr_g0 As A0 A1 A2 ns cs n0 c0 n1 c1 n2 c2 ss l0 l1 l2 b0 b1 b2 w hs h0 h1 h2 hsm hf0 hf1 hf2 hz hz2 hg hq0
        · cases hq1 : renB ss b1
          · exact ugr_g1 As A0 A1 A2 ns cs n0 c0 n1 c1 n2 c2 ss l0 l1 l2 b0 b1 b2 w hs h0 h1 h2 hsm hf0 hf1 hf2 hz hz2 hg hq0 hq1
          · exact ugr_g2 As A0 A1 A2 ns cs n0 c0 n1 c1 n2 c2 ss l0 l1 l2 b0 b1 b2 w hs h0 h1 h2 hsm hf0 hf1 hf2 hz hz2 hg hq0 hq1
    · exact ugr_f As A0 A1 A2 ns cs n0 c0 n1 c1 n2 c2 ss l0 l1 l2 b0 b1 b2 w hs h0 h1 h2 hsm hf0 hf1 hf2 hz hz2
  · exact ugr_e As A0 A1 A2 ns cs n0 c0 n1 c1 n2 c2 ss l0 l1 l2 b0 b1 b2 w hs h0 h1 h2 hsm hf0 hf1 hf2 hz

end Go.Proofs.Ytodcogngejgpfaa
