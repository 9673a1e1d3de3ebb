/- The walk of KernelMoved. -/
import Derived.Test.YtpdokmdapjdnoaaPOg
import Derived.Test.YtpdokmdapjdnoaaPYg
import Derived.Test.YtpdokmdapjdnoaaQBg
/- The walk of KernelMoves. -/
namespace Go.Proofs.Ytpdokmdapjdnoaa
open Go.RowKit

set_option maxHeartbeats 400000 in
theorem light_any (A : Option Addr) (n c : Nat) (w : World) : Calls Try.prog 43 #[.slice A n c] w fun e w' => e = .returned (.bool (decide (n ≤ 100))) ∧ w = w' := by
  by_cases h : n ≤ 100
  · rw [decide_eq_true h]
    go_enter Try.func43, Try.ntmps43
    go_wp2
    go_ret
    simp; omega
  · rw [decide_eq_false h]
    go_enter Try.func43, Try.ntmps43
    go_wp2
    go_ret
    simp; omega

end Go.Proofs.Ytpdokmdapjdnoaa

namespace Go.Proofs.Ytpdokmdapjdnoaa
open Go.RowKit

set_option maxRecDepth 100000 in
set_option maxHeartbeats 4000000 in
theorem kv_shelf (As Ag Ap Ax : Option Addr) (ns cs ng cg np cp nx cx : Nat) (ss : Sg) (lg : List Hd) (gg : List (List Int)) (pp : List Stp) (xs : List Int) (cnt : Int) (w : World) (_hs : SigAt w w.heap.size As ns ss) (hg : TermsAt w w.heap.size Ag ng lg gg) (_hp : StepsAt w w.heap.size Ap np pp) (_hx : IntsAt w w.heap.size Ax nx xs) (h1 : (decide (ng ≤ 80) && smallOk ns lg) = false) :
    Calls Try.prog 14 #[.slice As ns cs, .slice Ag ng cg, .agg #[.slice Ap np cp, .slice Ax nx cx, .int .i64 cnt]] w fun e w' => e = .returned (.bool true) ∧ Below w.heap.size w w' := by
  obtain ⟨N, hN⟩ : ∃ N, w.heap.size = N := ⟨_, rfl⟩
  obtain ⟨W2, hW2⟩ : ∃ W2, w.alloc (.cells #[.slice Ap np cp, .slice Ax nx cx, .int .i64 cnt] 73) = W2 := ⟨_, rfl⟩
  have hB : Below w.heap.size w W2 := by rw [← hW2]; exact (Below.refl _ w).alloc (Nat.le_refl _) _
  have hz : W2.heap.size = N + 1 := by rw [← hW2]; simp [hN]
  have bx : Blk W2 w.heap.size 73 #[.slice Ap np cp, .slice Ax nx cx, .int .i64 cnt] := by
    rw [← hW2]; exact Blk.new w _ _
  rw [hN] at bx
  have b0 : W2.cell? ⟨N, 0, none⟩ = some (.slice Ap np cp) := bx.cell 0
  have b1 : W2.cell? ⟨N, 1, none⟩ = some (.slice Ax nx cx) := bx.cell 1
  have b2 : W2.cell? ⟨N, 2, none⟩ = some (.int .i64 cnt) := bx.cell 2
  have hNlt : N < W2.heap.size := by omega
  have up : ∀ V, Below W2.heap.size W2 V → Below w.heap.size w V := fun V hb => hB.trans (hb.mono hB.size)
  have HCE := Lib.hid (fun V' (hb : Below W2.heap.size W2 V') => show V'.cell? ⟨N, 0, none⟩ = some (.slice Ap np cp) ∧ V'.cell? ⟨N, 1, none⟩ = some (.slice Ax nx cx) ∧ V'.cell? ⟨N, 2, none⟩ = some (.int .i64 cnt) from
    ⟨(hb.cell (p := ⟨N, 0, none⟩) hNlt).trans b0, (hb.cell (p := ⟨N, 1, none⟩) hNlt).trans b1, (hb.cell (p := ⟨N, 2, none⟩) hNlt).trans b2⟩)
  have HUP := Lib.hid up
  have HW2 := Lib.hid hW2
  have HN := Lib.hid hN
  have HB0 := Lib.hid (Below.refl W2.heap.size W2)
  have HSH := Lib.hid (shelf_any As Ag ns cs ng cg lg W2 _ ((hg.up hB).hds))
  have HL := Lib.hid (light_any Ap np cp W2)
  rw [h1] at HSH
  clear bx hB up hz hW2 _hs hg _hp _hx h1 HL
  rw [hN]
  clear hN
  go_enter Try.func14, Try.ntmps14
  go_wp2_with fail
  rw [HW2.out, HN.out]
  go_wp2_with (first
    | (go_at_call 42; ((with_reducible refine HSH.out.mono ?_); rintro e V1 ⟨rfl, rfl⟩))
    | (go_at_call 35; refine (awake4_any _).mono ?_; rintro e Vz ⟨rfl, hBz⟩; have HBz := Lib.hid (below_then HB0.out hBz); clear hBz))
  go_ret
  exact ⟨rfl, by rw [← HN.out]; exact HUP.out _ HBz.out⟩

set_option maxRecDepth 100000 in
set_option maxHeartbeats 4000000 in
theorem kv_light (As Ag Ap Ax : Option Addr) (ns cs ng cg np cp nx cx : Nat) (ss : Sg) (lg : List Hd) (gg : List (List Int)) (pp : List Stp) (xs : List Int) (cnt : Int) (w : World) (_hs : SigAt w w.heap.size As ns ss) (hg : TermsAt w w.heap.size Ag ng lg gg) (_hp : StepsAt w w.heap.size Ap np pp) (_hx : IntsAt w w.heap.size Ax nx xs) (h1 : (decide (ng ≤ 80) && smallOk ns lg) = true) (h2 : ¬ np ≤ 100) :
    Calls Try.prog 14 #[.slice As ns cs, .slice Ag ng cg, .agg #[.slice Ap np cp, .slice Ax nx cx, .int .i64 cnt]] w fun e w' => e = .returned (.bool true) ∧ Below w.heap.size w w' := by
  obtain ⟨N, hN⟩ : ∃ N, w.heap.size = N := ⟨_, rfl⟩
  obtain ⟨W2, hW2⟩ : ∃ W2, w.alloc (.cells #[.slice Ap np cp, .slice Ax nx cx, .int .i64 cnt] 73) = W2 := ⟨_, rfl⟩
  have hB : Below w.heap.size w W2 := by rw [← hW2]; exact (Below.refl _ w).alloc (Nat.le_refl _) _
  have hz : W2.heap.size = N + 1 := by rw [← hW2]; simp [hN]
  have bx : Blk W2 w.heap.size 73 #[.slice Ap np cp, .slice Ax nx cx, .int .i64 cnt] := by
    rw [← hW2]; exact Blk.new w _ _
  rw [hN] at bx
  have b0 : W2.cell? ⟨N, 0, none⟩ = some (.slice Ap np cp) := bx.cell 0
  have b1 : W2.cell? ⟨N, 1, none⟩ = some (.slice Ax nx cx) := bx.cell 1
  have b2 : W2.cell? ⟨N, 2, none⟩ = some (.int .i64 cnt) := bx.cell 2
  have hNlt : N < W2.heap.size := by omega
  have up : ∀ V, Below W2.heap.size W2 V → Below w.heap.size w V := fun V hb => hB.trans (hb.mono hB.size)
  have HCE := Lib.hid (fun V' (hb : Below W2.heap.size W2 V') => show V'.cell? ⟨N, 0, none⟩ = some (.slice Ap np cp) ∧ V'.cell? ⟨N, 1, none⟩ = some (.slice Ax nx cx) ∧ V'.cell? ⟨N, 2, none⟩ = some (.int .i64 cnt) from
    ⟨(hb.cell (p := ⟨N, 0, none⟩) hNlt).trans b0, (hb.cell (p := ⟨N, 1, none⟩) hNlt).trans b1, (hb.cell (p := ⟨N, 2, none⟩) hNlt).trans b2⟩)
  have HUP := Lib.hid up
  have HW2 := Lib.hid hW2
  have HN := Lib.hid hN
  have HB0 := Lib.hid (Below.refl W2.heap.size W2)
  have HSH := Lib.hid (shelf_any As Ag ns cs ng cg lg W2 _ ((hg.up hB).hds))
  have HL := Lib.hid (light_any Ap np cp W2)
  rw [h1] at HSH
  rw [decide_eq_false h2] at HL
  clear bx hB up hz hW2 _hs hg _hp _hx h1 h2
  rw [hN]
  clear hN
  go_enter Try.func14, Try.ntmps14
  go_wp2_with fail
  rw [HW2.out, HN.out]
  go_wp2_with (first
    | (go_at_call 42; ((with_reducible refine HSH.out.mono ?_); rintro e V1 ⟨rfl, rfl⟩))
    | (go_at_call 43; ((with_reducible refine HL.out.mono ?_); rintro e V1 ⟨rfl, rfl⟩))
    | (go_at_call 35; refine (awake4_any _).mono ?_; rintro e Vz ⟨rfl, hBz⟩; have HBz := Lib.hid (below_then HB0.out hBz); clear hBz))
  go_ret
  exact ⟨rfl, by rw [← HN.out]; exact HUP.out _ HBz.out⟩

set_option maxRecDepth 100000 in
set_option maxHeartbeats 4000000 in
theorem kv_long (As Ag Ap Ax : Option Addr) (ns cs ng cg np cp nx cx : Nat) (ss : Sg) (lg : List Hd) (gg : List (List Int)) (pp : List Stp) (xs : List Int) (cnt : Int) (w : World) (_hs : SigAt w w.heap.size As ns ss) (hg : TermsAt w w.heap.size Ag ng lg gg) (_hp : StepsAt w w.heap.size Ap np pp) (_hx : IntsAt w w.heap.size Ax nx xs) (h1 : (decide (ng ≤ 80) && smallOk ns lg) = true) (h2 : np ≤ 100) (h3 : ¬ nx ≤ 100) :
    Calls Try.prog 14 #[.slice As ns cs, .slice Ag ng cg, .agg #[.slice Ap np cp, .slice Ax nx cx, .int .i64 cnt]] w fun e w' => e = .returned (.bool true) ∧ Below w.heap.size w w' := by
  obtain ⟨N, hN⟩ : ∃ N, w.heap.size = N := ⟨_, rfl⟩
  obtain ⟨W2, hW2⟩ : ∃ W2, w.alloc (.cells #[.slice Ap np cp, .slice Ax nx cx, .int .i64 cnt] 73) = W2 := ⟨_, rfl⟩
  have hB : Below w.heap.size w W2 := by rw [← hW2]; exact (Below.refl _ w).alloc (Nat.le_refl _) _
  have hz : W2.heap.size = N + 1 := by rw [← hW2]; simp [hN]
  have bx : Blk W2 w.heap.size 73 #[.slice Ap np cp, .slice Ax nx cx, .int .i64 cnt] := by
    rw [← hW2]; exact Blk.new w _ _
  rw [hN] at bx
  have b0 : W2.cell? ⟨N, 0, none⟩ = some (.slice Ap np cp) := bx.cell 0
  have b1 : W2.cell? ⟨N, 1, none⟩ = some (.slice Ax nx cx) := bx.cell 1
  have b2 : W2.cell? ⟨N, 2, none⟩ = some (.int .i64 cnt) := bx.cell 2
  have hNlt : N < W2.heap.size := by omega
  have up : ∀ V, Below W2.heap.size W2 V → Below w.heap.size w V := fun V hb => hB.trans (hb.mono hB.size)
  have HCE := Lib.hid (fun V' (hb : Below W2.heap.size W2 V') => show V'.cell? ⟨N, 0, none⟩ = some (.slice Ap np cp) ∧ V'.cell? ⟨N, 1, none⟩ = some (.slice Ax nx cx) ∧ V'.cell? ⟨N, 2, none⟩ = some (.int .i64 cnt) from
    ⟨(hb.cell (p := ⟨N, 0, none⟩) hNlt).trans b0, (hb.cell (p := ⟨N, 1, none⟩) hNlt).trans b1, (hb.cell (p := ⟨N, 2, none⟩) hNlt).trans b2⟩)
  have HUP := Lib.hid up
  have HW2 := Lib.hid hW2
  have HN := Lib.hid hN
  have HB0 := Lib.hid (Below.refl W2.heap.size W2)
  have HSH := Lib.hid (shelf_any As Ag ns cs ng cg lg W2 _ ((hg.up hB).hds))
  have HL := Lib.hid (light_any Ap np cp W2)
  rw [h1] at HSH
  rw [decide_eq_true h2] at HL
  have h3' : (100 : Int) < (nx : Int) := by omega
  clear bx hB up hz hW2 _hs hg _hp _hx h1 h2 h3
  rw [hN]
  clear hN
  go_enter Try.func14, Try.ntmps14
  go_wp2_with fail
  rw [HW2.out, HN.out]
  go_wp2_with (first
    | (go_at_call 42; ((with_reducible refine HSH.out.mono ?_); rintro e V1 ⟨rfl, rfl⟩))
    | (go_at_call 43; ((with_reducible refine HL.out.mono ?_); rintro e V1 ⟨rfl, rfl⟩))
    | (go_at_call 35; refine (awake4_any _).mono ?_; rintro e Vz ⟨rfl, hBz⟩; have HBz := Lib.hid (below_then HB0.out hBz); clear hBz))
  go_ret
  exact ⟨rfl, by rw [← HN.out]; exact HUP.out _ HBz.out⟩

set_option maxRecDepth 100000 in
set_option maxHeartbeats 4000000 in
theorem kv_givens (As Ag Ap Ax : Option Addr) (ns cs ng cg np cp nx cx : Nat) (ss : Sg) (lg : List Hd) (gg : List (List Int)) (pp : List Stp) (xs : List Int) (cnt : Int) (w : World) (hs : SigAt w w.heap.size As ns ss) (hg : TermsAt w w.heap.size Ag ng lg gg) (_hp : StepsAt w w.heap.size Ap np pp) (_hx : IntsAt w w.heap.size Ax nx xs) (h1 : (decide (ng ≤ 80) && smallOk ns lg) = true) (h2 : np ≤ 100) (h3 : nx ≤ 100) (h4 : givOk ss gg = false) :
    Calls Try.prog 14 #[.slice As ns cs, .slice Ag ng cg, .agg #[.slice Ap np cp, .slice Ax nx cx, .int .i64 cnt]] w fun e w' => e = .returned (.bool true) ∧ Below w.heap.size w w' := by
  obtain ⟨N, hN⟩ : ∃ N, w.heap.size = N := ⟨_, rfl⟩
  obtain ⟨W2, hW2⟩ : ∃ W2, w.alloc (.cells #[.slice Ap np cp, .slice Ax nx cx, .int .i64 cnt] 73) = W2 := ⟨_, rfl⟩
  have hB : Below w.heap.size w W2 := by rw [← hW2]; exact (Below.refl _ w).alloc (Nat.le_refl _) _
  have hz : W2.heap.size = N + 1 := by rw [← hW2]; simp [hN]
  have bx : Blk W2 w.heap.size 73 #[.slice Ap np cp, .slice Ax nx cx, .int .i64 cnt] := by
    rw [← hW2]; exact Blk.new w _ _
  rw [hN] at bx
  have b0 : W2.cell? ⟨N, 0, none⟩ = some (.slice Ap np cp) := bx.cell 0
  have b1 : W2.cell? ⟨N, 1, none⟩ = some (.slice Ax nx cx) := bx.cell 1
  have b2 : W2.cell? ⟨N, 2, none⟩ = some (.int .i64 cnt) := bx.cell 2
  have hNlt : N < W2.heap.size := by omega
  have up : ∀ V, Below W2.heap.size W2 V → Below w.heap.size w V := fun V hb => hB.trans (hb.mono hB.size)
  have HCE := Lib.hid (fun V' (hb : Below W2.heap.size W2 V') => show V'.cell? ⟨N, 0, none⟩ = some (.slice Ap np cp) ∧ V'.cell? ⟨N, 1, none⟩ = some (.slice Ax nx cx) ∧ V'.cell? ⟨N, 2, none⟩ = some (.int .i64 cnt) from
    ⟨(hb.cell (p := ⟨N, 0, none⟩) hNlt).trans b0, (hb.cell (p := ⟨N, 1, none⟩) hNlt).trans b1, (hb.cell (p := ⟨N, 2, none⟩) hNlt).trans b2⟩)
  have HUP := Lib.hid up
  have HW2 := Lib.hid hW2
  have HN := Lib.hid hN
  have HB0 := Lib.hid (Below.refl W2.heap.size W2)
  have HSH := Lib.hid (shelf_any As Ag ns cs ng cg lg W2 _ ((hg.up hB).hds))
  have HL := Lib.hid (light_any Ap np cp W2)
  have HS := Lib.hid (hs.up hB)
  have HG := Lib.hid (hg.up hB)
  have hng : ng ≤ 80 := by simp only [Bool.and_eq_true, decide_eq_true_iff] at h1; exact h1.1
  rw [h1] at HSH
  rw [decide_eq_true h2] at HL
  have h3' : (nx : Int) ≤ 100 := by omega
  have HVG := Lib.hid (fun (V : World) (hb : Below W2.heap.size W2 V) => refValidGivens_any As Ag ns cs ng cg ss lg gg V ((HS.out).up hb) ((HG.out).up hb) (by omega))
  rw [h4] at HVG
  clear bx hB up hz hW2 hs hg _hp _hx h1 h2 h3 h4
  rw [hN]
  clear hN
  go_enter Try.func14, Try.ntmps14
  go_wp2_with fail
  rw [HW2.out, HN.out]
  go_wp2_with (first
    | (go_at_call 42; ((with_reducible refine HSH.out.mono ?_); rintro e V1 ⟨rfl, rfl⟩))
    | (go_at_call 43; ((with_reducible refine HL.out.mono ?_); rintro e V1 ⟨rfl, rfl⟩))
    | (go_at_call 48; ((with_reducible refine (HVG.out _ HB0.out).mono ?_); rintro e V1 ⟨rfl, hB1⟩; have HB1 := Lib.hid hB1; clear hB1))
    | (go_at_call 35; refine (awake4_any _).mono ?_; rintro e Vz ⟨rfl, hBz⟩; have HBz := Lib.hid (below_then HB1.out hBz); clear hBz))
  go_ret
  exact ⟨rfl, by rw [← HN.out]; exact HUP.out _ HBz.out⟩

set_option maxRecDepth 100000 in
set_option maxHeartbeats 4000000 in
theorem kv_good (As Ag Ap Ax : Option Addr) (ns cs ng cg np cp nx cx : Nat) (ss : Sg) (lg : List Hd) (gg : List (List Int)) (pp : List Stp) (xs : List Int) (cnt : Int) (w : World) (hs : SigAt w w.heap.size As ns ss) (hg : TermsAt w w.heap.size Ag ng lg gg) (hp : StepsAt w w.heap.size Ap np pp) (hx : IntsAt w w.heap.size Ax nx xs) (h1 : (decide (ng ≤ 80) && smallOk ns lg) = true) (h2 : np ≤ 100) (h3 : nx ≤ 100) (h4 : givOk ss gg = true) :
    Calls Try.prog 14 #[.slice As ns cs, .slice Ag ng cg, .agg #[.slice Ap np cp, .slice Ax nx cx, .int .i64 cnt]] w fun e w' => e = .returned (.bool true) ∧ Below w.heap.size w w' := by
  obtain ⟨N, hN⟩ : ∃ N, w.heap.size = N := ⟨_, rfl⟩
  obtain ⟨W2, hW2⟩ : ∃ W2, w.alloc (.cells #[.slice Ap np cp, .slice Ax nx cx, .int .i64 cnt] 73) = W2 := ⟨_, rfl⟩
  have hB : Below w.heap.size w W2 := by rw [← hW2]; exact (Below.refl _ w).alloc (Nat.le_refl _) _
  have hz : W2.heap.size = N + 1 := by rw [← hW2]; simp [hN]
  have bx : Blk W2 w.heap.size 73 #[.slice Ap np cp, .slice Ax nx cx, .int .i64 cnt] := by
    rw [← hW2]; exact Blk.new w _ _
  rw [hN] at bx
  have b0 : W2.cell? ⟨N, 0, none⟩ = some (.slice Ap np cp) := bx.cell 0
  have b1 : W2.cell? ⟨N, 1, none⟩ = some (.slice Ax nx cx) := bx.cell 1
  have b2 : W2.cell? ⟨N, 2, none⟩ = some (.int .i64 cnt) := bx.cell 2
  have hNlt : N < W2.heap.size := by omega
  have up : ∀ V, Below W2.heap.size W2 V → Below w.heap.size w V := fun V hb => hB.trans (hb.mono hB.size)
  have HCE := Lib.hid (fun V' (hb : Below W2.heap.size W2 V') => show V'.cell? ⟨N, 0, none⟩ = some (.slice Ap np cp) ∧ V'.cell? ⟨N, 1, none⟩ = some (.slice Ax nx cx) ∧ V'.cell? ⟨N, 2, none⟩ = some (.int .i64 cnt) from
    ⟨(hb.cell (p := ⟨N, 0, none⟩) hNlt).trans b0, (hb.cell (p := ⟨N, 1, none⟩) hNlt).trans b1, (hb.cell (p := ⟨N, 2, none⟩) hNlt).trans b2⟩)
  have HUP := Lib.hid up
  have HW2 := Lib.hid hW2
  have HN := Lib.hid hN
  have HB0 := Lib.hid (Below.refl W2.heap.size W2)
  have HSH := Lib.hid (shelf_any As Ag ns cs ng cg lg W2 _ ((hg.up hB).hds))
  have HL := Lib.hid (light_any Ap np cp W2)
  have HS := Lib.hid (hs.up hB)
  have HG := Lib.hid (hg.up hB)
  have HP := Lib.hid (hp.up hB)
  have HX := Lib.hid (hx.up hB)
  have hng : ng ≤ 80 := by simp only [Bool.and_eq_true, decide_eq_true_iff] at h1; exact h1.1
  rw [h1] at HSH
  rw [decide_eq_true h2] at HL
  have h3' : (nx : Int) ≤ 100 := by omega
  have HVG := Lib.hid (fun (V : World) (hb : Below W2.heap.size W2 V) => refValidGivens_any As Ag ns cs ng cg ss lg gg V ((HS.out).up hb) ((HG.out).up hb) (by omega))
  rw [h4] at HVG
  have HSAY := Lib.hid (fun hm => moved_says (pp := pp) (xs := xs) h4 hm)
  have HLX := Lib.hid hx.len
  have HLG := Lib.hid hg.len
  have HNG := Lib.hid hng
  obtain ⟨i0, hi, hz0, hz1, hz2⟩ := info_parts info_term
  clear bx hB up hz hW2 hs hg hp hx h1 h2 h4 hng
  rw [hN]
  clear hN
  go_enter Try.func14, Try.ntmps14
  go_wp2_with fail
  rw [HW2.out, HN.out]
  go_wp2_with (first
    | (go_at_call 42; ((with_reducible refine HSH.out.mono ?_); rintro e V1 ⟨rfl, rfl⟩))
    | (go_at_call 43; ((with_reducible refine HL.out.mono ?_); rintro e V1 ⟨rfl, rfl⟩))
    | (go_at_call 48; ((with_reducible refine (HVG.out _ HB0.out).mono ?_); rintro e V1 ⟨rfl, hB1⟩; have HB1 := Lib.hid hB1; clear hB1)))
  go_loopw [7, 8] (fun v i wr => ∃ (k : Nat) (lk : List Hd) (Av : Option Addr) (cv : Nat), k ≤ nx ∧ i = .int .i64 k ∧ v = .slice Av k cv ∧ RowsAt 25 wr V1.heap.size (.slice Av k cv) k lk (oldG gg (xs.take k)) ∧ Below W2.heap.size W2 wr ∧ V1.heap.size ≤ wr.heap.size) (fun _ i _ => nx - (intOf i).toNat)
  case atStart => exact ⟨0, [], none, 0, Nat.zero_le _, rfl, rfl, RowsAt.nil _ _ _, HB1.out, Nat.le_refl _⟩
  case round =>
    obtain ⟨k, lk, Av, cv, hk, rfl, rfl, hrow, hBw, hsz⟩ := hrel
    have HBW := Lib.hid hBw
    have HROW := Lib.hid hrow
    have HSZ := Lib.hid hsz
    obtain ⟨x0, x1, x2⟩ := HCE.out _ hBw
    by_cases hlt : k < nx
    · obtain ⟨bx, ox, zx, rfl, hix, hkx, ex0⟩ := HX.out.cellAt hlt
      have t1 := (hBw.cell (p := ⟨bx, ox + k, none⟩) (World.block_lt_of_cell? W2 _ hix)).trans hix
      have hk0 : (0 : Int) ≤ (k : Int) := by omega
      have hk1 : (k : Int) < (nx : Int) := by omega
      by_cases hz0' : zx < 0
      · clear hix hkx ex0 hrow hBw hsz
        go_wp2_with (go_at_call 35; refine (awake4_any _).mono ?_; rintro e Vz ⟨rfl, hBz⟩; have HBz := Lib.hid (below_then HBW.out hBz); clear hBz)
        go_ret
        exact ⟨rfl, by rw [← HN.out]; exact HUP.out _ HBz.out⟩
      · obtain ⟨zn, rfl⟩ := Int.eq_ofNat_of_zero_le (show 0 ≤ zx by omega)
        by_cases hzn : zn < ng
        · obtain ⟨bg, og, A', n', c', t', rfl, hbg, q1, q2, hI⟩ := HG.out.cellAt hzn
          have u1 := (hBw.cell (p := ⟨bg, og + zn, none⟩) hbg).trans q1
          have z0 : (0 : Int) ≤ (zn : Int) := by omega
          have z1 : (zn : Int) < (ng : Int) := by omega
          have H := Lib.hid (show oldG gg (xs.take (k + 1)) = oldG gg (xs.take k) ++ [t'] from by
            rw [List.take_succ_eq_append_getElem hkx, ex0]
            simp only [oldG, List.map_append, List.map_cons, List.map_nil, Int.toNat_natCast, List.getD_eq_getElem?_getD, q2, Option.getD_some])
          have HI := Lib.hid (show IntsBut wr (Value.slice Av k cv).ownBlock A' n' t' from by
            have hI2 := hI.below hBw
            refine ⟨hI2.len, hI2.max, fun h0 => ?_⟩
            obtain ⟨b5, o5, e5, hb5, hc5⟩ := hI2.mem h0
            refine ⟨b5, o5, e5, Nat.lt_of_lt_of_le hb5 hBw.size, fun e => ?_, hc5⟩
            have h5 := (hrow.row.lt b5 e.symm).1
            have h6 := HB1.out.size
            omega)
          clear hix hkx ex0 hrow hBw hsz q1 q2 hI hz0' hzn
          go_wp2_with (first
            | (at_builtin
               refine wpList_append_own_at _ rfl _ _ 46 rfl V1.heap.size 25 i0 _ 1 24 Try.underlying46 hi hz0 hz1 hz2 rfl (by omega) (.slice Av k cv) k (lk.map Hd.val) rfl (HROW.out.row.alloc _) ⟨wr.heap.size, 0, none⟩ 1 1 [Hd.val (A', n', c')] rfl rfl
                 (World.news_of_block (cs := #[Hd.val (A', n', c')]) (t := 25) (fr := (0, 0)) (heap_alloc_new wr _)) (by simp [Value.oneCell', Hd.val]) (by unfold maxLen; omega) (by omega) (by have h1 := HSZ.out; simp; omega) ?_
               intro v4 w4 hown4 hg4 _ hv4
               have HB4 := Lib.hid ((HBW.out.alloc HBW.out.size (.cells #[Hd.val (A', n', c')] 25)).grown hg4 (by have h1 := HBW.out.size; simp; omega) (fun j e => Nat.le_trans HB1.out.size (HROW.out.row.lt j e).1))
               have HR4 := Lib.hid ((HROW.out.below ((Below.refl _ _).alloc (Nat.le_refl _) _)).push (x := (A', n', c')) (HI.out.below ((Below.refl _ _).alloc (Nat.le_refl _) _)) hown4 hg4 hv4)
               have HZ4 := Lib.hid (show V1.heap.size ≤ w4.heap.size from Nat.le_trans HSZ.out (Nat.le_trans (by simp) hg4.size))
               obtain ⟨g4, cap4, e4, _⟩ := hown4.form (by omega)
               subst e4
               clear hown4 hg4 hv4))
          go_roundw
          case rel => exact ⟨k + 1, lk ++ [(A', n', c')], some ⟨g4, 0, none⟩, cap4, by omega, by go_num, rfl, by rw [H.out]; exact HR4.out, HB4.out, HZ4.out⟩
          case measure => simp [intOf]; omega
        · have z0 : (0 : Int) ≤ (zn : Int) := by omega
          have z1 : (ng : Int) ≤ (zn : Int) := by omega
          clear hix hkx ex0 hrow hBw hsz
          go_wp2_with (go_at_call 35; refine (awake4_any _).mono ?_; rintro e Vz ⟨rfl, hBz⟩; have HBz := Lib.hid (below_then HBW.out hBz); clear hBz)
          go_ret
          exact ⟨rfl, by rw [← HN.out]; exact HUP.out _ HBz.out⟩
    · obtain rfl : nx = k := by omega
      obtain ⟨A5, c5, e5, hT⟩ := hrow.terms (by omega)
      cases e5
      rw [List.take_of_length_le (by have := HLX.out; omega)] at hT
      have HT := Lib.hid hT
      obtain ⟨W5, hW5⟩ : ∃ W5, W5 = wr := ⟨_, rfl⟩
      subst hW5
      have HM := Lib.hid (moved_any (nx : Int) (ng : Int) Ap Ax np cp nx cx pp xs W5 (HP.out.up HBW.out) (HX.out.up HBW.out) (by omega))
      have HSAY2 := HSAY.out
      rw [← HLX.out, ← HLG.out] at HSAY2
      obtain ⟨Z, hZ⟩ : ∃ Z, movZ (nx : Int) pp xs (ng : Int) = Z := ⟨_, rfl⟩
      obtain ⟨zp, ze⟩ := Z
      rw [hZ] at HM HSAY2
      simp only at HM HSAY2
      by_cases hze : ze = 0
      · subst hze
        have HSAY3 := HSAY2 rfl
        have HS1 := Lib.hid (fun (V : World) (hb : Below W5.heap.size W5 V) => says_any As Av Ap ns cs nx cv np cp ss lk (oldG gg xs) pp V (HS.out.up (below_then HBW.out hb)) (HT.out.up hb) (HP.out.up (below_then HBW.out hb)) (by omega))
        have HS2 := Lib.hid (fun (V : World) (hb : Below W5.heap.size W5 V) (A : Option Addr) (n c : Nat) (hq : StepsAt V V.heap.size A n zp) => says_any As Ag A ns cs ng cg n c ss lg gg zp V (HS.out.up (below_then HBW.out hb)) (HG.out.up (below_then HBW.out hb)) hq (by have := HNG.out; omega))
        rw [HSAY3] at HS2
        obtain ⟨R, hR⟩ : ∃ R, sayZ ss (oldG gg xs) pp = R := ⟨_, rfl⟩
        rw [hR] at HS1 HS2
        obtain ⟨T, er⟩ := R
        simp only at HS1 HS2
        have heq : (er == er) = true := by simp
        have HB50 := Lib.hid (Below.refl W5.heap.size W5)
        clear hrow hBw hsz hT hZ HSAY2 HSAY3 hR
        go_wp2_with (first
          | (go_at_call 61
             (with_reducible refine HM.out.mono ?_)
             rintro e V2 ⟨A2, n2, c2, rfl, hQ2, hB2⟩
             have HQ2 := Lib.hid hQ2
             have HB2 := Lib.hid hB2
             obtain ⟨y0, y1, y2⟩ := HCE.out _ (below_then HBW.out hB2)
             clear hQ2 hB2)
          | (go_at_call 49
             (with_reducible refine (HS2.out _ HB3.out _ _ _ HQ3.out).mono ?_)
             rintro e V4 ⟨A4, n4, c4, rfl, hI4, _, hB4⟩
             have HI4 := Lib.hid hI4
             have HI34 := Lib.hid (HI3.out.up hB4)
             have HB4 := Lib.hid (below_then HB3.out hB4)
             clear hI4 hB4)
          | (go_at_call 49
             (with_reducible refine (HS1.out _ HB2.out).mono ?_)
             rintro e V3 ⟨A3, n3, c3, rfl, hI3, _, hB3⟩
             have HI3 := Lib.hid hI3
             have HQ3 := Lib.hid (HQ2.out.up hB3)
             have HB3 := Lib.hid (below_then HB2.out hB3)
             clear hI3 hB3)
          | (go_at_call 24
             (with_reducible refine (same_self A3 A4 n3 c3 n4 c4 T _ _ HI34.out HI4.out).mono ?_)
             rintro e V6 ⟨rfl, j, hV6⟩
             have HB6 := Lib.hid (show Below W2.heap.size W2 V6 from by rw [hV6]; exact below_drewN (below_then HBW.out HB4.out) j)
             clear hV6)
          | (go_at_call 35; refine (awake4_any _).mono ?_; rintro e Vz ⟨rfl, hBz⟩; have HBz := Lib.hid (below_then HB6.out hBz); clear hBz))
        go_ret
        exact ⟨rfl, by rw [← HN.out]; exact HUP.out _ HBz.out⟩
      · have hze' : (ze != 0) = true := by simpa using hze
        have hze2 : (ze == 0) = false := by simpa using hze
        clear hrow hBw hsz hT hZ HSAY2 hze
        go_wp2_with (first
          | (go_at_call 61
             (with_reducible refine HM.out.mono ?_)
             rintro e V2 ⟨A2, n2, c2, rfl, _, hB2⟩
             have HB2 := Lib.hid (below_then HBW.out hB2)
             clear hB2)
          | (go_at_call 35; refine (awake4_any _).mono ?_; rintro e Vz ⟨rfl, hBz⟩; have HBz := Lib.hid (below_then HB2.out hBz); clear hBz))
        go_ret
        exact ⟨rfl, by rw [← HN.out]; exact HUP.out _ HBz.out⟩

theorem kv_walk (As Ag Ap Ax : Option Addr) (ns cs ng cg np cp nx cx : Nat) (ss : Sg) (lg : List Hd) (gg : List (List Int)) (pp : List Stp) (xs : List Int) (cnt : Int) (w : World) (hs : SigAt w w.heap.size As ns ss) (hg : TermsAt w w.heap.size Ag ng lg gg) (hp : StepsAt w w.heap.size Ap np pp) (hx : IntsAt w w.heap.size Ax nx xs) :
    Calls Try.prog 14 #[.slice As ns cs, .slice Ag ng cg, .agg #[.slice Ap np cp, .slice Ax nx cx, .int .i64 cnt]] w fun e w' => e = .returned (.bool true) ∧ Below w.heap.size w w' := by
  cases h1 : (decide (ng ≤ 80) && smallOk ns lg)
  · exact kv_shelf As Ag Ap Ax ns cs ng cg np cp nx cx ss lg gg pp xs cnt w hs hg hp hx h1
  · by_cases h2 : np ≤ 100
    · by_cases h3 : nx ≤ 100
      · cases h4 : givOk ss gg
        · exact kv_givens As Ag Ap Ax ns cs ng cg np cp nx cx ss lg gg pp xs cnt w hs hg hp hx h1 h2 h3 h4
        · exact kv_good As Ag Ap Ax ns cs ng cg np cp nx cx ss lg gg pp xs cnt w hs hg hp hx h1 h2 h3 h4
      · exact kv_long As Ag Ap Ax ns cs ng cg np cp nx cx ss lg gg pp xs cnt w hs hg hp hx h1 h2 h3
    · exact kv_light As Ag Ap Ax ns cs ng cg np cp nx cx ss lg gg pp xs cnt w hs hg hp hx h1 h2

end Go.Proofs.Ytpdokmdapjdnoaa
