/- lemmarylaw04.KernelMoves: for every input the statement's function returns true, and its arguments read behind the call as they read before. No condition. -/
import Derived.Test.YtpdokmdapjdnoaaPOg
import Derived.Test.YtpdokmdapjdnoaaPYg
import Derived.Test.YtpdokmdapjdnoaaK8g
/- The walk of KernelMoves. -/
namespace Go.Proofs.Ytpdokmdapjdnoaa
open Go.RowKit

set_option maxHeartbeats 400000 in
theorem light_any (A : Option Addr) (n c : Nat) (w : World) : Calls Try.prog 43 #[.slice A n c] w fun e w' => e = .returned (.bool (decide (n ≤ 100))) ∧ w = w' := by
  by_cases h : n ≤ 100
  · rw [decide_eq_true h]
    go_enter Try.func43, Try.ntmps43
    go_wp2
    go_ret
    simp; omega
  · rw [decide_eq_false h]
    go_enter Try.func43, Try.ntmps43
    go_wp2
    go_ret
    simp; omega

set_option maxRecDepth 100000 in
set_option maxHeartbeats 4000000 in
theorem km_walk (g cnt : Int) (Ap Ax : Option Addr) (np cp nx cx : Nat) (pp : List Stp) (xs : List Int) (w : World) (hp : StepsAt w w.heap.size Ap np pp) (hx : IntsAt w w.heap.size Ax nx xs) :
    Calls Try.prog 13 #[.int .i64 g, .agg #[.slice Ap np cp, .slice Ax nx cx, .int .i64 cnt]] w fun e w' => e = .returned (.bool true) ∧ Below w.heap.size w w' := by
  obtain ⟨N, hN⟩ : ∃ N, w.heap.size = N := ⟨_, rfl⟩
  obtain ⟨W2, hW2⟩ : ∃ W2, w.alloc (.cells #[.slice Ap np cp, .slice Ax nx cx, .int .i64 cnt] 73) = W2 := ⟨_, rfl⟩
  have hB : Below w.heap.size w W2 := by rw [← hW2]; exact (Below.refl _ w).alloc (Nat.le_refl _) _
  have hz : W2.heap.size = N + 1 := by rw [← hW2]; simp [hN]
  have bx : Blk W2 w.heap.size 73 #[.slice Ap np cp, .slice Ax nx cx, .int .i64 cnt] := by
    rw [← hW2]; exact Blk.new w _ _
  rw [hN] at bx
  have b0 : W2.cell? ⟨N, 0, none⟩ = some (.slice Ap np cp) := bx.cell 0
  have b1 : W2.cell? ⟨N, 1, none⟩ = some (.slice Ax nx cx) := bx.cell 1
  have b2 : W2.cell? ⟨N, 2, none⟩ = some (.int .i64 cnt) := bx.cell 2
  have hNlt : N < W2.heap.size := by omega
  have up : ∀ V, Below W2.heap.size W2 V → Below w.heap.size w V := fun V hb => hB.trans (hb.mono hB.size)
  have HCE := Lib.hid (fun V' (hb : Below W2.heap.size W2 V') => show V'.cell? ⟨N, 0, none⟩ = some (.slice Ap np cp) ∧ V'.cell? ⟨N, 1, none⟩ = some (.slice Ax nx cx) ∧ V'.cell? ⟨N, 2, none⟩ = some (.int .i64 cnt) from
    ⟨(hb.cell (p := ⟨N, 0, none⟩) hNlt).trans b0, (hb.cell (p := ⟨N, 1, none⟩) hNlt).trans b1, (hb.cell (p := ⟨N, 2, none⟩) hNlt).trans b2⟩)
  have HUP := Lib.hid up
  have HW2 := Lib.hid hW2
  have HN := Lib.hid hN
  have HB0 := Lib.hid (Below.refl W2.heap.size W2)
  by_cases h1 : np ≤ 100
  · by_cases h2 : nx ≤ 100
    · have HP := Lib.hid (hp.up hB)
      have HX := Lib.hid (hx.up hB)
      have HM := Lib.hid (fun (V : World) (hb : Below W2.heap.size W2 V) => moved_any g cnt Ap Ax np cp nx cx pp xs V (HP.out.up hb) (HX.out.up hb) (by omega))
      have HR := Lib.hid (fun (V : World) (hb : Below W2.heap.size W2 V) => refMoved_any g cnt Ap Ax np cp nx cx pp xs V (HP.out.up hb) (HX.out.up hb) (by omega))
      obtain ⟨Z, hZ⟩ : ∃ Z, movZ g pp xs cnt = Z := ⟨_, rfl⟩
      obtain ⟨zp, ze⟩ := Z
      rw [hZ] at HM HR
      have h2' : (nx : Int) ≤ 100 := by omega
      have HL := Lib.hid (light_any Ap np cp W2)
      rw [decide_eq_true h1] at HL
      clear bx hp hx hB up hz hW2 hZ h2 h1
      rw [hN]
      clear hN
      go_enter Try.func13, Try.ntmps13
      go_wp2_with fail
      rw [HW2.out, HN.out]
      go_wp2_with (first
        | (go_at_call 43; ((with_reducible refine HL.out.mono ?_); rintro e V1 ⟨rfl, rfl⟩))
        | (go_at_call 61
           (with_reducible refine (HM.out _ HB0.out).mono ?_)
           rintro e V2 ⟨A2, n2, c2, rfl, hS2, hB2⟩
           have HB2 := Lib.hid (below_then HB0.out hB2)
           have HS2 := Lib.hid hS2
           obtain ⟨x0, x1, x2⟩ := HCE.out _ HB2.out
           clear hB2 hS2)
        | (go_at_call 62
           (with_reducible refine (HR.out _ HB2.out).mono ?_)
           rintro e V3 ⟨A3, n3, c3, rfl, hS3, hB3⟩
           have HS3 := Lib.hid hS3
           have HB3 := Lib.hid (below_then HB2.out hB3)
           have HS23 := Lib.hid (HS2.out.up hB3)
           clear hB3 hS3)
        | (go_at_call 58
           (with_reducible refine (sameSteps_self A2 A3 n2 c2 n3 c3 zp _ _ HS23.out HS3.out).mono ?_)
           rintro e V4 ⟨rfl, j, hV4⟩
           have HB4 := Lib.hid (show Below W2.heap.size W2 V4 from by rw [hV4]; exact below_drewN HB3.out j)
           clear hV4)
        | (go_at_call 35; refine (awake4_any _).mono ?_; rintro e Vz ⟨rfl, hBz⟩; have HBz := Lib.hid (below_then HB4.out hBz); clear hBz))
      go_ret
      exact ⟨rfl, by rw [← HN.out]; exact HUP.out _ HBz.out⟩
    · have h2' : (100 : Int) < (nx : Int) := by omega
      have HL := Lib.hid (light_any Ap np cp W2)
      rw [decide_eq_true h1] at HL
      clear bx hp hx hB up hz hW2 h2 h1
      rw [hN]
      clear hN
      go_enter Try.func13, Try.ntmps13
      go_wp2_with fail
      rw [HW2.out, HN.out]
      go_wp2_with (first
        | (go_at_call 43; ((with_reducible refine HL.out.mono ?_); rintro e V1 ⟨rfl, rfl⟩))
        | (go_at_call 35; refine (awake4_any _).mono ?_; rintro e Vz ⟨rfl, hBz⟩; have HBz := Lib.hid (below_then HB0.out hBz); clear hBz))
      go_ret
      exact ⟨rfl, by rw [← HN.out]; exact HUP.out _ HBz.out⟩
  · have HL := Lib.hid (light_any Ap np cp W2)
    rw [decide_eq_false h1] at HL
    clear bx hp hx hB up hz hW2 h1
    rw [hN]
    clear hN
    go_enter Try.func13, Try.ntmps13
    go_wp2_with fail
    rw [HW2.out, HN.out]
    go_wp2_with (first
      | (go_at_call 43; ((with_reducible refine HL.out.mono ?_); rintro e V1 ⟨rfl, rfl⟩))
      | (go_at_call 35; refine (awake4_any _).mono ?_; rintro e Vz ⟨rfl, hBz⟩; have HBz := Lib.hid (below_then HB0.out hBz); clear hBz))
    go_ret
    exact ⟨rfl, by rw [← HN.out]; exact HUP.out _ HBz.out⟩

end Go.Proofs.Ytpdokmdapjdnoaa

namespace Go.Proofs.Ytpdokmdapjdnoaa
open Go.ChangeShapes Go.WideShapes Go.ChangeAt Go.RowKit Go.Deep

set_option maxRecDepth 100000 in
theorem kmoves_lifted (os : Os) (started : os.Started) (H : Type) (enc : TypeId × Value → H) :
    ReturnsInHanded {} Try.checked os 13 .any (Rows.kernelMovesSpec.pre6 enc Try.prog Try.f13 Rows.kernelMovesRow.domain false) (Rows.kernelMovesSpec.post enc Try.prog Try.f13 false true false false) := by
  refine returnsInHanded_of_change (C := Try.checked) own started (by kernel_rfl) Try.func13
    (ChangeSpec.witness6 (enc := enc) (C := Try.checked) false ⟨#[], #[.int .i64 0, .agg #[.slice none 0 0, .slice none 0 0, .int .i64 0]], []⟩ 8 (by kernel_rfl) (by kernel_rfl) (by kernel_rfl) (by kernel_rfl)) ?_
  intro W base args ds gs before hval0 hW hcnd _
  have hval : ∀ (j : Nat) t v, Try.f13.params[j]? = some t → args[j]? = some v → Value.okWide Try.prog W .any base t v := hval0
  have hW' := hW
  obtain ⟨p, q, hA0, hV, rfl, hfz, hnd⟩ := hW
  have hA : DataW.TrodAll enc Try.prog W 0 (fun _ => true) true Try.f13.params.toList args.toList ds p := hA0
  rw [Try.params13] at hA hval
  obtain ⟨v0, vs0, d0, ds0, p0, q0, hargs, rfl, rfl, h0, r0⟩ := trodAll_cons hA
  obtain ⟨v1, vs1, d1, ds1, p1, q1, rfl, rfl, rfl, h1, r1⟩ := trodAll_cons r0
  obtain ⟨rfl, rfl, rfl⟩ := trodAll_nil r1
  obtain rfl : args = #[v0, v1] := by cases args; simp_all
  obtain ⟨rfl, rfl⟩ := trodVars_none hV
  obtain ⟨at0, rfl⟩ := okWide_int Try.underlying3 (hval 0 3 v0 rfl rfl)
  have k0 := h0
  have k1 := h1
  have lt0 : ∀ x ∈ p0, x.block < W.heap.size := by obtain ⟨m, hm⟩ := k0; exact DataW.trod_lt m _ _ _ hm
  have lt1 : ∀ x ∈ p1, x.block < W.heap.size := by obtain ⟨m, hm⟩ := k1; exact DataW.trod_lt m _ _ _ hm
  obtain ⟨f0, e0⟩ := h0
  obtain ⟨Ap1, np1, cp1, pp1, Ax1, nx1, cx1, xs1, cnt1, rfl, hp1, hx1⟩ := read_move h1
  clear hA0 hval0
  refine (km_walk _ _ _ _ _ _ _ _ _ _ W hp1 hx1).mono fun e W' ⟨he, bel⟩ => ?_
  subst he
  exact ⟨_, rfl, _, _, _, [], _, [], hW', trodAll_mk1 (shut_bool Try.underlying4 _), (trodAll_cons_mk (Below.trod laidOut (by kernel_rfl) (of_decide_eq_true (by kernel_rfl)) k0 bel lt0) (trodAll_cons_mk (Below.trod laidOut (by kernel_rfl) (of_decide_eq_true (by kernel_rfl)) k1 bel lt1) trodAll_mk0)), rfl, bel.frame _, fun h => by cases h⟩

theorem kmoves_holds : Rows.KernelMovesSaid :=
  OpenClaim.holds_of_wide 13 Try.f13 rfl rfl rfl rfl rfl rfl rfl ⟨rfl, rfl, rfl, rfl, rfl⟩ rfl rfl rfl rfl rfl (by kernel_rfl) Try.func13 (by kernel_rfl)
    (of_decide_eq_true (by kernel_rfl)) (by unfold Func.isWrapper; first | (rw [if_pos (by decide +kernel)]; kernel_rfl) | (rw [if_neg (by decide +kernel)]; exact ⟨rfl, rfl⟩))
    (fun os started H enc _ => kmoves_lifted os started H enc)

end Go.Proofs.Ytpdokmdapjdnoaa
