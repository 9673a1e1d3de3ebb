/- The reference's Detach and Detaches at any arguments. -/
import Derived.Test.YtapcdhagkbfccaaGreatKOg
import Derived.Test.YtapcdhagkbfccaaGreatKQg
import Derived.Test.YtapcdhagkbfccaaGreatZGg
import Derived.Test.YtapcdhagkbfccaaGreatZ8g
import Derived.Test.YtapcdhagkbfccaaGreatB0g
/- Detachment is most general: whatever binds make of the major's first part the minor, what they make of its second part is an instance of the detachment (mathematics, for KernelGeneral). -/
namespace Go.Proofs.YtapcdhagkbfccaaGreat
open Go.RowKit

section
variable {ss : Sg}
theorem Shot.vb {zm zn A B : List Int} (h : Shot ss zm zn A B) : valOk ss B = true :=
  valOk_mk (valOk_sig h.vm) (by have := h.lens; omega) (fun x hx => (valOk_term h.vm).2.2.1 x (by rw [h.eq]; simp [hx])) h.sb
end

end Go.Proofs.YtapcdhagkbfccaaGreat

/- The kernel's Detaches at any arguments. -/
namespace Go.Proofs.YtapcdhagkbfccaaGreat
open Go.RowKit

end Go.Proofs.YtapcdhagkbfccaaGreat

/- What Detach hands back is what the reference's solver finds (mathematics, for KernelDetaches). -/
namespace Go.Proofs.YtapcdhagkbfccaaGreat
open Go.RowKit

section
variable {ss : Sg}
theorem form_raw {U : List Int} : formZ (decide (U.length ≤ 60)) U = (if RawOk U then (canon U, (0 : Int)) else ([], 4)) := by
  have e : RawOk U ↔ (U.length ≤ 60 ∧ (seenTo U U.length).length ≤ 12) := by unfold RawOk; rw [seenA_to]
  by_cases h : RawOk U
  · rw [if_pos h]
    unfold formZ
    rw [if_pos ⟨decide_eq_true (e.1 h).1, (e.1 h).2⟩]
  · rw [if_neg h]
    unfold formZ
    rw [if_neg (fun g => h (e.2 ⟨of_decide_eq_true g.1, g.2⟩))]
theorem det_same {zm zn B : List Int} (sh : Shot ss zm zn (prt ss zm 1) B) :
    ∃ m bo T' s r, solF ss m (prt ss zm 1) (apartL zn) noTo = some (bo, T') ∧ hasZ ss 12 (prt ss zm 1) zn = bo ∧ (bo = true → WholeIs T' B s r) ∧ detZ ss zm zn = if bo = true then formZ (decide (s ≤ 60)) r else ([], 8) := by
  have ga := good_val sh.va
  have gb := good_val sh.vb
  have gc := good_apart sh.vn
  obtain ⟨m, bo, T', ρ', hsol, hT, hl, hA, hyes, hno⟩ := sol_top ga gc
  have hns := sigOk_len (valOk_sig sh.vm)
  have hap : apartL zn = zn.map shv := rfl
  have hhd : zm.head? = some 0 := by rw [sh.eq]; rfl
  have hvv : (valOk ss zm && valOk ss zn) = true := by rw [sh.vm, sh.vn]; rfl
  have hg := im_good hA hl hT
  cases hz : hasZ ss 12 (prt ss zm 1) zn with
  | false =>
    cases bo with
    | true =>
      have := sh.meets.2 _ hg (by rw [← hap]; exact (hyes rfl _ hg).1 (im_resp hA hl))
      rw [hz] at this
      cases this
    | false =>
      refine ⟨m, false, T', 0, [], hsol, rfl, fun h => (by cases h), ?_⟩
      unfold detZ
      rw [if_pos hvv, if_pos hhd, if_neg (by simp [hz]), if_neg (by simp)]
  | true =>
    obtain ⟨σ0, g0, s0⟩ := sh.meets.1 hz
    cases bo with
    | false => exact absurd (by rw [hap]; exact s0) (hno rfl σ0 g0)
    | true =>
      have F := sh.fit g0 s0
      refine ⟨m, true, T', _, _, hsol, rfl, fun _ => whole_is hA hl hT (by omega) gb, ?_⟩
      rw [if_pos rfl]
      obtain ⟨τ, gτ, t1, t2⟩ := F.own
      obtain ⟨U, hUe⟩ : ∃ U, nuK ss zm zn (1 + (prt ss zm 1).length) = U := ⟨_, rfl⟩
      have hU : apV (imT T') U = whT T' B := by
        rw [← hUe, F.gen _ hg (by rw [← hap]; exact (hyes rfl _ hg).1 (im_resp hA hl)), whT_apV hA hl]
      have hV : apV τ (whT T' B) = U := by
        rw [wh_resp hA hl ((hyes rfl τ gτ).2 (by rw [hap]; exact t1)), t2, hUe]
      have hal := alike_of gτ hg hU hV
      have hd : detZ ss zm zn = formZ (decide (U.length ≤ 60)) U := by
        rw [form_raw]
        unfold detZ
        rw [if_pos hvv, if_pos hhd, if_pos hz, sh.bh, hUe]
      rw [hd]
      by_cases h60 : U.length ≤ 60
      · rw [decide_eq_true h60, decide_eq_true (by omega), form_alike hal]
      · rw [decide_eq_false h60, decide_eq_false (by omega)]
        unfold formZ
        rw [if_neg (fun h => by cases h.1), if_neg (fun h => by cases h.1)]
end

end Go.Proofs.YtapcdhagkbfccaaGreat

/- The reference's detach and Detach: what they hand back. -/
namespace Go.Proofs.YtapcdhagkbfccaaGreat
open Go.RowKit

theorem psA_first {ss : Sg} {zm zn A B : List Int} (sh : Shot ss zm zn A B) : psA ss zm 0 0 = 1 ∧ psA ss zm 0 1 = 1 + A.length := by
  refine ⟨psA_zero (by rw [sh.eq]; simp), ?_⟩
  unfold psA
  rw [sh.eq, show ((0 : Int) :: (A ++ B)).drop (0 + 1) = A ++ B from rfl, scan_append ss _ _ _ _ sh.sa]
  simp
  omega

end Go.Proofs.YtapcdhagkbfccaaGreat

namespace Go.Proofs.YtapcdhagkbfccaaGreat
open Go.RowKit

end Go.Proofs.YtapcdhagkbfccaaGreat
