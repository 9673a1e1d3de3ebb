/- The kernel's Detaches at any arguments. -/
import Derived.Test.YtpdokmdapjdnoaaKOg
import Derived.Test.YtpdokmdapjdnoaaKQg
/- Detachment is most general: whatever binds make of the major's first part the minor, what they make of its second part is an instance of the detachment (mathematics, for KernelGeneral). -/
namespace Go.Proofs.Ytpdokmdapjdnoaa
open Go.RowKit

section
variable {ss : Sg}
theorem Shot.vb {zm zn A B : List Int} (h : Shot ss zm zn A B) : valOk ss B = true :=
  valOk_mk (valOk_sig h.vm) (by have := h.lens; omega) (fun x hx => (valOk_term h.vm).2.2.1 x (by rw [h.eq]; simp [hx])) h.sb
theorem det_general {zM zN B : List Int} {L K : List Bd} (vM : valOk ss zM = true) (vN : valOk ss zN = true) (hL : bindsOk ss L = true) (hK : bindsOk ss K = true) (hMh : zM.head? = some 0) (sh : Shot ss (appl L zM) zN (appl K zN) B) :
    hasZ ss 12 (prt ss zM 1) zN = true ∧ ((detZ ss zM zN).2 = 0 ∨ (detZ ss zM zN).2 = 4) ∧ ((detZ ss zM zN).2 = 0 → insB ss (detZ ss zM zN).1 B = true) := by
  obtain ⟨B', sH⟩ := shot_of vM vN hMh
  obtain ⟨fL, hfL⟩ : ∃ f : Int → List Int, (fun z => if -12 ≤ z then ofB L (-z - 1) else [-1]) = f := ⟨_, rfl⟩
  obtain ⟨fK, hfK⟩ : ∃ f : Int → List Int, (fun z => if -12 ≤ z then ofB K (-z - 1) else [-1]) = f := ⟨_, rfl⟩
  have gL : GoodV ss fL := fun z hz => by
    rw [← hfL]
    simp only
    split
    · exact (valOk_term (ofB_ok hL (by omega) (by omega))).2.2.2
    · exact scan_neg (by omega)
  have gK : GoodV ss fK := fun z hz => by
    rw [← hfK]
    simp only
    split
    · exact (valOk_term (ofB_ok hK (by omega) (by omega))).2.2.2
    · exact scan_neg (by omega)
  have aL := appl_apV (ss := ss) L (valOk_term vM).2.2.1
  have aK := appl_apV (ss := ss) K (valOk_term vN).2.2.1
  rw [hfL, apV_sft0] at aL
  rw [hfK, apV_sft0] at aK
  obtain ⟨μ, hμ⟩ : ∃ μ : Int → List Int, (fun z => if -12 ≤ z then fL z else fK (z + 12)) = μ := ⟨_, rfl⟩
  have gμ : GoodV ss μ := fun z hz => by
    rw [← hμ]
    simp only
    split
    · exact gL z hz
    · exact gK _ (by omega)
  have m1 : ∀ t : List Int, (∀ z ∈ t, -12 ≤ z) → apV μ t = apV fL t := fun t ht => by
    refine apV_cong fun z hz _ => ?_
    rw [← hμ]
    simp only
    rw [if_pos (ht z hz)]
  have m2 : apV μ (zN.map shv) = appl K zN := by
    rw [apV_shv, ← aK]
    refine apV_cong fun z hz hz0 => ?_
    rw [← hμ]
    unfold sft
    simp only
    rw [if_neg (by omega), show z - 12 + 12 = z by omega]
  have hM12 : ∀ z ∈ zM, -12 ≤ z := fun z hz => ((valOk_term vM).2.2.1 z hz).1
  have hA12 : ∀ z ∈ prt ss zM 1, -12 ≤ z := fun z hz => hM12 z (by rw [sH.eq]; simp [hz])
  have hB12 : ∀ z ∈ B', -12 ≤ z := fun z hz => hM12 z (by rw [sH.eq]; simp [hz])
  have hsplit : apV fL (prt ss zM 1) = appl K zN ∧ apV fL B' = B := by
    have h1 := aL
    rw [sh.eq] at h1
    rw [sH.eq] at h1
    rw [show (0 : Int) :: (prt ss zM 1 ++ B') = [0] ++ (prt ss zM 1 ++ B') from rfl, apV_append, apV_append, apV_one, if_neg (by omega)] at h1
    have h2 : apV fL (prt ss zM 1) ++ apV fL B' = appl K zN ++ B := by
      have := h1
      simp only [List.cons_append, List.nil_append, List.cons.injEq, true_and] at this
      exact this
    exact scan_cancel (scan_apV gL _ 1 [] sH.sa) sh.sa h2
  have hμA : apV μ (prt ss zM 1) = apV μ (zN.map shv) := by rw [m1 _ hA12, hsplit.1, m2]
  have hhas := sH.meets.2 μ gμ hμA
  have F := sH.fit gμ hμA
  have hgen := F.gen μ gμ hμA
  by_cases hraw : RawOk (nuK ss zM zN (1 + (prt ss zM 1).length))
  · have eZ : detZ ss zM zN = (canon (nuK ss zM zN (1 + (prt ss zM 1).length)), 0) := by
      unfold detZ
      rw [if_pos (by rw [vM, vN]; rfl), if_pos hMh, if_pos hhas, sH.bh, if_pos hraw]
    rw [eZ]
    refine ⟨hhas, Or.inl rfl, fun _ => ?_⟩
    exact (canon_ins_of sh.vb (nuK_scan sH _) gμ (by rw [hgen, m1 _ hB12, hsplit.2]) (by rw [← seenA_to]; exact hraw.2)).2
  · have eZ : detZ ss zM zN = ([], 4) := by
      unfold detZ
      rw [if_pos (by rw [vM, vN]; rfl), if_pos hMh, if_pos hhas, sH.bh, if_neg hraw]
    rw [eZ]
    exact ⟨hhas, Or.inr rfl, fun h => by cases h⟩
end

end Go.Proofs.Ytpdokmdapjdnoaa

namespace Go.Proofs.Ytpdokmdapjdnoaa
open Go.RowKit

/-- Whether there is a detachment. -/
def detB (ss : Sg) (zm zn : List Int) : Bool := if valOk ss zm = true ∧ zm.head? = some 0 then hasZ ss 12 (prt ss zm 1) zn else false

set_option maxRecDepth 100000 in
set_option maxHeartbeats 1000000 in
theorem kdetaches_all (As Am An : Option Addr) (ns cs nm cm nn cn : Nat) (ss : Sg) (zm zn : List Int) (w : World) (hs : SigAt w w.heap.size As ns ss) (hm : IntsAt w w.heap.size Am nm zm) (hn : IntsAt w w.heap.size An nn zn) (hc : nm ≤ cm) (hc2 : cm ≤ 9223372036854775807) :
    Calls Try.prog 38 #[.slice As ns cs, .slice Am nm cm, .slice An nn cn] w fun e w' => e = .returned (.bool (detB ss zm zn)) ∧ Below w.heap.size w w' := by
  by_cases h0 : valOk ss zm = true ∧ zm.head? = some 0
  · have := kdetaches_any As Am An ns cs nm cm nn cn ss zm zn w hs hm hn hc hc2 h0.1 h0.2
    unfold detB
    rw [if_pos h0]
    exact this
  · have hd : detB ss zm zn = false := by unfold detB; rw [if_neg h0]
    rw [hd]
    have hlm := hm.len
    obtain ⟨W1, hW1⟩ : ∃ W1, w.alloc (.cells #[.int .i64 0] 3) = W1 := ⟨_, rfl⟩
    have b1 : Below w.heap.size w W1 := by rw [← hW1]; exact bel_al0 _ _
    have i1 : IntsAt W1 W1.heap.size (some ⟨w.heap.size, 0, none⟩) 1 [0] := by rw [← hW1]; exact ints_var w 0
    have C1 := Lib.hid (at_any As Am (some ⟨w.heap.size, 0, none⟩) ns cs nm cm 1 1 ss zm [0] W1 (hs.up b1) (hm.up b1) i1 hc hc2 (by omega))
    have HAT := Lib.hid (fun (e : (atR ss zm [0]).2 = 0) => show zm.head? ≠ some 0 ∧ 1 ≤ nm from by
      have hv : valOk ss zm = true := by
        cases hv : valOk ss zm
        · unfold atR at e
          rw [if_pos hv] at e
          cases e
        · rfl
      exact ⟨fun h => h0 ⟨hv, h⟩, by rw [hlm]; exact (valOk_term hv).1⟩)
    obtain ⟨R, hR⟩ : ∃ R, atR ss zm [0] = R := ⟨_, rfl⟩
    rw [hR] at C1 HAT
    rw [← hW1] at C1
    rw [← hW1] at b1
    obtain ⟨a, er⟩ := R
    simp only at C1 HAT
    have HB1 := Lib.hid b1
    have C2 := Lib.hid (fun (h1 : 1 ≤ nm) V (h : Below w.heap.size w V) => ksays_any Am nm cm zm V (hm.up h) h1)
    by_cases he : er = 0
    · subst he
      obtain ⟨q1, q2⟩ := HAT.out rfl
      have C3 := Lib.hid (fun V (h : Below w.heap.size w V) => (C2.out q2 V h).mono (R' := fun e w' => e = .returned (.bool false) ∧ Below V.heap.size V w') fun e w' h => by rw [decide_eq_false q1] at h; exact h)
      clear hs hm hn b1 i1 hW1 hlm h0 hd hR C2 HAT q1 q2
      go_enter Try.func38, Try.ntmps38
      go_wp2_with (first
        | (go_at_call 86; refine C1.out.mono ?_; rintro e w1 ⟨A, n, c, rfl, hI1, hB1⟩; have HI1 := Lib.hid hI1; have HB2 := Lib.hid (below_then HB1.out hB1); clear hI1 hB1)
        | (go_at_call 82; refine (C3.out _ HB2.out).mono ?_; rintro e w2 ⟨rfl, hB3⟩; have HB3 := Lib.hid (below_then HB2.out hB3); clear hB3))
      go_ret
      exact ⟨rfl, HB3.out⟩
    · have he1 : (er == 0) = false := by simpa using he
      clear hs hm hn b1 i1 hW1 hlm h0 hd hR C2 HAT
      go_enter Try.func38, Try.ntmps38
      go_wp2_with (go_at_call 86; refine C1.out.mono ?_; rintro e w1 ⟨A, n, c, rfl, hI1, hB1⟩; have HI1 := Lib.hid hI1; have HB2 := Lib.hid (below_then HB1.out hB1); clear hI1 hB1)
      go_ret
      exact ⟨rfl, HB2.out⟩

end Go.Proofs.Ytpdokmdapjdnoaa
