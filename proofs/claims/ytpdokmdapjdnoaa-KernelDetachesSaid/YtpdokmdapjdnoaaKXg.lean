/- The reference's Detach and Detaches at any arguments. -/
import Derived.Test.YtpdokmdapjdnoaaKYg
import Derived.Test.YtpdokmdapjdnoaaZGg
import Derived.Test.YtpdokmdapjdnoaaZ8g
import Derived.Test.YtpdokmdapjdnoaaB0g
/- What Detach hands back is what the reference's solver finds (mathematics, for KernelDetaches). -/
namespace Go.Proofs.Ytpdokmdapjdnoaa
open Go.RowKit

section
variable {ss : Sg}
theorem form_raw {U : List Int} : formZ (decide (U.length ≤ 60)) U = (if RawOk U then (canon U, (0 : Int)) else ([], 4)) := by
  have e : RawOk U ↔ (U.length ≤ 60 ∧ (seenTo U U.length).length ≤ 12) := by unfold RawOk; rw [seenA_to]
  by_cases h : RawOk U
  · rw [if_pos h]
    unfold formZ
    rw [if_pos ⟨decide_eq_true (e.1 h).1, (e.1 h).2⟩]
  · rw [if_neg h]
    unfold formZ
    rw [if_neg (fun g => h (e.2 ⟨of_decide_eq_true g.1, g.2⟩))]
theorem det_same {zm zn B : List Int} (sh : Shot ss zm zn (prt ss zm 1) B) :
    ∃ m bo T' s r, solF ss m (prt ss zm 1) (apartL zn) noTo = some (bo, T') ∧ hasZ ss 12 (prt ss zm 1) zn = bo ∧ (bo = true → WholeIs T' B s r) ∧ detZ ss zm zn = if bo = true then formZ (decide (s ≤ 60)) r else ([], 8) := by
  have ga := good_val sh.va
  have gb := good_val sh.vb
  have gc := good_apart sh.vn
  obtain ⟨m, bo, T', ρ', hsol, hT, hl, hA, hyes, hno⟩ := sol_top ga gc
  have hns := sigOk_len (valOk_sig sh.vm)
  have hap : apartL zn = zn.map shv := rfl
  have hhd : zm.head? = some 0 := by rw [sh.eq]; rfl
  have hvv : (valOk ss zm && valOk ss zn) = true := by rw [sh.vm, sh.vn]; rfl
  have hg := im_good hA hl hT
  cases hz : hasZ ss 12 (prt ss zm 1) zn with
  | false =>
    cases bo with
    | true =>
      have := sh.meets.2 _ hg (by rw [← hap]; exact (hyes rfl _ hg).1 (im_resp hA hl))
      rw [hz] at this
      cases this
    | false =>
      refine ⟨m, false, T', 0, [], hsol, rfl, fun h => (by cases h), ?_⟩
      unfold detZ
      rw [if_pos hvv, if_pos hhd, if_neg (by simp [hz]), if_neg (by simp)]
  | true =>
    obtain ⟨σ0, g0, s0⟩ := sh.meets.1 hz
    cases bo with
    | false => exact absurd (by rw [hap]; exact s0) (hno rfl σ0 g0)
    | true =>
      have F := sh.fit g0 s0
      refine ⟨m, true, T', _, _, hsol, rfl, fun _ => whole_is hA hl hT (by omega) gb, ?_⟩
      rw [if_pos rfl]
      obtain ⟨τ, gτ, t1, t2⟩ := F.own
      obtain ⟨U, hUe⟩ : ∃ U, nuK ss zm zn (1 + (prt ss zm 1).length) = U := ⟨_, rfl⟩
      have hU : apV (imT T') U = whT T' B := by
        rw [← hUe, F.gen _ hg (by rw [← hap]; exact (hyes rfl _ hg).1 (im_resp hA hl)), whT_apV hA hl]
      have hV : apV τ (whT T' B) = U := by
        rw [wh_resp hA hl ((hyes rfl τ gτ).2 (by rw [hap]; exact t1)), t2, hUe]
      have hal := alike_of gτ hg hU hV
      have hd : detZ ss zm zn = formZ (decide (U.length ≤ 60)) U := by
        rw [form_raw]
        unfold detZ
        rw [if_pos hvv, if_pos hhd, if_pos hz, sh.bh, hUe]
      rw [hd]
      by_cases h60 : U.length ≤ 60
      · rw [decide_eq_true h60, decide_eq_true (by omega), form_alike hal]
      · rw [decide_eq_false h60, decide_eq_false (by omega)]
        unfold formZ
        rw [if_neg (fun h => by cases h.1), if_neg (fun h => by cases h.1)]
end

end Go.Proofs.Ytpdokmdapjdnoaa

/- The reference's detach and Detach: what they hand back. -/
namespace Go.Proofs.Ytpdokmdapjdnoaa
open Go.RowKit

theorem psA_first {ss : Sg} {zm zn A B : List Int} (sh : Shot ss zm zn A B) : psA ss zm 0 0 = 1 ∧ psA ss zm 0 1 = 1 + A.length := by
  refine ⟨psA_zero (by rw [sh.eq]; simp), ?_⟩
  unfold psA
  rw [sh.eq, show ((0 : Int) :: (A ++ B)).drop (0 + 1) = A ++ B from rfl, scan_append ss _ _ _ _ sh.sa]
  simp
  omega

set_option maxRecDepth 100000 in
set_option maxHeartbeats 2000000 in
theorem refdet_any (As Am An : Option Addr) (ns cs nm cm nn cn : Nat) (ss : Sg) (zm zn B : List Int) (w : World) (hs : SigAt w w.heap.size As ns ss) (hm : IntsAt w w.heap.size Am nm zm) (hn : IntsAt w w.heap.size An nn zn) (hc : nm ≤ cm) (hc2 : cm ≤ 9223372036854775807) (sh : Shot ss zm zn (prt ss zm 1) B) :
    Calls Try.prog 85 #[.slice As ns cs, .slice Am nm cm, .slice An nn cn] w (RetK w (detZ ss zm zn).1 (detZ ss zm zn).2) := by
  obtain ⟨m, bo, T', s, r, hso, hhas, hwh, hz⟩ := det_same sh
  rw [hz]
  obtain ⟨v1, v60, v3, v4⟩ := valOk_term sh.vm
  obtain ⟨u1, u60, u3, u4⟩ := valOk_term sh.vn
  have hsl := sigOk_len (valOk_sig sh.vm)
  have har := sigOk_ar (valOk_sig sh.vm)
  have hlm := hm.len
  have hln := hn.len
  have hl := sh.lens
  obtain ⟨p0, p1⟩ := psA_first sh
  have hh : HeadsOk ss zm := fun z hz => (v3 z hz).2
  have hpt := parts_term v4
  have hb2 : begs ss zm 0 2 = [(1 : Int), ((1 + (prt ss zm 1).length : Nat) : Int)] := by
    unfold begs
    simp [List.range_succ, p0, p1]
  have har2 : arOf ss (zm[0]'(by omega)) = 2 := by
    have h0 : zm[0]'(by omega) = 0 := by
      have : zm.head? = some 0 := by rw [sh.eq]; rfl
      rw [List.head?_eq_getElem?, List.getElem?_eq_getElem (by omega)] at this
      exact Option.some.inj this
    rw [h0]
    exact sig_if (valOk_sig sh.vm)
  have C1 := Lib.hid ((refArgs_any As Am ns cs nm cm ss zm [] 0 w hs hm har hh (by omega) (by omega) v4).mono (R' := fun e w' => ∃ g c, e = .returned (.slice (some ⟨g, 0, none⟩) 2 c) ∧ w'.cell? ⟨g, 0, none⟩ = some (.int .i64 1) ∧ w'.cell? ⟨g, 1, none⟩ = some (.int .i64 ((1 + (prt ss zm 1).length : Nat) : Int)) ∧ g < w'.heap.size ∧ Below w.heap.size w w') fun e w' ⟨v, h1, h2, h3⟩ => by
    rw [har2, hb2] at h2
    obtain ⟨_, g, c, rfl, _, hg, hcell⟩ := row_ints_at h2 (by omega)
    exact ⟨g, c, h1, hcell 0 (by simp), hcell 1 (by simp), hg, h3⟩)
  have hB : prt ss zm (1 + (prt ss zm 1).length) = B := by
    refine prt_pre (c := []) _ ?_ sh.sb
    have e := sh.eq
    have e2 : ∀ (X : List Int), ((0 : Int) :: (X ++ B)).drop (1 + X.length) = B := fun X => by
      rw [Nat.add_comm, List.drop_succ_cons, List.drop_left]
    rw [List.append_nil]
    have := e2 (prt ss zm 1)
    rw [← e] at this
    exact this
  have CPA := Lib.hid (fun (p : Nat) (hp : p < zm.length) V (h : Below w.heap.size w V) => by
    obtain ⟨rr, hrr⟩ := hpt p hp
    exact (refPart_any As Am ns cs nm cm ss zm rr p V (hs.up h) (hm.up h) har hh (by omega) hc hc2 hp hrr).mono (R' := fun e w' => ∃ A n c, e = .returned (.slice A n c) ∧ TermK w' A n c (prt ss zm p) ∧ Below V.heap.size V w') fun e w' ⟨v, h1, h2, h3⟩ => by
      obtain ⟨A, c, rfl, hI, hk⟩ := row_intsk h2 (by have := (prt_is hrr).le; omega)
      exact ⟨A, _, c, h1, ⟨hI, hk⟩, h3⟩)
  have C2 := Lib.hid (fun V h => CPA.out 1 (by omega) V h)
  have C3 := Lib.hid (fun V h => CPA.out (1 + (prt ss zm 1).length) (by omega) V h)
  rw [hB] at C3
  have CP := Lib.hid (fun V (h : Below w.heap.size w V) => apart_any An nn cn zn V (hn.up h) (fun z hz => by have := u3 z hz; omega) (by omega) (by omega))
  have gA := good_val sh.va
  have gB := good_val sh.vb
  have hgT := (solF_good m (prt ss zm 1) (apartL zn) noTo bo T' gA (good_apart sh.vn) (noTo_good ss) hso).1
  have CS := Lib.hid (fun (V : World) (d : Nat) (Aa : Option Addr) (na ca : Nat) (Ap : Option Addr) (np cp : Nat) (h : Below w.heap.size w V) (hd : SolAt V d As ns cs noTo) (h1 : TermK V Aa na ca (prt ss zm 1)) (h2 : TermK V Ap np cp (apartL zn)) => sol_any ss har d As ns cs m (prt ss zm 1) (apartL zn) noTo bo T' Aa Ap na ca np cp V (hs.up h) hd (noTo_good ss) gA (good_apart sh.vn) h1 h2 hso)
  have CF := Lib.hid (fun (hb : bo = true) (V : World) (d : Nat) (Aa : Option Addr) (na ca : Nat) (hS : SolAt V d As ns cs T') (h1 : TermK V Aa na ca B) => Few_any d As Aa ns cs na ca T' B s r V hS h1.1 hgT.tos gB.lo (hwh hb))
  obtain ⟨b, off, z, rfl, cz, k1, e1⟩ := hm.cellAt (k := 0) (by omega)
  have hz0 : z = 0 := by
    have : zm.head? = some 0 := by rw [sh.eq]; rfl
    rw [List.head?_eq_getElem?, List.getElem?_eq_getElem k1, e1] at this
    exact Option.some.inj this
  subst hz0
  rw [Nat.add_zero] at cz
  simp only [show ((0 : Nat) : Int) = 0 from rfl] at C1
  simp only [show ((1 : Nat) : Int) = 1 from rfl] at C2
  obtain ⟨q, hq⟩ : ∃ q, 1 + (prt ss zm 1).length = q := ⟨_, rfl⟩
  rw [hq] at C1 C3
  obtain ⟨FT, hFT⟩ : ∃ FT, formZ (decide (s ≤ 60)) r = FT := ⟨_, rfl⟩
  rw [hFT] at CF ⊢
  have hn0 : (0 : Int) < (nm : Int) := by omega
  clear hs hm hn hc hc2 sh hz v1 v60 v3 v4 u1 u60 u3 u4 hsl har hlm hln hl p0 p1 hh hpt hb2 har2 hB CPA gA gB hgT hhas hso hwh e1 hq hFT
  go_enter Try.func85, Try.ntmps85
  go_upto_region 4 with (go_at_call 120; ((with_reducible refine C1.out.mono ?_); rintro e w4 ⟨g, cg, rfl, cg0, cg1, hg, hB4⟩; have HB4 := Lib.hid hB4; clear hB4))
  rename_i Kx hKx
  refine sol_lit As ns cs rfl (by simp) (by simp) (by simp) (by decide) ?_
  show Kx _ _
  refine hKx _ _ ?_
  clear hKx Kx
  obtain ⟨W3, hW3⟩ : ∃ W3, w4.alloc (.cells (solCs As ns cs) 99) = W3 := ⟨_, rfl⟩
  have hB43 : Below w4.heap.size w4 W3 := by rw [← hW3]; exact bel_al (Below.refl _ _) _
  have HS3 := Lib.hid (show SolAt W3 w4.heap.size As ns cs noTo by rw [← hW3]; exact sol_boxed w4 As ns cs)
  have HB3 := Lib.hid (below_then HB4.out hB43)
  have HSZ := Lib.hid (show w.heap.size ≤ w4.heap.size from HB4.out.size)
  have c30 := (hB43.cell (p := ⟨g, 0, none⟩) hg).trans cg0
  have HC31 := Lib.hid ((hB43.cell (p := ⟨g, 1, none⟩) hg).trans cg1)
  have HG3 := Lib.hid (show g < W3.heap.size from Nat.lt_of_lt_of_le hg hB43.size)
  rw [show w4.alloc (.cells (solCs As ns cs) 99) = W3 from hW3]
  clear hW3 cg0 cg1
  have HB43 := Lib.hid hB43
  clear hB43
  cases bo with
  | false =>
    rw [if_neg (by simp)]
    go_wp2_with (first
      | (go_at_call 119; ((with_reducible refine (C2.out _ HB3.out).mono ?_); rintro e w5 ⟨A5, n5, c5, rfl, hT5, hB5⟩; have HB35 := Lib.hid hB5; have HB5 := Lib.hid (below_then HB3.out hB5); have HT5 := Lib.hid hT5; clear hT5 hB5))
      | (go_at_call 77; ((with_reducible refine (CP.out _ HB5.out).mono ?_); rintro e w7 ⟨A7, c7, rfl, hI7, hk7, hB7⟩; have HB7 := Lib.hid (below_then HB5.out hB7); have HS7 := Lib.hid (HS3.out.below (below_then HB35.out hB7)); have HT57 := Lib.hid (HT5.out.below hB7); have HT7 := Lib.hid (show TermK w7 A7 nn c7 (apartL zn) from ⟨hI7, hk7⟩); clear hI7 hk7 hB7))
      | (go_at_call 76; ((with_reducible refine (CS.out _ _ _ _ _ _ _ _ HB7.out HS7.out HT57.out HT7.out).mono ?_); rintro e w6 ⟨rfl, hK6, hS6⟩; have HB6 := Lib.hid (HB7.out.trans (hK6.below (B := w.heap.size) (fun b hb => ⟨Nat.lt_of_lt_of_le hb HB7.out.size, Nat.ne_of_lt (Nat.lt_of_lt_of_le hb HSZ.out)⟩))); clear hK6 hS6)))
    go_ret2
    exact ⟨none, 0, 0, rfl, IntsAt.nil _ _ 0, by omega, HB6.out⟩
  | true =>
    have CG := Lib.hid (fun (V : World) (d : Nat) (Aa : Option Addr) (na ca : Nat) (hS : SolAt V d As ns cs T') (h1 : TermK V Aa na ca B) => CF.out rfl V d Aa na ca hS h1)
    clear CF
    rw [if_pos rfl]
    go_wp2_with (first
      | (go_at_call 119; ((with_reducible refine (C3.out _ HB6.out).mono ?_); rintro e w8 ⟨A8, n8, c8, rfl, hT8, hB8⟩; have HS8 := Lib.hid (HS6.out.below hB8); have HB8 := Lib.hid (below_then HB6.out hB8); have HT8 := Lib.hid hT8; clear hT8 hB8))
      | (go_at_call 119; ((with_reducible refine (C2.out _ HB3.out).mono ?_); rintro e w5 ⟨A5, n5, c5, rfl, hT5, hB5⟩; have HB35 := Lib.hid hB5; have HB5 := Lib.hid (below_then HB3.out hB5); have HT5 := Lib.hid hT5; clear hT5 hB5))
      | (go_at_call 77; ((with_reducible refine (CP.out _ HB5.out).mono ?_); rintro e w7 ⟨A7, c7, rfl, hI7, hk7, hB7⟩; have HB37 := Lib.hid (below_then HB35.out hB7); have HB7 := Lib.hid (below_then HB5.out hB7); have HS7 := Lib.hid (HS3.out.below HB37.out); have HT57 := Lib.hid (HT5.out.below hB7); have HT7 := Lib.hid (show TermK w7 A7 nn c7 (apartL zn) from ⟨hI7, hk7⟩); clear hI7 hk7 hB7))
      | (go_at_call 76; ((with_reducible refine (CS.out _ _ _ _ _ _ _ _ HB7.out HS7.out HT57.out HT7.out).mono ?_); rintro e w6 ⟨rfl, hK6, hS6⟩; have c61 := (hK6.cell (p := ⟨g, 1, none⟩) ⟨Nat.lt_of_lt_of_le HG3.out HB37.out.size, Nat.ne_of_lt hg⟩).trans ((HB37.out.cell (p := ⟨g, 1, none⟩) HG3.out).trans HC31.out); have HB6 := Lib.hid (HB7.out.trans (hK6.below (B := w.heap.size) (fun b hb => ⟨Nat.lt_of_lt_of_le hb HB7.out.size, Nat.ne_of_lt (Nat.lt_of_lt_of_le hb HSZ.out)⟩))); have HS6 := Lib.hid hS6; clear hK6 hS6))
      | (go_at_call 78; ((with_reducible refine (CG.out _ _ _ _ _ HS8.out HT8.out).mono ?_); rintro e w9 ⟨A9, n9, c9, rfl, hI9, hk9, hB9⟩; have HB9 := Lib.hid (below_then HB8.out hB9); have HI9 := Lib.hid hI9; have HK9 := Lib.hid hk9; clear hI9 hB9 hk9)))
    go_ret2
    exact ⟨A9, n9, c9, rfl, HI9.out, HK9.out, HB9.out⟩

end Go.Proofs.Ytpdokmdapjdnoaa

namespace Go.Proofs.Ytpdokmdapjdnoaa
open Go.RowKit

theorem detB_is (ss : Sg) (zm zn : List Int) : ((detZ ss zm zn).2 == 0 || (detZ ss zm zn).2 == 4) = detB ss zm zn := by
  unfold detB detZ
  by_cases hv : (valOk ss zm && valOk ss zn) = true
  · rw [if_pos hv]
    rw [Bool.and_eq_true] at hv
    by_cases hh : zm.head? = some 0
    · rw [if_pos hh, if_pos (show valOk ss zm = true ∧ zm.head? = some 0 from ⟨hv.1, hh⟩)]
      cases hz : hasZ ss 12 (prt ss zm 1) zn
      · rw [if_neg (show ¬ (false = true) from Bool.false_ne_true)]; rfl
      · rw [if_pos (show true = true from rfl)]
        split <;> rfl
    · rw [if_neg hh, if_neg (show ¬ (valOk ss zm = true ∧ zm.head? = some 0) from fun h => hh h.2)]; rfl
  · rw [if_neg hv]
    by_cases h1 : valOk ss zm = true ∧ zm.head? = some 0
    · rw [if_pos h1]
      have h2 : valOk ss zn = false := by
        cases e : valOk ss zn
        · rfl
        · exact absurd (by rw [h1.1, e]; rfl) hv
      have : hasZ ss 12 (prt ss zm 1) zn = false := by unfold hasZ; rw [h2]; simp
      rw [this]
      rfl
    · rw [if_neg h1]
      rfl

set_option maxRecDepth 100000 in
set_option maxHeartbeats 1000000 in
theorem refdet_state (As Am An : Option Addr) (ns cs nm cm nn cn : Nat) (zm : List Int) (w : World) (hm : IntsAt w w.heap.size Am nm zm) (h1 : 1 ≤ nm) (hh : zm.head? ≠ some 0) :
    Calls Try.prog 85 #[.slice As ns cs, .slice Am nm cm, .slice An nn cn] w (RetK w [] 10) := by
  obtain ⟨b, off, z, rfl, c1, k1, e1⟩ := hm.cellAt (k := 0) (by omega)
  rw [Nat.add_zero] at c1
  have hz : ¬ z = 0 := fun e => hh (by rw [List.head?_eq_getElem?, List.getElem?_eq_getElem k1, e1, e])
  have hz1 : (z != 0) = true := by simpa using hz
  have hb0 : (0 : Int) < (nm : Int) := by omega
  clear hm hh e1 k1
  go_enter Try.func85, Try.ntmps85
  go_wp2_with fail
  go_ret2
  exact ⟨none, 0, 0, rfl, IntsAt.nil _ _ 0, by omega, Below.refl _ _⟩

set_option maxRecDepth 100000 in
set_option maxHeartbeats 1000000 in
theorem refDetach_all (As Am An : Option Addr) (ns cs nm cm nn cn : Nat) (ss : Sg) (zm zn : List Int) (w : World) (hs : SigAt w w.heap.size As ns ss) (hm : IntsAt w w.heap.size Am nm zm) (hn : IntsAt w w.heap.size An nn zn) (hc : nm ≤ cm) (hc2 : cm ≤ 9223372036854775807) :
    Calls Try.prog 37 #[.slice As ns cs, .slice Am nm cm, .slice An nn cn] w (RetK w (detZ ss zm zn).1 (detZ ss zm zn).2) := by
  have CA := Lib.hid ((refValid_any As Am ns cs nm cm ss zm w _ hs hm).mono (R' := fun e w' => e = .returned (.bool (valOk ss zm)) ∧ Below w.heap.size w w') fun e w' ⟨h1, k, h2⟩ => ⟨h1, by rw [h2]; exact below_drewN (Below.refl _ _) k⟩)
  have CB := Lib.hid (fun V (h : Below w.heap.size w V) => (refValid_any As An ns cs nn cn ss zn V _ (hs.up h) (hn.up h)).mono (R' := fun e w' => e = .returned (.bool (valOk ss zn)) ∧ Below V.heap.size V w') fun e w' ⟨h1, k, h2⟩ => ⟨h1, by rw [h2]; exact below_drewN (Below.refl _ _) k⟩)
  cases hv1 : valOk ss zm
  · have hz : detZ ss zm zn = ([], 1) := by unfold detZ; rw [if_neg (by simp [hv1])]
    rw [hz]
    rw [hv1] at CA
    clear hs hm hn hv1 hz CB hc hc2
    go_enter Try.func37, Try.ntmps37
    go_wp2_with (go_at_call 66; ((with_reducible refine CA.out.mono ?_); rintro e w1 ⟨rfl, hB1⟩; have HB1 := Lib.hid hB1; clear hB1))
    go_ret2
    exact ⟨none, 0, 0, rfl, IntsAt.nil _ _ 0, by omega, HB1.out⟩
  rw [hv1] at CA
  cases hv2 : valOk ss zn
  · have hz : detZ ss zm zn = ([], 1) := by unfold detZ; rw [if_neg (by simp [hv2])]
    rw [hz]
    simp only [hv2] at CB
    clear hs hm hn hv1 hv2 hz hc hc2
    go_enter Try.func37, Try.ntmps37
    go_wp2_with (first
      | (go_at_call 66; ((with_reducible refine (CB.out _ HB1.out).mono ?_); rintro e w2 ⟨rfl, hB2⟩; have HB2 := Lib.hid (below_then HB1.out hB2); clear hB2))
      | (go_at_call 66; ((with_reducible refine CA.out.mono ?_); rintro e w1 ⟨rfl, hB1⟩; have HB1 := Lib.hid hB1; clear hB1)))
    go_ret2
    exact ⟨none, 0, 0, rfl, IntsAt.nil _ _ 0, by omega, HB2.out⟩
  simp only [hv2] at CB
  have hlm := hm.len
  have hv60 := (valOk_term hv1).1
  have CD : Hid (∀ V, Below w.heap.size w V → Calls Try.prog 85 #[.slice As ns cs, .slice Am nm cm, .slice An nn cn] V (RetK V (detZ ss zm zn).1 (detZ ss zm zn).2)) := Lib.hid fun V h => by
    by_cases hh : zm.head? = some 0
    · obtain ⟨B, sh⟩ := shot_of hv1 hv2 hh
      exact refdet_any As Am An ns cs nm cm nn cn ss zm zn B V (hs.up h) (hm.up h) (hn.up h) hc hc2 sh
    · have hz : detZ ss zm zn = ([], 10) := by unfold detZ; rw [if_pos (by simp [hv1, hv2]), if_neg hh]
      rw [hz]
      exact refdet_state As Am An ns cs nm cm nn cn zm V (hm.up h) (by omega) hh
  obtain ⟨R, hR⟩ : ∃ R, detZ ss zm zn = R := ⟨_, rfl⟩
  rw [hR] at CD ⊢
  obtain ⟨T, er⟩ := R
  simp only at CD ⊢
  clear hs hm hn hv1 hv2 hc hc2 hlm hv60 hR
  go_enter Try.func37, Try.ntmps37
  go_wp2_with (first
    | (go_at_call 66; ((with_reducible refine (CB.out _ HB1.out).mono ?_); rintro e w2 ⟨rfl, hB2⟩; have HB2 := Lib.hid (below_then HB1.out hB2); clear hB2))
    | (go_at_call 66; ((with_reducible refine CA.out.mono ?_); rintro e w1 ⟨rfl, hB1⟩; have HB1 := Lib.hid hB1; clear hB1))
    | (go_at_call 85; ((with_reducible refine (CD.out _ HB2.out).mono ?_); rintro e w3 ⟨A3, n3, c3, rfl, hI3, hk3, hB3⟩; have HI3 := Lib.hid hI3; have HK3 := Lib.hid hk3; have HB3 := Lib.hid (below_then HB2.out hB3); clear hI3 hk3 hB3)))
  go_ret2
  exact ⟨_, _, _, rfl, HI3.out, HK3.out, HB3.out⟩

end Go.Proofs.Ytpdokmdapjdnoaa
