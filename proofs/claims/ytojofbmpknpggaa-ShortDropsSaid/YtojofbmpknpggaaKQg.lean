/- The kernel's Detaches. -/
import Derived.Test.YtojofbmpknpggaaKOg
import Derived.Test.YtojofbmpknpggaaKJg
import Derived.Test.YtojofbmpknpggaaKFg
import Derived.Test.YtojofbmpknpggaaB8g
import Derived.Test.YtojofbmpknpggaaN35g
import Derived.Test.YtojofbmpknpggaaN5g
/- The kernel's Detach: what it hands back. -/
namespace Go.Proofs.Ytojofbmpknpggaa
open Go.RowKit

set_option maxRecDepth 100000 in
set_option maxHeartbeats 400000 in
theorem ksays_any (At : Option Addr) (nt ct : Nat) (zs : List Int) (w : World) (ht : IntsAt w w.heap.size At nt zs) (h1 : 1 ≤ nt) :
    Calls Try.prog 79 #[.slice At nt ct] w fun e w' => e = .returned (.bool (decide (zs.head? = some 0))) ∧ Below w.heap.size w w' := by
  obtain ⟨b, off, z, rfl, c1, k1, e1⟩ := ht.cellAt (k := 0) (by omega)
  rw [Nat.add_zero] at c1
  have hh : zs.head? = some z := by cases zs with
    | nil => simp at k1
    | cons a t => rw [← e1]; rfl
  have hb0 : (0 : Int) < (nt : Int) := by omega
  by_cases hz : z = 0
  · subst hz
    rw [hh]
    clear hh e1 k1 ht
    go_enter Try.func79, Try.ntmps79
    go_wp2_with fail
    go_ret
    exact ⟨rfl, Below.refl _ _⟩
  · have hd : (z == 0) = false := by simp [hz]
    rw [hh, show decide (some z = some 0) = false from decide_eq_false (fun e => hz (Option.some.inj e))]
    clear hh e1 k1 ht
    go_enter Try.func79, Try.ntmps79
    go_wp2_with fail
    go_ret
    refine ⟨?_, Below.refl _ _⟩
    first
      | rfl
      | (show Ending.returned (.bool (z == 0)) = _
         rw [hd])

theorem at_first {ss : Sg} {zm : List Int} (hv : valOk ss zm = true) (hh : zm.head? = some 0) : atR ss zm [0] = (prt ss zm 1, 0) := by
  refine atR_mk hv ?_
  cases zm with
  | nil => cases hh
  | cons x r =>
    cases hh
    have h2 : arOf ss 0 = 2 := sig_if (valOk_sig hv)
    simp only [locN, List.getD_cons_zero, h2]
    rw [if_neg (by omega)]
    simp [psA, scan_zero]

end Go.Proofs.Ytojofbmpknpggaa

namespace Go.Proofs.Ytojofbmpknpggaa
open Go.RowKit

set_option maxRecDepth 100000 in
set_option maxHeartbeats 1000000 in
theorem kdetaches_any (As Am An : Option Addr) (ns cs nm cm nn cn : Nat) (ss : Sg) (zm zn : List Int) (w : World) (hs : SigAt w w.heap.size As ns ss) (hm : IntsAt w w.heap.size Am nm zm) (hn : IntsAt w w.heap.size An nn zn) (hc : nm ≤ cm) (hc2 : cm ≤ 9223372036854775807) (hv : valOk ss zm = true) (hh : zm.head? = some 0) :
    Calls Try.prog 80 #[.slice As ns cs, .slice Am nm cm, .slice An nn cn] w fun e w' => e = .returned (.bool (hasZ ss 12 (prt ss zm 1) zn)) ∧ Below w.heap.size w w' := by
  obtain ⟨v1, v60, _, _⟩ := valOk_term hv
  have hlm := hm.len
  obtain ⟨W1, hW1⟩ : ∃ W1, w.alloc (.cells #[.int .i64 0] 3) = W1 := ⟨_, rfl⟩
  have b1 : Below w.heap.size w W1 := by rw [← hW1]; exact bel_al0 _ _
  have i1 : IntsAt W1 W1.heap.size (some ⟨w.heap.size, 0, none⟩) 1 [0] := by rw [← hW1]; exact ints_var w 0
  have C1 := Lib.hid (at_any As Am (some ⟨w.heap.size, 0, none⟩) ns cs nm cm 1 1 ss zm [0] W1 (hs.up b1) (hm.up b1) i1 hc hc2 (by omega))
  rw [at_first hv hh, ← hW1] at C1
  rw [← hW1] at b1
  have C2 := Lib.hid (fun V (h : Below w.heap.size w V) => (ksays_any Am nm cm zm V (hm.up h) (by omega)).mono (R' := fun e w' => e = .returned (.bool true) ∧ Below V.heap.size V w') fun e w' h => by rw [hh] at h; exact h)
  have C3 := Lib.hid (fun V (h : Below w.heap.size w V) Aa na ca (ha : IntsAt V V.heap.size Aa na (prt ss zm 1)) => meets_all As Aa An ns cs na ca nn cn ss (prt ss zm 1) zn V (hs.up h) ha (hn.up h))
  obtain ⟨A1, hA1⟩ : ∃ A1, prt ss zm 1 = A1 := ⟨_, rfl⟩
  rw [hA1] at C1 C3 ⊢
  obtain ⟨R, hR⟩ : ∃ R, hasZ ss 12 A1 zn = R := ⟨_, rfl⟩
  rw [hR] at C3 ⊢
  have HB1 := Lib.hid b1
  clear hs hm hn hv hh hA1 hR b1 i1 hW1 hlm v1 v60
  go_enter Try.func80, Try.ntmps80
  go_wp2_with (first
    | (go_at_call 85; refine C1.out.mono ?_; rintro e w1 ⟨A, n, c, rfl, hI1, hB1⟩; have HI1 := Lib.hid hI1; have HB2 := Lib.hid (below_then HB1.out hB1); clear hI1 hB1)
    | (go_at_call 79; refine (C2.out _ HB2.out).mono ?_; rintro e w2 ⟨rfl, hB3⟩; have HI2 := Lib.hid (HI1.out.up hB3); have HB3 := Lib.hid (below_then HB2.out hB3); clear hB3)
    | (go_at_call 86; refine (C3.out _ HB3.out _ _ _ HI2.out).mono ?_; rintro e w3 ⟨rfl, hB4⟩; have HB4 := Lib.hid (below_then HB3.out hB4); clear hB4))
  go_ret
  exact ⟨rfl, HB4.out⟩

/-- What the fit hands back where there is a detachment. -/
theorem kform_det {ss : Sg} {zm zn A B : List Int} (sh : Shot ss zm zn A B) (F : FitIs ss zm zn A B) : ∃ f ok raw, wrK ss (nmK zm zn) (kbF ss (nmK zm zn)) (kpK ss zm zn) f (bhd ss (nmK zm zn) 1) [] = some (ok, raw) ∧
    (if ok = true then canon raw else []) = (if RawOk (nuK ss zm zn (bhd ss (nmK zm zn) 1)) then canon (nuK ss zm zn (bhd ss (nmK zm zn) 1)) else []) ∧ (if ok = true then (0 : Int) else 4) = (if RawOk (nuK ss zm zn (bhd ss (nmK zm zn) 1)) then 0 else 4) := by
  have hl := sh.lens
  obtain ⟨n, hn⟩ := F.fin (bhd ss (nmK zm zn) 1) (by rw [sh.bh]; omega)
  obtain ⟨⟨ok, raw⟩, hr⟩ := wr_some F.rts n _ hn (n + ((nmK zm zn).length + 2)) [] (Nat.le_refl _)
  obtain ⟨h1, h2⟩ := wr_nu F.rts F.len _ _ _ _ _ hr ⟨n, hn⟩
  refine ⟨_, ok, raw, hr, ?_⟩
  cases ok with
  | true =>
    have e := h1 rfl
    rw [List.nil_append] at e
    have hok := wrK_ok _ _ _ _ hr ⟨by simp, by simp [seenA]⟩
    have e' : raw = nuK ss zm zn (bhd ss (nmK zm zn) 1) := e
    rw [e'] at hok
    rw [if_pos hok, if_pos hok, if_pos rfl, if_pos rfl, e']
    exact ⟨rfl, rfl⟩
  | false =>
    have e := h2 rfl
    rw [List.nil_append] at e
    have e' : ¬ RawOk (nuK ss zm zn (bhd ss (nmK zm zn) 1)) := e
    rw [if_neg e', if_neg e', if_neg (by simp), if_neg (by simp)]
    exact ⟨rfl, rfl⟩
theorem kok_shot {ss : Sg} {zm zn A B : List Int} (sh : Shot ss zm zn A B) : KOk ss (nmK zm zn) (kbF ss (nmK zm zn)) := by
  have hs := sigOk_len (valOk_sig sh.vm)
  have h1 := (valOk_term sh.vm).2.2.1
  have h2 := (valOk_term sh.vn).2.2.1
  refine kok_fit (fun x hx => ?_) (sigOk_ar (valOk_sig sh.vm)) (fun x hx => ?_) (by omega) sh.parts
  all_goals
    rcases List.mem_append.1 hx with hx | hx
    · have := h1 x hx; omega
    · obtain ⟨y, hy, rfl⟩ := List.mem_map.1 hx
      have := h2 y hy
      unfold shv
      split <;> omega

set_option maxRecDepth 100000 in
set_option maxHeartbeats 1000000 in
theorem kdetach_new (As Am An : Option Addr) (ns cs nm cm nn cn : Nat) (ss : Sg) (zm zn : List Int) (w : World) (hs : SigAt w w.heap.size As ns ss) (hm : IntsAt w w.heap.size Am nm zm) (hn : IntsAt w w.heap.size An nn zn) (hc : nm ≤ cm) (hc2 : cm ≤ 9223372036854775807) :
    Calls Try.prog 75 #[.slice As ns cs, .slice Am nm cm, .slice An nn cn] w (RetF w (detZ ss zm zn).1 (detZ ss zm zn).2) := by
  have C1 := Lib.hid (valid_any As Am ns cs nm cm ss zm w hs hm)
  have C2 := Lib.hid (fun V (h : Below w.heap.size w V) => valid_any As An ns cs nn cn ss zn V (hs.up h) (hn.up h))
  cases hv1 : valOk ss zm
  · have hz : detZ ss zm zn = ([], 1) := by unfold detZ; rw [if_neg (by simp [hv1])]
    rw [hz]
    rw [hv1] at C1
    clear hs hm hn hv1 hz C2
    go_enter Try.func75, Try.ntmps75
    go_wp2_with (go_at_call 70; refine C1.out.mono ?_; rintro e w1 ⟨rfl, hB1⟩; have HB1 := Lib.hid hB1; clear hB1)
    go_ret2
    exact ⟨none, 0, 0, rfl, IntsAt.nil _ _ 0, by omega, fun g e => (by cases e), HB1.out⟩
  rw [hv1] at C1
  cases hv2 : valOk ss zn
  · have hz : detZ ss zm zn = ([], 1) := by unfold detZ; rw [if_neg (by simp [hv2])]
    rw [hz]
    simp only [hv2] at C2
    clear hs hm hn hv1 hv2 hz
    go_enter Try.func75, Try.ntmps75
    go_wp2_with (first
      | (go_at_call 70; refine (C2.out _ HB1.out).mono ?_; rintro e w2 ⟨rfl, hB2⟩; have HB2 := Lib.hid (below_then HB1.out hB2); clear hB2)
      | (go_at_call 70; refine C1.out.mono ?_; rintro e w1 ⟨rfl, hB1⟩; have HB1 := Lib.hid hB1; clear hB1))
    go_ret2
    exact ⟨none, 0, 0, rfl, IntsAt.nil _ _ 0, by omega, fun g e => (by cases e), HB2.out⟩
  simp only [hv2] at C2
  obtain ⟨v1, v60, _, _⟩ := valOk_term hv1
  have hlm := hm.len
  have C3 := Lib.hid (fun V (h : Below w.heap.size w V) => ksays_any Am nm cm zm V (hm.up h) (by omega))
  by_cases hh : zm.head? = some 0
  · have C3 := Lib.hid (fun V (h : Below w.heap.size w V) => (C3.out V h).mono (R' := fun e w' => e = .returned (.bool true) ∧ Below V.heap.size V w') fun e w' h => by rw [decide_eq_true hh] at h; exact h)
    have C4 := Lib.hid (fun V (h : Below w.heap.size w V) => kdetaches_any As Am An ns cs nm cm nn cn ss zm zn V (hs.up h) (hm.up h) (hn.up h) hc hc2 hv1 hh)
    cases hhas : hasZ ss 12 (prt ss zm 1) zn
    · have hz : detZ ss zm zn = ([], 8) := by unfold detZ; rw [if_pos (by simp [hv1, hv2]), if_pos hh, if_neg (by simp [hhas])]
      rw [hz]
      simp only [hhas] at C4
      clear hs hm hn hv1 hv2 hz hh hhas hlm v1 v60
      go_enter Try.func75, Try.ntmps75
      go_wp2_with (first
        | (go_at_call 70; refine (C2.out _ HB1.out).mono ?_; rintro e w2 ⟨rfl, hB2⟩; have HB2 := Lib.hid (below_then HB1.out hB2); clear hB2)
        | (go_at_call 70; refine C1.out.mono ?_; rintro e w1 ⟨rfl, hB1⟩; have HB1 := Lib.hid hB1; clear hB1)
        | (go_at_call 79; refine (C3.out _ HB2.out).mono ?_; rintro e w3 ⟨rfl, hB3⟩; have HB3 := Lib.hid (below_then HB2.out hB3); clear hB3)
        | (go_at_call 80; refine (C4.out _ HB3.out).mono ?_; rintro e w4 ⟨rfl, hB4⟩; have HB4 := Lib.hid (below_then HB3.out hB4); clear hB4))
      go_ret2
      exact ⟨none, 0, 0, rfl, IntsAt.nil _ _ 0, by omega, fun g e => (by cases e), HB4.out⟩
    · obtain ⟨B, sh⟩ := shot_of hv1 hv2 hh
      obtain ⟨σ0, g0, s0⟩ := sh.meets.1 hhas
      have F := sh.fit g0 s0
      obtain ⟨f, ok, raw, q1, q2, q3⟩ := kform_det sh F
      have hz : detZ ss zm zn = (if ok = true then canon raw else [], if ok = true then 0 else 4) := by
        unfold detZ
        rw [if_pos (by simp [hv1, hv2]), if_pos hh, if_pos hhas, q2, q3]
        split <;> rfl
      rw [hz]
      have hko := kok_shot sh
      obtain ⟨bm, offm, eA, _, _⟩ := hm.mem (by omega)
      have hu := F.uni
      have hlo : ∀ z ∈ zn, -100 ≤ z ∧ z ≤ 1000 := fun z hz => by
        have h1 := (valOk_term hv2).2.2.1 z hz
        have h2 := sigOk_len (valOk_sig hv2)
        omega
      have hl := sh.lens
      have hln := hn.len
      rw [← hlm] at hu
      have C5 := Lib.hid (fun V (h : Below w.heap.size w V) => kfitted_any As An ns cs nm cm nn cn bm offm ss zm zn 500 (kpK ss zm zn) V (hs.up h) (by rw [← eA]; exact hm.up h) (hn.up h) (by omega) (by omega) (by omega) hlo hko sh.parts hu)
      rw [← eA] at C5
      have hbd : bhd ss (nmK zm zn) 1 < (nmK zm zn).length := by rw [sh.bh]; omega
      have hb1 : (kbF ss (nmK zm zn))[1]? = some (bhd ss (nmK zm zn) 1) := kbF_get (by omega)
      have hlk : (kbF ss (nmK zm zn)).length = (nmK zm zn).length := kbF_len
      obtain ⟨q, hq⟩ : ∃ q, bhd ss (nmK zm zn) 1 = q := ⟨_, rfl⟩
      rw [hq] at q1 hb1 hbd
      have C6 := Lib.hid (fun (V : World) fb gn gb gp cN cb cp (h : FitAt V fb gn gb gp As ns cs cN cb cp ss (nmK zm zn) (kbF ss (nmK zm zn)) (kpK ss zm zn)) => kform_new fb gn gb gp As ns cs cN cb cp ss (nmK zm zn) (kbF ss (nmK zm zn)) (kpK ss zm zn) hko f q ok raw V h q1)
      have HB1C := Lib.hid hb1
      obtain ⟨NL, hNL⟩ : ∃ NL, (nmK zm zn).length = NL := ⟨_, rfl⟩
      have hn1 : (1 : Int) < (NL : Int) := by omega
      have HNE := Lib.hid hNL
      simp only [hhas] at C4
      obtain ⟨T, hT⟩ : ∃ T, (if ok = true then canon raw else [] : List Int) = T := ⟨_, rfl⟩
      obtain ⟨er, her⟩ : ∃ er : Int, (if ok = true then (0 : Int) else 4) = er := ⟨_, rfl⟩
      rw [hT, her] at C6 ⊢
      clear hs hm hn hv1 hv2 hz hh hhas hlm v1 v60 sh F g0 s0 q1 q2 q3 hko eA hu hlo hl hln hbd hb1 hlk hq hT her hNL
      go_enter Try.func75, Try.ntmps75
      go_wp2_with (first
        | (go_at_call 70; refine (C2.out _ HB1.out).mono ?_; rintro e w2 ⟨rfl, hB2⟩; have HB2 := Lib.hid (below_then HB1.out hB2); clear hB2)
        | (go_at_call 70; refine C1.out.mono ?_; rintro e w1 ⟨rfl, hB1⟩; have HB1 := Lib.hid hB1; clear hB1)
        | (go_at_call 79; refine (C3.out _ HB2.out).mono ?_; rintro e w3 ⟨rfl, hB3⟩; have HB3 := Lib.hid (below_then HB2.out hB3); clear hB3)
        | (go_at_call 80; refine (C4.out _ HB3.out).mono ?_; rintro e w4 ⟨rfl, hB4⟩; have HB4 := Lib.hid (below_then HB3.out hB4); clear hB4)
        | (go_at_call 81; refine (C5.out _ HB4.out).mono ?_; rintro e w5 ⟨fb, gn, gb, gp, cN, cb, cp, rfl, hF, hB5⟩
           have cf2 : w5.cell? ⟨fb, 2, none⟩ = some (.slice (some ⟨gb, 0, none⟩) NL cb) := by rw [← HNE.out]; exact hF.c.2.2.1
           have cq := hF.beh 1 q HB1C.out
           have HF := Lib.hid (show FitAt w5 fb gn gb gp As ns cs cN cb cp ss (nmK zm zn) (kbF ss (nmK zm zn)) (kpK ss zm zn) from hF); have HB5 := Lib.hid (below_then HB4.out hB5); clear hF hB5)
        | (go_at_call 82; refine (C6.out _ _ _ _ _ _ _ _ HF.out).mono ?_; rintro e w6 ⟨A6, n6, c6, rfl, hI6, hk6, hf6, hB6⟩; have HF6 := Lib.hid (fun g hg => Nat.le_trans HB5.out.size (hf6 g hg)); have HI6 := Lib.hid hI6; have HK6 := Lib.hid hk6; have HB6 := Lib.hid (below_then HB5.out hB6); clear hI6 hk6 hf6 hB6))
      go_ret2
      exact ⟨_, _, _, rfl, HI6.out, HK6.out, HF6.out, HB6.out⟩
  · have C3 := Lib.hid (fun V (h : Below w.heap.size w V) => (C3.out V h).mono (R' := fun e w' => e = .returned (.bool false) ∧ Below V.heap.size V w') fun e w' h => by rw [decide_eq_false hh] at h; exact h)
    have hz : detZ ss zm zn = ([], 10) := by unfold detZ; rw [if_pos (by simp [hv1, hv2]), if_neg hh]
    rw [hz]
    clear hs hm hn hv1 hv2 hz hh hlm v1 v60
    go_enter Try.func75, Try.ntmps75
    go_wp2_with (first
      | (go_at_call 70; refine (C2.out _ HB1.out).mono ?_; rintro e w2 ⟨rfl, hB2⟩; have HB2 := Lib.hid (below_then HB1.out hB2); clear hB2)
      | (go_at_call 70; refine C1.out.mono ?_; rintro e w1 ⟨rfl, hB1⟩; have HB1 := Lib.hid hB1; clear hB1)
      | (go_at_call 79; refine (C3.out _ HB2.out).mono ?_; rintro e w3 ⟨rfl, hB3⟩; have HB3 := Lib.hid (below_then HB2.out hB3); clear hB3))
    go_ret2
    exact ⟨none, 0, 0, rfl, IntsAt.nil _ _ 0, by omega, fun g e => (by cases e), HB3.out⟩

end Go.Proofs.Ytojofbmpknpggaa
