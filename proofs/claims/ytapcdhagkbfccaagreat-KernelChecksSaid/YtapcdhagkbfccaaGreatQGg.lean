/- Joined: what it hands back, and what joined proofs say (pure): KernelJoins's mathematics. -/
import Derived.Test.YtapcdhagkbfccaaGreatQ6g
import Derived.Test.YtapcdhagkbfccaaGreatKXg
import Derived.Test.YtapcdhagkbfccaaGreatKFg
import Derived.Test.YtapcdhagkbfccaaGreatPOg
import Derived.Test.YtapcdhagkbfccaaGreatN24g
import Derived.Test.YtapcdhagkbfccaaGreatL3g
import Derived.Test.YtapcdhagkbfccaaGreatPYg
/- Renamed again: its answer lies in new memory. -/
namespace Go.Proofs.YtapcdhagkbfccaaGreat
open Go.RowKit

set_option maxRecDepth 100000 in
set_option maxHeartbeats 2000000 in
theorem refRenamed_f (A : Option Addr) (n c : Nat) (zs : List Int) (w : World) (hx : IntsAt w w.heap.size A n zs) (h1 : 1 ≤ n) (hn : n ≤ 1000000) (hb : ∀ z ∈ zs, -1000000 ≤ z ∧ z ≤ 1000000) :
    Calls Tryz.prog 62 #[.slice A n c] w fun e w' => ∃ A' c', e = .returned (.slice A' n c') ∧ (IntsAt w' w'.heap.size A' n (canon zs) ∧ n ≤ c' ∧ c' ≤ 9223372036854775807) ∧ Below w.heap.size w w' ∧ ∃ b, A' = some ⟨b, 0, none⟩ ∧ w.heap.size ≤ b := by
  obtain ⟨i0, hi, hz0, hz1, hz2⟩ := info_parts info_int
  obtain ⟨bt, offt, rfl, hbt, htc⟩ := hx.mem (by omega)
  have hlen := hx.len
  have CV := Lib.hid (variables_any _ n c zs w hx hn hb)
  have HLX := Lib.hid hlen
  have HTC := Lib.hid htc
  have HBD := Lib.hid hb
  have hsl := seenTo_le zs n
  have hvl : (vof (seenTo zs n)).length = (seenTo zs n).length := by simp [vof]
  have hN1 := Lib.hid (show (zs.map (Value.int .i64)).length = n * 1 by simp [hlen])
  have hN3 := Lib.hid (show ∀ u ∈ zs.map (Value.int .i64), u.oneCell' = true by
    intro u hu
    obtain ⟨z, _, rfl⟩ := List.mem_map.1 hu
    rfl)
  obtain ⟨L, hL⟩ : ∃ L, (vof (seenTo zs n)).length = L := ⟨_, rfl⟩
  have hL2 : L ≤ n := by omega
  have HL := Lib.hid (And.intro hL (show (seenTo zs n).length = L by omega))
  rw [hL] at CV
  clear hx hb hlen htc hsl hvl hL
  go_enter Tryz.func62, Tryz.ntmps62
  go_wp2_with (first
    | (go_at_call 92; refine CV.out.mono ?_; rintro e w1 ⟨v, rfl, hown, hB⟩
       obtain ⟨Av, cv, hv, hIV⟩ := row_ints hown (by omega)
       subst hv
       have HB := Lib.hid hB
       have HIV := Lib.hid hIV
       have HN2 := Lib.hid (show ∀ j u, (zs.map (Value.int .i64))[j]? = some u → (w1.alloc (.cells #[] 3)).cell? ((⟨bt, offt, none⟩ : Addr).add j) = some u by
         intro j u hu
         rw [add0, alloc_keep _ _ _ (by have := hB.size; show bt < _; omega), hB.cell (p := ⟨bt, offt + j, none⟩) hbt]
         simp only [List.getElem?_map, Option.map_eq_some_iff] at hu
         obtain ⟨z, hz, rfl⟩ := hu
         obtain ⟨hj, rfl⟩ := List.getElem?_eq_some_iff.1 hz
         exact HTC.out j hj)
       have HO := Lib.hid (show (w1.alloc (.cells #[] 3)).ownsRow w1.heap.size 3 1 (.slice (some ⟨w1.heap.size, 0, none⟩) 0 0) 0 [] from
         ⟨rfl, .inr ⟨w1.heap.size, 0, #[], rfl, Nat.le_refl _, heap_alloc_new w1 _, Nat.le_refl _, by unfold maxLen; omega, rfl, rfl⟩⟩)
       clear hown hB hIV)
    | (at_builtin
       refine wpList_append_own_at _ rfl _ _ 36 rfl w1.heap.size 3 i0 _ 1 8 Tryz.underlying36 hi hz0 hz1 hz2 rfl (by omega) (.slice (some ⟨w1.heap.size, 0, none⟩) 0 0) 0 [] rfl HO.out ⟨bt, offt, none⟩ n c (zs.map (Value.int .i64)) rfl hN1.out HN2.out hN3.out (by unfold maxLen; omega) (by omega) (by simp) ?_
       intro v2 w2 hown2 hg2 _ _
       have hBW := (((Below.refl _ w1).alloc (Nat.le_refl _) _).grown hg2 (by simp) (fun k e => by cases e; exact Nat.le_refl _))
       have hown3 := hown2
       rw [Nat.zero_add, List.nil_append] at hown3
       obtain ⟨g, cap, hv2, _, hglt⟩ := hown3.form (by omega)
       subst hv2
       have HBW := Lib.hid hBW
       have HOWN := Lib.hid hown3
       have HGB := Lib.hid ((hown3.lt g rfl).1)
       clear hown2 hg2 hown3 hBW hglt))
  have HR0 : Hid (w2.ownsRow w1.heap.size 3 1 (.slice (some ⟨g, 0, none⟩) n cap) n ((rl zs 0).map (Value.int .i64))) := by
    have := HOWN.out
    rw [rl_zero]
    exact this
  clear hi hz0 hz1 hz2
  obtain ⟨S, hS⟩ : ∃ S, seenTo zs n = S := ⟨_, rfl⟩
  rw [hS] at HIV HL
  have HS := Lib.hid hS
  have HND := Lib.hid (hS ▸ seenTo_nodup zs n)
  clear hS
  go_loopw [5] (fun i wr => ∃ k : Nat, k ≤ n ∧ i = .int .i64 k ∧ wr.ownsRow w1.heap.size 3 1 (.slice (some ⟨g, 0, none⟩) n cap) n ((rl zs k).map (Value.int .i64)) ∧ Below w1.heap.size w1 wr) (fun i _ => n - (intOf i).toNat)
  case atStart => exact ⟨0, Nat.zero_le _, rfl, HR0.out, HBW.out⟩
  case round =>
    obtain ⟨k, hk, rfl, hR, hBr⟩ := hrel
    by_cases hlt : k < n
    · have k1 : k < zs.length := by have := HLX.out; omega
      have hz := HTC.out k k1
      have hst := rl_start k1
      have hbd := HBD.out _ (List.getElem_mem k1)
      have hcv : (canon zs)[k]? = some (cval S zs[k] S.length) := by
        have := cval_all zs k1
        rw [← HLX.out, HS.out] at this
        exact this
      have hstep := rl_step k1 hcv
      obtain ⟨z, hzz⟩ : ∃ z, zs[k] = z := ⟨_, rfl⟩
      rw [hzz] at hz hst hbd hcv hstep
      obtain ⟨hb1, hb2⟩ := hbd
      have hk0 : (0 : Int) ≤ (k : Int) := by omega
      have hk1 : (k : Int) < (n : Int) := by omega
      have HR : Hid (wr.ownsRow w1.heap.size 3 1 (.slice (some ⟨g, 0, none⟩) n cap) n (((rl zs k).set k (cval S z 0)).map (Value.int .i64))) := by
        rw [cval_zero, hst]; exact hR
      have HBR := Lib.hid hBr
      have HZ := Lib.hid hz
      have HSTEP := Lib.hid hstep
      clear hR hBr hst hcv hz hstep hzz
      obtain ⟨wo, rfl⟩ : ∃ wo : World, wo = wr := ⟨_, rfl⟩
      go_wp2
      go_loopw [6] (fun j wq => ∃ q : Nat, q ≤ L ∧ j = .int .i64 q ∧ wq.ownsRow w1.heap.size 3 1 (.slice (some ⟨g, 0, none⟩) n cap) n (((rl zs k).set k (cval S z q)).map (Value.int .i64)) ∧ Below w1.heap.size w1 wq) (fun j _ => L - (intOf j).toNat)
      case atStart => exact ⟨0, Nat.zero_le _, rfl, HR.out, HBR.out⟩
      case round =>
        obtain ⟨q, hq, rfl, hRq, hBq⟩ := hrel
        have HRQ := Lib.hid hRq
        have HBQ := Lib.hid hBq
        clear hRq hBq
        by_cases hql : q < L
        · have cz : wr.cell? ⟨bt, offt + k, none⟩ = some (.int .i64 z) := ((HB.out.trans (HBQ.out.mono HB.out.size)).cell (p := ⟨bt, offt + k, none⟩) hbt).trans HZ.out
          obtain ⟨b, off, vq, rfl, cv0, q1, ev⟩ := (HIV.out.below HBQ.out).cellAt hql
          have q2 : q < S.length := by have := HL.out.2; omega
          have evs : vq = -S[q] - 1 := by rw [← ev]; simp [vof]
          have hsb : -1000000 ≤ S[q] ∧ S[q] ≤ 1000000 := HBD.out _ (seen_mem zs n _ (by rw [HS.out]; exact List.getElem_mem q2))
          have hsn := seen_neg zs n S[q] (by rw [HS.out]; exact List.getElem_mem q2)
          have hv1 : -2000000 ≤ vq := by omega
          have hv2 : vq ≤ 2000000 := by omega
          have hq0 : (0 : Int) ≤ (q : Int) := by omega
          have hq1 : (q : Int) < (L : Int) := by omega
          have hq2 : (q : Int) ≤ 1000000 := by omega
          have hmiss := cval_miss (z := z) q2
          have hhit := cval_hit (z := z) q2 HND.out
          have hlenr : k < n * 1 := by omega
          have ccell := HRQ.out.cellAt k hlenr
          have cfro := HRQ.out.frozenAt k
          have cst := HRQ.out.stored k (.int .i64 (-(q : Int) - 1))
          have hrl : ((((rl zs k).set k (cval S z q)).map (Value.int .i64)))[k]? = some (.int .i64 (cval S z q)) := by
            rw [List.getElem?_map, List.getElem?_set_self (by rw [rl_length (by omega)]; exact k1)]; rfl
          rw [hrl] at ccell
          obtain ⟨cvv, hcvv⟩ : ∃ cvv, cval S z q = cvv := ⟨_, rfl⟩
          rw [hcvv] at ccell
          by_cases e : z = S[q]
          · have HX : Hid ((wr.setCell ⟨g, k, none⟩ (.int .i64 (-(q : Int) - 1))).ownsRow w1.heap.size 3 1 (.slice (some ⟨g, 0, none⟩) n cap) n (((rl zs k).set k (cval S z (q + 1))).map (Value.int .i64)) ∧ Below w1.heap.size w1 (wr.setCell ⟨g, k, none⟩ (.int .i64 (-(q : Int) - 1)))) := by
              refine ⟨?_, HBQ.out.setCell (p := ⟨g, k, none⟩) HGB.out _⟩
              have h := cst.1
              rw [set_map_int, List.set_set] at h
              rw [hhit (by omega) e.symm]
              exact h
            have he : (z == -vq - 1) = true := by simp; omega
            clear e evs hsb hsn hmiss hhit cst hrl hcvv ev
            go_wp2_with fail
            go_quiet (fail)
            go_wp2
            go_roundw
            case rel => exact ⟨q + 1, by omega, by go_num, HX.out.1, ⟨HX.out.2.os, HX.out.2.tape, HX.out.2.output, HX.out.2.size, HX.out.2.block⟩⟩
            case measure => simp [intOf]; omega
          · have HX : Hid (wr.ownsRow w1.heap.size 3 1 (.slice (some ⟨g, 0, none⟩) n cap) n (((rl zs k).set k (cval S z (q + 1))).map (Value.int .i64)) ∧ Below w1.heap.size w1 wr) :=
              ⟨by rw [hmiss (fun h => e h.symm)]; exact HRQ.out, HBQ.out⟩
            have he : (z == -vq - 1) = false := by simp; omega
            clear e evs hsb hsn hmiss hhit cst hrl hcvv ev
            go_wp2_with fail
            go_quiet (fail)
            go_wp2
            go_roundw
            case rel => exact ⟨q + 1, by omega, by go_num, HX.out.1, below_drewN HX.out.2 _⟩
            case measure => simp [intOf]; omega
        · obtain rfl : q = L := by omega
          have HX : Hid (wr.ownsRow w1.heap.size 3 1 (.slice (some ⟨g, 0, none⟩) n cap) n ((rl zs (k + 1)).map (Value.int .i64))) := by
            have h := HRQ.out
            have := HSTEP.out
            rw [HL.out.2] at this
            rw [this] at h
            exact h
          go_wp2
          go_roundw
          case rel => exact ⟨k + 1, by omega, by go_num, HX.out, HBQ.out⟩
          case measure => simp [intOf]; omega
    · obtain rfl : k = n := by omega
      have HRR := Lib.hid hR
      have HBR := Lib.hid hBr
      clear hR hBr
      go_wp2
      go_ret
      refine ⟨_, _, rfl, ?_, HB.out.trans (HBR.out.mono HB.out.size), ⟨g, rfl, Nat.le_trans HB.out.size HGB.out⟩⟩
      have h := HRR.out
      rw [HLX.out, rl_all, ← HLX.out] at h
      obtain ⟨A', c', e, hI, hk⟩ := row_intsk h hn
      cases e
      exact ⟨hI, hk⟩

end Go.Proofs.YtapcdhagkbfccaaGreat

/- The reference's detach again: its answer lies in new memory. -/
namespace Go.Proofs.YtapcdhagkbfccaaGreat
open Go.RowKit

set_option maxRecDepth 100000 in
set_option maxHeartbeats 2000000 in
theorem Few_new (d : Nat) (As A : Option Addr) (ns cs n c : Nat) (T : List (List Int)) (t : List Int) (s : Nat) (r : List Int) (w : World) (hS : SolAt w d As ns cs T) (ht : IntsAt w w.heap.size A n t) (hT : TosOk T) (h24 : ∀ z ∈ t, -24 ≤ z) (hw : WholeIs T t s r) :
    Calls Tryz.prog 97 #[.pointer (some ⟨d, 0, none⟩), .slice A n c] w (RetF w (formZ (decide (s ≤ 60)) r).1 (formZ (decide (s ≤ 60)) r).2) := by
  by_cases hs : s ≤ 60
  · have C1 := Lib.hid (Whole_short d As A ns cs n c T t s r w hS ht hT h24 hw hs)
    obtain ⟨hwh, hlen⟩ := hw.wh hs
    have hpos := hw.pos
    have hbd := hw.bd
    obtain ⟨q, hq⟩ : ∃ q, (seenTo r r.length).length = q := ⟨_, rfl⟩
    have hql := seenTo_le r r.length
    rw [hq] at hql
    have C2 := Lib.hid (fun (V : World) (A5 : Option Addr) (n5 c5 : Nat) (h : IntsAt V V.heap.size A5 n5 r) => (variables_any A5 n5 c5 r V h (by have := h.len; omega) hbd).mono (R' := fun e w' => ∃ A6 c6, e = .returned (.slice A6 q c6) ∧ Below V.heap.size V w') (fun e w' hh => by
      obtain ⟨v, rfl, hrow, hB⟩ := hh
      have hl := h.len
      rw [hl, show (vof (seenTo r r.length)).length = q by simp [vof, hq]] at hrow
      obtain ⟨A6, c6, rfl, _⟩ := row_ints hrow (by omega)
      exact ⟨A6, c6, rfl, hB⟩))
    have C3 := Lib.hid (fun (V : World) (A5 : Option Addr) (n5 c5 : Nat) (h : IntsAt V V.heap.size A5 n5 r) => refRenamed_f A5 n5 c5 r V h (by have := h.len; omega) (by have := h.len; omega) hbd)
    have hd : decide (s ≤ 60) = true := decide_eq_true hs
    rw [hd]
    by_cases h12 : q ≤ 12
    · have hz : formZ true r = (canon r, 0) := by unfold formZ; rw [if_pos ⟨rfl, by rw [hq]; exact h12⟩]
      rw [hz]
      have h12' : ¬ (12 : Int) < (q : Int) := by omega
      obtain ⟨cr, hcr⟩ : ∃ cr, canon r = cr := ⟨_, rfl⟩
      rw [hcr] at C3 ⊢
      clear hS ht hT h24 hw hs hwh hlen hpos hbd hq hql hd hz hcr
      go_enter Tryz.func97, Tryz.ntmps97
      go_wp2_with (first
        | (go_at_call 120; refine C1.out.mono ?_; rintro e w4 ⟨A4, n4, c4, rfl, hT4, hB4⟩; have HB4 := Lib.hid hB4; have HT4 := Lib.hid hT4; clear hB4 hT4)
        | (go_at_call 92; refine (C2.out _ _ _ _ HT4.out.1).mono ?_; rintro e w5 ⟨A5, c5, rfl, hB5⟩; have HB5 := Lib.hid (below_then HB4.out hB5); have HT5 := Lib.hid (HT4.out.below hB5); clear hB5)
        | (go_at_call 62; refine (C3.out _ _ _ _ HT5.out.1).mono ?_; rintro e w6 ⟨A6, c6, rfl, hI6, hB6, b6, hA6, hb6⟩; have HF6 := Lib.hid (show ∀ g : Addr, A6 = some g → w.heap.size ≤ g.block from fun g e => by rw [hA6] at e; cases e; exact Nat.le_trans HB5.out.size hb6); have HB6 := Lib.hid (below_then HB5.out hB6); have HI6 := Lib.hid hI6; clear hB6 hI6 hA6 hb6))
      go_ret2
      exact ⟨_, _, _, rfl, HI6.out.1, HI6.out.2, HF6.out, HB6.out⟩
    · have hz : formZ true r = ([], 4) := by unfold formZ; rw [if_neg (fun h => h12 (by rw [← hq]; exact h.2))]
      rw [hz]
      have h12' : (12 : Int) < (q : Int) := by omega
      clear hS ht hT h24 hw hs hwh hlen hpos hbd hq hql hd hz C3
      go_enter Tryz.func97, Tryz.ntmps97
      go_wp2_with (first
        | (go_at_call 120; refine C1.out.mono ?_; rintro e w4 ⟨A4, n4, c4, rfl, hT4, hB4⟩; have HB4 := Lib.hid hB4; have HT4 := Lib.hid hT4; clear hB4 hT4)
        | (go_at_call 92; refine (C2.out _ _ _ _ HT4.out.1).mono ?_; rintro e w5 ⟨A5, c5, rfl, hB5⟩; have HB5 := Lib.hid (below_then HB4.out hB5); clear hB5))
      go_ret2
      exact ⟨none, 0, 0, rfl, IntsAt.nil _ _ 0, by omega, fun g e => (by cases e), HB5.out⟩
  · have C1 := Lib.hid (Whole_long d As A ns cs n c T t s r w hS ht hT h24 hw (by omega))
    have hd : decide (s ≤ 60) = false := decide_eq_false hs
    rw [hd]
    have hz : formZ false r = ([], 4) := by simp [formZ]
    rw [hz]
    clear hS ht hT h24 hw hs hd hz
    go_enter Tryz.func97, Tryz.ntmps97
    go_wp2_with (go_at_call 120; refine C1.out.mono ?_; rintro e w4 ⟨rfl, hB4⟩; have HB4 := Lib.hid hB4; clear hB4)
    go_ret2
    exact ⟨none, 0, 0, rfl, IntsAt.nil _ _ 0, by omega, fun g e => (by cases e), HB4.out⟩

set_option maxRecDepth 100000 in
set_option maxHeartbeats 2000000 in
theorem refdet_new (As Am An : Option Addr) (ns cs nm cm nn cn : Nat) (ss : Sg) (zm zn B : List Int) (w : World) (hs : SigAt w w.heap.size As ns ss) (hm : IntsAt w w.heap.size Am nm zm) (hn : IntsAt w w.heap.size An nn zn) (hc : nm ≤ cm) (hc2 : cm ≤ 9223372036854775807) (sh : Shot ss zm zn (prt ss zm 1) B) :
    Calls Tryz.prog 63 #[.slice As ns cs, .slice Am nm cm, .slice An nn cn] w (RetF w (detZ ss zm zn).1 (detZ ss zm zn).2) := by
  obtain ⟨m, bo, T', s, r, hso, hhas, hwh, hz⟩ := det_same sh
  rw [hz]
  obtain ⟨v1, v60, v3, v4⟩ := valOk_term sh.vm
  obtain ⟨u1, u60, u3, u4⟩ := valOk_term sh.vn
  have hsl := sigOk_len (valOk_sig sh.vm)
  have har := sigOk_ar (valOk_sig sh.vm)
  have hlm := hm.len
  have hln := hn.len
  have hl := sh.lens
  obtain ⟨p0, p1⟩ := psA_first sh
  have hh : HeadsOk ss zm := fun z hz => (v3 z hz).2
  have hpt := parts_term v4
  have hb2 : begs ss zm 0 2 = [(1 : Int), ((1 + (prt ss zm 1).length : Nat) : Int)] := by
    unfold begs
    simp [List.range_succ, p0, p1]
  have har2 : arOf ss (zm[0]'(by omega)) = 2 := by
    have h0 : zm[0]'(by omega) = 0 := by
      have : zm.head? = some 0 := by rw [sh.eq]; rfl
      rw [List.head?_eq_getElem?, List.getElem?_eq_getElem (by omega)] at this
      exact Option.some.inj this
    rw [h0]
    exact sig_if (valOk_sig sh.vm)
  have C1 := Lib.hid ((refArgs_any As Am ns cs nm cm ss zm [] 0 w hs hm har hh (by omega) (by omega) v4).mono (R' := fun e w' => ∃ g c, e = .returned (.slice (some ⟨g, 0, none⟩) 2 c) ∧ w'.cell? ⟨g, 0, none⟩ = some (.int .i64 1) ∧ w'.cell? ⟨g, 1, none⟩ = some (.int .i64 ((1 + (prt ss zm 1).length : Nat) : Int)) ∧ g < w'.heap.size ∧ Below w.heap.size w w') fun e w' ⟨v, h1, h2, h3⟩ => by
    rw [har2, hb2] at h2
    obtain ⟨_, g, c, rfl, _, hg, hcell⟩ := row_ints_at h2 (by omega)
    exact ⟨g, c, h1, hcell 0 (by simp), hcell 1 (by simp), hg, h3⟩)
  have hB : prt ss zm (1 + (prt ss zm 1).length) = B := by
    refine prt_pre (c := []) _ ?_ sh.sb
    have e := sh.eq
    have e2 : ∀ (X : List Int), ((0 : Int) :: (X ++ B)).drop (1 + X.length) = B := fun X => by
      rw [Nat.add_comm, List.drop_succ_cons, List.drop_left]
    rw [List.append_nil]
    have := e2 (prt ss zm 1)
    rw [← e] at this
    exact this
  have CPA := Lib.hid (fun (p : Nat) (hp : p < zm.length) V (h : Below w.heap.size w V) => by
    obtain ⟨rr, hrr⟩ := hpt p hp
    exact (refPart_any As Am ns cs nm cm ss zm rr p V (hs.up h) (hm.up h) har hh (by omega) hc hc2 hp hrr).mono (R' := fun e w' => ∃ A n c, e = .returned (.slice A n c) ∧ TermK w' A n c (prt ss zm p) ∧ Below V.heap.size V w') fun e w' ⟨v, h1, h2, h3⟩ => by
      obtain ⟨A, c, rfl, hI, hk⟩ := row_intsk h2 (by have := (prt_is hrr).le; omega)
      exact ⟨A, _, c, h1, ⟨hI, hk⟩, h3⟩)
  have C2 := Lib.hid (fun V h => CPA.out 1 (by omega) V h)
  have C3 := Lib.hid (fun V h => CPA.out (1 + (prt ss zm 1).length) (by omega) V h)
  rw [hB] at C3
  have CP := Lib.hid (fun V (h : Below w.heap.size w V) => apart_any An nn cn zn V (hn.up h) (fun z hz => by have := u3 z hz; omega) (by omega) (by omega))
  have gA := good_val sh.va
  have gB := good_val sh.vb
  have hgT := (solF_good m (prt ss zm 1) (apartL zn) noTo bo T' gA (good_apart sh.vn) (noTo_good ss) hso).1
  have CS := Lib.hid (fun (V : World) (d : Nat) (Aa : Option Addr) (na ca : Nat) (Ap : Option Addr) (np cp : Nat) (h : Below w.heap.size w V) (hd : SolAt V d As ns cs noTo) (h1 : TermK V Aa na ca (prt ss zm 1)) (h2 : TermK V Ap np cp (apartL zn)) => sol_any ss har d As ns cs m (prt ss zm 1) (apartL zn) noTo bo T' Aa Ap na ca np cp V (hs.up h) hd (noTo_good ss) gA (good_apart sh.vn) h1 h2 hso)
  have CF := Lib.hid (fun (hb : bo = true) (V : World) (d : Nat) (Aa : Option Addr) (na ca : Nat) (hS : SolAt V d As ns cs T') (h1 : TermK V Aa na ca B) => Few_new d As Aa ns cs na ca T' B s r V hS h1.1 hgT.tos gB.lo (hwh hb))
  obtain ⟨b, off, z, rfl, cz, k1, e1⟩ := hm.cellAt (k := 0) (by omega)
  have hz0 : z = 0 := by
    have : zm.head? = some 0 := by rw [sh.eq]; rfl
    rw [List.head?_eq_getElem?, List.getElem?_eq_getElem k1, e1] at this
    exact Option.some.inj this
  subst hz0
  rw [Nat.add_zero] at cz
  simp only [show ((0 : Nat) : Int) = 0 from rfl] at C1
  simp only [show ((1 : Nat) : Int) = 1 from rfl] at C2
  obtain ⟨q, hq⟩ : ∃ q, 1 + (prt ss zm 1).length = q := ⟨_, rfl⟩
  rw [hq] at C1 C3
  obtain ⟨FT, hFT⟩ : ∃ FT, formZ (decide (s ≤ 60)) r = FT := ⟨_, rfl⟩
  rw [hFT] at CF ⊢
  have hn0 : (0 : Int) < (nm : Int) := by omega
  clear hs hm hn hc hc2 sh hz v1 v60 v3 v4 u1 u60 u3 u4 hsl har hlm hln hl p0 p1 hh hpt hb2 har2 hB CPA gA gB hgT hhas hso hwh e1 hq hFT
  go_enter Tryz.func63, Tryz.ntmps63
  go_upto_region 4 with (go_at_call 93; ((with_reducible refine C1.out.mono ?_); rintro e w4 ⟨g, cg, rfl, cg0, cg1, hg, hB4⟩; have HB4 := Lib.hid hB4; clear hB4))
  rename_i Kx hKx
  refine sol_lit As ns cs rfl (by simp) (by simp) (by simp) (by decide) ?_
  show Kx _ _
  refine hKx _ _ ?_
  clear hKx Kx
  obtain ⟨W3, hW3⟩ : ∃ W3, w4.alloc (.cells (solCs As ns cs) 127) = W3 := ⟨_, rfl⟩
  have hB43 : Below w4.heap.size w4 W3 := by rw [← hW3]; exact bel_al (Below.refl _ _) _
  have HS3 := Lib.hid (show SolAt W3 w4.heap.size As ns cs noTo by rw [← hW3]; exact sol_boxed w4 As ns cs)
  have HB3 := Lib.hid (below_then HB4.out hB43)
  have HSZ := Lib.hid (show w.heap.size ≤ w4.heap.size from HB4.out.size)
  have c30 := (hB43.cell (p := ⟨g, 0, none⟩) hg).trans cg0
  have HC31 := Lib.hid ((hB43.cell (p := ⟨g, 1, none⟩) hg).trans cg1)
  have HG3 := Lib.hid (show g < W3.heap.size from Nat.lt_of_lt_of_le hg hB43.size)
  rw [show w4.alloc (.cells (solCs As ns cs) 127) = W3 from hW3]
  clear hW3 cg0 cg1
  have HB43 := Lib.hid hB43
  clear hB43
  cases bo with
  | false =>
    rw [if_neg (by simp)]
    go_wp2_with (first
      | (go_at_call 95; ((with_reducible refine (C2.out _ HB3.out).mono ?_); rintro e w5 ⟨A5, n5, c5, rfl, hT5, hB5⟩; have HB35 := Lib.hid hB5; have HB5 := Lib.hid (below_then HB3.out hB5); have HT5 := Lib.hid hT5; clear hT5 hB5))
      | (go_at_call 96; ((with_reducible refine (CP.out _ HB5.out).mono ?_); rintro e w7 ⟨A7, c7, rfl, hI7, hk7, hB7⟩; have HB7 := Lib.hid (below_then HB5.out hB7); have HS7 := Lib.hid (HS3.out.below (below_then HB35.out hB7)); have HT57 := Lib.hid (HT5.out.below hB7); have HT7 := Lib.hid (show TermK w7 A7 nn c7 (apartL zn) from ⟨hI7, hk7⟩); clear hI7 hk7 hB7))
      | (go_at_call 94; ((with_reducible refine (CS.out _ _ _ _ _ _ _ _ HB7.out HS7.out HT57.out HT7.out).mono ?_); rintro e w6 ⟨rfl, hK6, hS6⟩; have HB6 := Lib.hid (HB7.out.trans (hK6.below (B := w.heap.size) (fun b hb => ⟨Nat.lt_of_lt_of_le hb HB7.out.size, Nat.ne_of_lt (Nat.lt_of_lt_of_le hb HSZ.out)⟩))); clear hK6 hS6)))
    go_ret2
    exact ⟨none, 0, 0, rfl, IntsAt.nil _ _ 0, by omega, fun g e => (by cases e), HB6.out⟩
  | true =>
    have CG := Lib.hid (fun (V : World) (d : Nat) (Aa : Option Addr) (na ca : Nat) (hS : SolAt V d As ns cs T') (h1 : TermK V Aa na ca B) => CF.out rfl V d Aa na ca hS h1)
    clear CF
    rw [if_pos rfl]
    go_wp2_with (first
      | (go_at_call 95; ((with_reducible refine (C3.out _ HB6.out).mono ?_); rintro e w8 ⟨A8, n8, c8, rfl, hT8, hB8⟩; have HS8 := Lib.hid (HS6.out.below hB8); have HB8 := Lib.hid (below_then HB6.out hB8); have HT8 := Lib.hid hT8; clear hT8 hB8))
      | (go_at_call 95; ((with_reducible refine (C2.out _ HB3.out).mono ?_); rintro e w5 ⟨A5, n5, c5, rfl, hT5, hB5⟩; have HB35 := Lib.hid hB5; have HB5 := Lib.hid (below_then HB3.out hB5); have HT5 := Lib.hid hT5; clear hT5 hB5))
      | (go_at_call 96; ((with_reducible refine (CP.out _ HB5.out).mono ?_); rintro e w7 ⟨A7, c7, rfl, hI7, hk7, hB7⟩; have HB37 := Lib.hid (below_then HB35.out hB7); have HB7 := Lib.hid (below_then HB5.out hB7); have HS7 := Lib.hid (HS3.out.below HB37.out); have HT57 := Lib.hid (HT5.out.below hB7); have HT7 := Lib.hid (show TermK w7 A7 nn c7 (apartL zn) from ⟨hI7, hk7⟩); clear hI7 hk7 hB7))
      | (go_at_call 94; ((with_reducible refine (CS.out _ _ _ _ _ _ _ _ HB7.out HS7.out HT57.out HT7.out).mono ?_); rintro e w6 ⟨rfl, hK6, hS6⟩; have c61 := (hK6.cell (p := ⟨g, 1, none⟩) ⟨Nat.lt_of_lt_of_le HG3.out HB37.out.size, Nat.ne_of_lt hg⟩).trans ((HB37.out.cell (p := ⟨g, 1, none⟩) HG3.out).trans HC31.out); have HB6 := Lib.hid (HB7.out.trans (hK6.below (B := w.heap.size) (fun b hb => ⟨Nat.lt_of_lt_of_le hb HB7.out.size, Nat.ne_of_lt (Nat.lt_of_lt_of_le hb HSZ.out)⟩))); have HS6 := Lib.hid hS6; clear hK6 hS6))
      | (go_at_call 97; ((with_reducible refine (CG.out _ _ _ _ _ HS8.out HT8.out).mono ?_); rintro e w9 ⟨A9, n9, c9, rfl, hI9, hk9, hf9, hB9⟩; have HF9 := Lib.hid (show ∀ g : Addr, A9 = some g → w.heap.size ≤ g.block from fun g e => Nat.le_trans HB8.out.size (hf9 g e)); have HB9 := Lib.hid (below_then HB8.out hB9); have HI9 := Lib.hid hI9; have HK9 := Lib.hid hk9; clear hI9 hB9 hk9 hf9)))
    go_ret2
    exact ⟨A9, n9, c9, rfl, HI9.out, HK9.out, HF9.out, HB9.out⟩

set_option maxRecDepth 100000 in
set_option maxHeartbeats 1000000 in
theorem refdet_state_new (As Am An : Option Addr) (ns cs nm cm nn cn : Nat) (zm : List Int) (w : World) (hm : IntsAt w w.heap.size Am nm zm) (h1 : 1 ≤ nm) (hh : zm.head? ≠ some 0) :
    Calls Tryz.prog 63 #[.slice As ns cs, .slice Am nm cm, .slice An nn cn] w (RetF w [] 10) := by
  obtain ⟨b, off, z, rfl, c1, k1, e1⟩ := hm.cellAt (k := 0) (by omega)
  rw [Nat.add_zero] at c1
  have hz : ¬ z = 0 := fun e => hh (by rw [List.head?_eq_getElem?, List.getElem?_eq_getElem k1, e1, e])
  have hz1 : (z != 0) = true := by simpa using hz
  have hb0 : (0 : Int) < (nm : Int) := by omega
  clear hm hh e1 k1
  go_enter Tryz.func63, Tryz.ntmps63
  go_wp2_with fail
  go_ret2
  exact ⟨none, 0, 0, rfl, IntsAt.nil _ _ 0, by omega, fun g e => (by cases e), Below.refl _ _⟩

/-- The reference's detach of terms: its answer lies in new memory. -/
theorem refdet_all (As Am An : Option Addr) (ns cs nm cm nn cn : Nat) (ss : Sg) (zm zn : List Int) (w : World) (hs : SigAt w w.heap.size As ns ss) (hm : IntsAt w w.heap.size Am nm zm) (hn : IntsAt w w.heap.size An nn zn) (hc : nm ≤ cm) (hc2 : cm ≤ 9223372036854775807) (hv1 : valOk ss zm = true) (hv2 : valOk ss zn = true) :
    Calls Tryz.prog 63 #[.slice As ns cs, .slice Am nm cm, .slice An nn cn] w (RetF w (detZ ss zm zn).1 (detZ ss zm zn).2) := by
  have hlm := hm.len
  have hv60 := (valOk_term hv1).1
  by_cases hh : zm.head? = some 0
  · obtain ⟨B, sh⟩ := shot_of hv1 hv2 hh
    exact refdet_new As Am An ns cs nm cm nn cn ss zm zn B w hs hm hn hc hc2 sh
  · have hz : detZ ss zm zn = ([], 10) := by unfold detZ; rw [if_pos (by simp [hv1, hv2]), if_neg hh]
    rw [hz]
    exact refdet_state_new As Am An ns cs nm cm nn cn zm w hm (by omega) hh

end Go.Proofs.YtapcdhagkbfccaaGreat

/- With more general givens each step says something more general (pure): KernelMonotone's mathematics. -/
namespace Go.Proofs.YtapcdhagkbfccaaGreat
open Go.RowKit

/-- Each term of the first list has the term in its place in the second as an instance. -/
def GenTo (ss : Sg) (aa bb : List (List Int)) : Prop := aa.length = bb.length ∧ ∀ (j : Nat) (a b : List Int), aa[j]? = some a → bb[j]? = some b → insB ss a b = true
theorem GenTo.at {ss : Sg} {aa bb : List (List Int)} (h : GenTo ss aa bb) {j : Nat} (hj : j < aa.length) : insB ss (aa.getD j []) (bb.getD j []) = true := by
  have hj2 : j < bb.length := by rw [← h.1]; exact hj
  rw [List.getD_eq_getElem?_getD, List.getD_eq_getElem?_getD, List.getElem?_eq_getElem hj, List.getElem?_eq_getElem hj2]
  exact h.2 j _ _ (List.getElem?_eq_getElem hj) (List.getElem?_eq_getElem hj2)
theorem det_gen {ss : Sg} {zM zN zm zn : List Int} (hm : insB ss zM zm = true) (hn : insB ss zN zn = true) (h0 : (detZ ss zm zn).2 = 0) (h4 : (detZ ss zM zN).2 ≠ 4) (h10 : (detZ ss zM zN).2 ≠ 10) : (detZ ss zM zN).2 = 0 ∧ insB ss (detZ ss zM zN).1 (detZ ss zm zn).1 = true := by
  obtain ⟨m1, m2, m3, m4⟩ := mat_sound (of_decide_eq_true hm)
  obtain ⟨n1, n2, n3, n4⟩ := mat_sound (of_decide_eq_true hn)
  exact det_inst m1 n1 m3 n3 m4.symm n4.symm h0 h4 h10
end Go.Proofs.YtapcdhagkbfccaaGreat

namespace Go.Proofs.YtapcdhagkbfccaaGreat
open Go.RowKit

end Go.Proofs.YtapcdhagkbfccaaGreat
