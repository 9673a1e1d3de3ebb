/- Contracts: the reference's Groups, Shapes, Sorted. -/
import Derived.Test.YtcegbmibpkopaaaFCg
import Derived.Test.YtcegbmibpkopaaaB10g
import Derived.Test.YtcegbmibpkopaaaQ6g
import Derived.Test.YtcegbmibpkopaaaL2g
import Derived.Test.YtcegbmibpkopaaaFOg
import Derived.Test.YtcegbmibpkopaaaA2g
import Derived.Deep.QuietTactic
import Derived.Test.YtcegbmibpkopaaaFQg
/- The reference's Valid of package find at any arguments (taken out of FG). -/
namespace Go.Proofs.Ytcegbmibpkopaaa
open Go.RowKit

theorem shOk_ref {ss : Sg} {tt : List (List Int)} (h1 : sigOk ss = true) (h2 : 1 ≤ tt.length ∧ tt.length ≤ 60) : shOk ss tt = tt.all (termOk ss) := by
  unfold shOk
  rw [decide_eq_true h2, Bool.true_and]
  congr 1
  funext z
  unfold valOk
  rw [h1, Bool.true_and]
theorem shOk_nosig {ss : Sg} {tt : List (List Int)} (h1 : sigOk ss = false) : shOk ss tt = false := by
  cases tt with
  | nil => rfl
  | cons z r =>
    unfold shOk
    have : valOk ss z = false := by unfold valOk; rw [h1]; rfl
    simp [this]
theorem shOk_nolen {ss : Sg} {tt : List (List Int)} (h : ¬ (1 ≤ tt.length ∧ tt.length ≤ 60)) : shOk ss tt = false := by
  unfold shOk
  rw [decide_eq_false h]; rfl

set_option maxHeartbeats 400000 in
theorem within5_any (n lo hi : Int) (w : World) : Calls Try.prog 116 #[.int .i64 n, .int .i64 lo, .int .i64 hi] w fun e w' => e = .returned (.bool (decide (lo ≤ n) && decide (n ≤ hi))) ∧ w = w' := by
  by_cases h1 : lo ≤ n
  · by_cases h2 : n ≤ hi
    · have d1 : decide (lo ≤ n) = true := decide_eq_true h1
      have d2 : decide (n ≤ hi) = true := decide_eq_true h2
      go_enter Try.func116, Try.ntmps116
      go_wp2
      go_ret
      exact ⟨ret_b (by first | rfl | (rw [d1, d2]; rfl)), rfl⟩
    · have d1 : decide (lo ≤ n) = true := decide_eq_true h1
      have d2 : decide (n ≤ hi) = false := decide_eq_false h2
      go_enter Try.func116, Try.ntmps116
      go_wp2
      go_ret
      exact ⟨ret_b (by first | rfl | (rw [d1, d2]; rfl)), rfl⟩
  · have d1 : decide (lo ≤ n) = false := decide_eq_false h1
    go_enter Try.func116, Try.ntmps116
    go_wp2
    go_ret
    exact ⟨ret_b (by first | rfl | (rw [d1]; rfl)), rfl⟩

set_option maxRecDepth 100000 in
set_option maxHeartbeats 1000000 in
theorem refValid5_any (As At : Option Addr) (ns cs n c : Nat) (ss : Sg) (ls : List Hd) (tt : List (List Int)) (w : World) (B : Nat) (hs : SigAt w B As ns ss) (ht : TermsAt w B At n ls tt) (hn : n ≤ 1000000) :
    Calls Try.prog 59 #[.slice As ns cs, .slice At n c] w fun e w' => e = .returned (.bool (shOk ss tt)) ∧ ∃ k, w' = w.drewN k := by
  have C1 := Lib.hid (refSign_any As ns cs ss w B hs)
  have hlt := ht.len
  cases h1 : sigOk ss
  · have H := Lib.hid (shOk_nosig (tt := tt) h1)
    rw [h1] at C1
    clear hs ht hn h1 hlt
    go_enter Try.func59, Try.ntmps59
    go_wp2_with (go_at_call 92; refine C1.out.mono ?_; rintro e w1 ⟨rfl, k1, rfl⟩)
    go_ret
    exact ⟨ret_b (by rw [H.out]), _, rfl⟩
  · have C2 := Lib.hid (fun k => within5_any (n : Int) 1 60 (w.drewN k))
    rw [h1] at C1
    by_cases h2 : 1 ≤ tt.length ∧ tt.length ≤ 60
    · have C3 := Lib.hid (fun k => allValid_any As At ns cs n c ss ls tt (w.drewN k) B (hs.keep fun _ _ => rfl) (ht.keep fun _ _ => rfl) hn h1)
      have H := Lib.hid (shOk_ref h1 h2)
      obtain ⟨q, hq⟩ : ∃ q, tt.all (termOk ss) = q := ⟨_, rfl⟩
      rw [hq] at C3 H
      rw [show (decide ((1 : Int) ≤ (n : Int)) && decide ((n : Int) ≤ 60)) = true by rw [decide_eq_true (by omega), decide_eq_true (by omega)]; rfl] at C2
      clear hs ht hn h1 hlt h2 hq
      go_enter Try.func59, Try.ntmps59
      go_wp2_with (first
        | (go_at_call 92; refine C1.out.mono ?_; rintro e w1 ⟨rfl, k1, rfl⟩)
        | (go_at_call 116; refine (C2.out _).mono ?_; rintro e w2 ⟨rfl, rfl⟩)
        | (go_at_call 117; refine (C3.out _).mono ?_; rintro e w3 ⟨rfl, k3, rfl⟩))
      go_ret
      exact ⟨ret_b (by rw [H.out]), _, rfl⟩
    · have H := Lib.hid (shOk_nolen (ss := ss) h2)
      rw [show (decide ((1 : Int) ≤ (n : Int)) && decide ((n : Int) ≤ 60)) = false by
        rw [Bool.and_eq_false_iff, decide_eq_false_iff_not, decide_eq_false_iff_not]; omega] at C2
      clear hs ht hn h1 hlt h2
      go_enter Try.func59, Try.ntmps59
      go_wp2_with (first
        | (go_at_call 92; refine C1.out.mono ?_; rintro e w1 ⟨rfl, k1, rfl⟩)
        | (go_at_call 116; refine (C2.out _).mono ?_; rintro e w2 ⟨rfl, rfl⟩))
      go_ret
      exact ⟨ret_b (by rw [H.out]), _, rfl⟩

end Go.Proofs.Ytcegbmibpkopaaa

/- Renamed and Flat again: their answers lie in new memory. -/
namespace Go.Proofs.Ytcegbmibpkopaaa
open Go.RowKit


set_option maxRecDepth 100000 in
set_option maxHeartbeats 2000000 in
theorem refRenamed_f (A : Option Addr) (n c : Nat) (zs : List Int) (w : World) (hx : IntsAt w w.heap.size A n zs) (h1 : 1 ≤ n) (hn : n ≤ 1000000) (hb : ∀ z ∈ zs, -1000000 ≤ z ∧ z ≤ 1000000) :
    Calls Try.prog 86 #[.slice A n c] w fun e w' => ∃ A' c', e = .returned (.slice A' n c') ∧ (IntsAt w' w'.heap.size A' n (canon zs) ∧ n ≤ c' ∧ c' ≤ 9223372036854775807) ∧ Below w.heap.size w w' ∧ ∃ b, A' = some ⟨b, 0, none⟩ ∧ w.heap.size ≤ b := by
  obtain ⟨i0, hi, hz0, hz1, hz2⟩ := info_parts info_int
  obtain ⟨bt, offt, rfl, hbt, htc⟩ := hx.mem (by omega)
  have hlen := hx.len
  have CV := Lib.hid (variables_any _ n c zs w hx hn hb)
  have HLX := Lib.hid hlen
  have HTC := Lib.hid htc
  have HBD := Lib.hid hb
  have hsl := seenTo_le zs n
  have hvl : (vof (seenTo zs n)).length = (seenTo zs n).length := by simp [vof]
  have hN1 := Lib.hid (show (zs.map (Value.int .i64)).length = n * 1 by simp [hlen])
  have hN3 := Lib.hid (show ∀ u ∈ zs.map (Value.int .i64), u.oneCell' = true by
    intro u hu
    obtain ⟨z, _, rfl⟩ := List.mem_map.1 hu
    rfl)
  obtain ⟨L, hL⟩ : ∃ L, (vof (seenTo zs n)).length = L := ⟨_, rfl⟩
  have hL2 : L ≤ n := by omega
  have HL := Lib.hid (And.intro hL (show (seenTo zs n).length = L by omega))
  rw [hL] at CV
  clear hx hb hlen htc hsl hvl hL
  go_enter Try.func86, Try.ntmps86
  go_wp2_with (first
    | (go_at_call 110; refine CV.out.mono ?_; rintro e w1 ⟨v, rfl, hown, hB⟩
       obtain ⟨Av, cv, hv, hIV⟩ := row_ints hown (by omega)
       subst hv
       have HB := Lib.hid hB
       have HIV := Lib.hid hIV
       have HN2 := Lib.hid (show ∀ j u, (zs.map (Value.int .i64))[j]? = some u → (w1.alloc (.cells #[] 3)).cell? ((⟨bt, offt, none⟩ : Addr).add j) = some u by
         intro j u hu
         rw [add0, alloc_keep _ _ _ (by have := hB.size; show bt < _; omega), hB.cell (p := ⟨bt, offt + j, none⟩) hbt]
         simp only [List.getElem?_map, Option.map_eq_some_iff] at hu
         obtain ⟨z, hz, rfl⟩ := hu
         obtain ⟨hj, rfl⟩ := List.getElem?_eq_some_iff.1 hz
         exact HTC.out j hj)
       have HO := Lib.hid (show (w1.alloc (.cells #[] 3)).ownsRow w1.heap.size 3 1 (.slice (some ⟨w1.heap.size, 0, none⟩) 0 0) 0 [] from
         ⟨rfl, .inr ⟨w1.heap.size, 0, #[], rfl, Nat.le_refl _, heap_alloc_new w1 _, Nat.le_refl _, by unfold maxLen; omega, rfl, rfl⟩⟩)
       clear hown hB hIV)
    | (at_builtin
       refine wpList_append_own_at _ rfl _ _ 25 rfl w1.heap.size 3 i0 _ 1 8 Try.underlying25 hi hz0 hz1 hz2 rfl (by omega) (.slice (some ⟨w1.heap.size, 0, none⟩) 0 0) 0 [] rfl HO.out ⟨bt, offt, none⟩ n c (zs.map (Value.int .i64)) rfl hN1.out HN2.out hN3.out (by unfold maxLen; omega) (by omega) (by simp) ?_
       intro v2 w2 hown2 hg2 _ _
       have hBW := (((Below.refl _ w1).alloc (Nat.le_refl _) _).grown hg2 (by simp) (fun k e => by cases e; exact Nat.le_refl _))
       have hown3 := hown2
       rw [Nat.zero_add, List.nil_append] at hown3
       obtain ⟨g, cap, hv2, _, hglt⟩ := hown3.form (by omega)
       subst hv2
       have HBW := Lib.hid hBW
       have HOWN := Lib.hid hown3
       have HGB := Lib.hid ((hown3.lt g rfl).1)
       clear hown2 hg2 hown3 hBW hglt))
  have HR0 : Hid (w2.ownsRow w1.heap.size 3 1 (.slice (some ⟨g, 0, none⟩) n cap) n ((rl zs 0).map (Value.int .i64))) := by
    have := HOWN.out
    rw [rl_zero]
    exact this
  clear hi hz0 hz1 hz2
  obtain ⟨S, hS⟩ : ∃ S, seenTo zs n = S := ⟨_, rfl⟩
  rw [hS] at HIV HL
  have HS := Lib.hid hS
  have HND := Lib.hid (hS ▸ seenTo_nodup zs n)
  clear hS
  go_loopw [5] (fun i wr => ∃ k : Nat, k ≤ n ∧ i = .int .i64 k ∧ wr.ownsRow w1.heap.size 3 1 (.slice (some ⟨g, 0, none⟩) n cap) n ((rl zs k).map (Value.int .i64)) ∧ Below w1.heap.size w1 wr) (fun i _ => n - (intOf i).toNat)
  case atStart => exact ⟨0, Nat.zero_le _, rfl, HR0.out, HBW.out⟩
  case round =>
    obtain ⟨k, hk, rfl, hR, hBr⟩ := hrel
    by_cases hlt : k < n
    · have k1 : k < zs.length := by have := HLX.out; omega
      have hz := HTC.out k k1
      have hst := rl_start k1
      have hbd := HBD.out _ (List.getElem_mem k1)
      have hcv : (canon zs)[k]? = some (cval S zs[k] S.length) := by
        have := cval_all zs k1
        rw [← HLX.out, HS.out] at this
        exact this
      have hstep := rl_step k1 hcv
      obtain ⟨z, hzz⟩ : ∃ z, zs[k] = z := ⟨_, rfl⟩
      rw [hzz] at hz hst hbd hcv hstep
      obtain ⟨hb1, hb2⟩ := hbd
      have hk0 : (0 : Int) ≤ (k : Int) := by omega
      have hk1 : (k : Int) < (n : Int) := by omega
      have HR : Hid (wr.ownsRow w1.heap.size 3 1 (.slice (some ⟨g, 0, none⟩) n cap) n (((rl zs k).set k (cval S z 0)).map (Value.int .i64))) := by
        rw [cval_zero, hst]; exact hR
      have HBR := Lib.hid hBr
      have HZ := Lib.hid hz
      have HSTEP := Lib.hid hstep
      clear hR hBr hst hcv hz hstep hzz
      obtain ⟨wo, rfl⟩ : ∃ wo : World, wo = wr := ⟨_, rfl⟩
      go_wp2
      go_loopw [6] (fun j wq => ∃ q : Nat, q ≤ L ∧ j = .int .i64 q ∧ wq.ownsRow w1.heap.size 3 1 (.slice (some ⟨g, 0, none⟩) n cap) n (((rl zs k).set k (cval S z q)).map (Value.int .i64)) ∧ Below w1.heap.size w1 wq) (fun j _ => L - (intOf j).toNat)
      case atStart => exact ⟨0, Nat.zero_le _, rfl, HR.out, HBR.out⟩
      case round =>
        obtain ⟨q, hq, rfl, hRq, hBq⟩ := hrel
        have HRQ := Lib.hid hRq
        have HBQ := Lib.hid hBq
        clear hRq hBq
        by_cases hql : q < L
        · have cz : wr.cell? ⟨bt, offt + k, none⟩ = some (.int .i64 z) := ((HB.out.trans (HBQ.out.mono HB.out.size)).cell (p := ⟨bt, offt + k, none⟩) hbt).trans HZ.out
          obtain ⟨b, off, vq, rfl, cv0, q1, ev⟩ := (HIV.out.below HBQ.out).cellAt hql
          have q2 : q < S.length := by have := HL.out.2; omega
          have evs : vq = -S[q] - 1 := by rw [← ev]; simp [vof]
          have hsb : -1000000 ≤ S[q] ∧ S[q] ≤ 1000000 := HBD.out _ (seen_mem zs n _ (by rw [HS.out]; exact List.getElem_mem q2))
          have hsn := seen_neg zs n S[q] (by rw [HS.out]; exact List.getElem_mem q2)
          have hv1 : -2000000 ≤ vq := by omega
          have hv2 : vq ≤ 2000000 := by omega
          have hq0 : (0 : Int) ≤ (q : Int) := by omega
          have hq1 : (q : Int) < (L : Int) := by omega
          have hq2 : (q : Int) ≤ 1000000 := by omega
          have hmiss := cval_miss (z := z) q2
          have hhit := cval_hit (z := z) q2 HND.out
          have hlenr : k < n * 1 := by omega
          have ccell := HRQ.out.cellAt k hlenr
          have cfro := HRQ.out.frozenAt k
          have cst := HRQ.out.stored k (.int .i64 (-(q : Int) - 1))
          have hrl : ((((rl zs k).set k (cval S z q)).map (Value.int .i64)))[k]? = some (.int .i64 (cval S z q)) := by
            rw [List.getElem?_map, List.getElem?_set_self (by rw [rl_length (by omega)]; exact k1)]; rfl
          rw [hrl] at ccell
          obtain ⟨cvv, hcvv⟩ : ∃ cvv, cval S z q = cvv := ⟨_, rfl⟩
          rw [hcvv] at ccell
          by_cases e : z = S[q]
          · have HX : Hid ((wr.setCell ⟨g, k, none⟩ (.int .i64 (-(q : Int) - 1))).ownsRow w1.heap.size 3 1 (.slice (some ⟨g, 0, none⟩) n cap) n (((rl zs k).set k (cval S z (q + 1))).map (Value.int .i64)) ∧ Below w1.heap.size w1 (wr.setCell ⟨g, k, none⟩ (.int .i64 (-(q : Int) - 1)))) := by
              refine ⟨?_, HBQ.out.setCell (p := ⟨g, k, none⟩) HGB.out _⟩
              have h := cst.1
              rw [set_map_int, List.set_set] at h
              rw [hhit (by omega) e.symm]
              exact h
            have he : (z == -vq - 1) = true := by simp; omega
            clear e evs hsb hsn hmiss hhit cst hrl hcvv ev
            go_wp2_with fail
            go_quiet (fail)
            go_wp2
            go_roundw
            case rel => exact ⟨q + 1, by omega, by go_num, HX.out.1, ⟨HX.out.2.os, HX.out.2.tape, HX.out.2.output, HX.out.2.size, HX.out.2.block⟩⟩
            case measure => simp [intOf]; omega
          · have HX : Hid (wr.ownsRow w1.heap.size 3 1 (.slice (some ⟨g, 0, none⟩) n cap) n (((rl zs k).set k (cval S z (q + 1))).map (Value.int .i64)) ∧ Below w1.heap.size w1 wr) :=
              ⟨by rw [hmiss (fun h => e h.symm)]; exact HRQ.out, HBQ.out⟩
            have he : (z == -vq - 1) = false := by simp; omega
            clear e evs hsb hsn hmiss hhit cst hrl hcvv ev
            go_wp2_with fail
            go_quiet (fail)
            go_wp2
            go_roundw
            case rel => exact ⟨q + 1, by omega, by go_num, HX.out.1, below_drewN HX.out.2 _⟩
            case measure => simp [intOf]; omega
        · obtain rfl : q = L := by omega
          have HX : Hid (wr.ownsRow w1.heap.size 3 1 (.slice (some ⟨g, 0, none⟩) n cap) n ((rl zs (k + 1)).map (Value.int .i64))) := by
            have h := HRQ.out
            have := HSTEP.out
            rw [HL.out.2] at this
            rw [this] at h
            exact h
          go_wp2
          go_roundw
          case rel => exact ⟨k + 1, by omega, by go_num, HX.out, HBQ.out⟩
          case measure => simp [intOf]; omega
    · obtain rfl : k = n := by omega
      have HRR := Lib.hid hR
      have HBR := Lib.hid hBr
      clear hR hBr
      go_wp2
      go_ret
      refine ⟨_, _, rfl, ?_, HB.out.trans (HBR.out.mono HB.out.size), ⟨g, rfl, Nat.le_trans HB.out.size HGB.out⟩⟩
      have h := HRR.out
      rw [HLX.out, rl_all, ← HLX.out] at h
      obtain ⟨A', c', e, hI, hk⟩ := row_intsk h hn
      cases e
      exact ⟨hI, hk⟩



set_option maxRecDepth 100000 in
set_option maxHeartbeats 1000000 in
theorem flat_f (A : Option Addr) (n c : Nat) (zs : List Int) (w : World) (hx : IntsAt w w.heap.size A n zs) (h1 : 1 ≤ n) (hn : n ≤ 1000000) :
    Calls Try.prog 88 #[.slice A n c] w fun e w' => ∃ A' c', e = .returned (.slice A' n c') ∧ IntsAt w' w'.heap.size A' n (flat zs) ∧ Below w.heap.size w w' ∧ ∃ b, A' = some ⟨b, 0, none⟩ ∧ w.heap.size ≤ b := by
  obtain ⟨i0, hi, hz0, hz1, hz2⟩ := info_parts info_int
  obtain ⟨bt, offt, rfl, hbt, htc⟩ := hx.mem (by omega)
  have hlen := hx.len
  have HLX := Lib.hid hlen
  have HN1 := Lib.hid (show (zs.map (Value.int .i64)).length = n * 1 by simp [hlen])
  have HN2 := Lib.hid (show ∀ j u, (zs.map (Value.int .i64))[j]? = some u → (w.alloc (.cells #[] 3)).cell? ((⟨bt, offt, none⟩ : Addr).add j) = some u by
    intro j u hu
    rw [add0, alloc_keep _ _ _ hbt]
    simp only [List.getElem?_map, Option.map_eq_some_iff] at hu
    obtain ⟨z, hz, rfl⟩ := hu
    obtain ⟨hj, rfl⟩ := List.getElem?_eq_some_iff.1 hz
    exact htc j hj)
  have HN3 := Lib.hid (show ∀ u ∈ zs.map (Value.int .i64), u.oneCell' = true by
    intro u hu
    obtain ⟨z, _, rfl⟩ := List.mem_map.1 hu
    rfl)
  have HO := Lib.hid (show (w.alloc (.cells #[] 3)).ownsRow w.heap.size 3 1 (.slice (some ⟨w.heap.size, 0, none⟩) 0 0) 0 [] from
    ⟨rfl, .inr ⟨w.heap.size, 0, #[], rfl, Nat.le_refl _, heap_alloc_new w _, Nat.le_refl _, by unfold maxLen; omega, rfl, rfl⟩⟩)
  clear hx hlen htc
  go_enter Try.func88, Try.ntmps88
  go_wp2_with (at_builtin
               refine wpList_append_own_at _ rfl _ _ 25 rfl w.heap.size 3 i0 _ 1 8 Try.underlying25 hi hz0 hz1 hz2 rfl (by omega) (.slice (some ⟨w.heap.size, 0, none⟩) 0 0) 0 [] rfl HO.out ⟨bt, offt, none⟩ n c (zs.map (Value.int .i64)) rfl HN1.out HN2.out HN3.out (by unfold maxLen; omega) (by omega) (by simp) ?_
               intro v2 w2 hown2 hg2 _ _
               have hBW := (((Below.refl _ w).alloc (Nat.le_refl _) _).grown hg2 (by simp) (fun k e => by cases e; exact Nat.le_refl _))
               have hown3 := hown2
               rw [Nat.zero_add, List.nil_append] at hown3
               obtain ⟨g, cap, hv2, _, hglt⟩ := hown3.form (by omega)
               subst hv2
               have HBW := Lib.hid hBW
               have HOWN := Lib.hid hown3
               have HGB := Lib.hid ((hown3.lt g rfl).1)
               clear hown2 hg2 hown3 hBW hglt)
  clear hi hz0 hz1 hz2
  go_loopw [4] (fun i wr => ∃ k : Nat, k ≤ n ∧ i = .int .i64 k ∧ wr.ownsRow w.heap.size 3 1 (.slice (some ⟨g, 0, none⟩) n cap) n ((mix (flat zs) zs k).map (Value.int .i64)) ∧ Below w.heap.size w wr) (fun i _ => n - (intOf i).toNat)
  case atStart => exact ⟨0, Nat.zero_le _, rfl, by rw [mix_zero]; exact HOWN.out, HBW.out⟩
  case round =>
    obtain ⟨k, hk, rfl, hR, hBr⟩ := hrel
    have HRQ := Lib.hid hR
    have HBR := Lib.hid hBr
    clear hR hBr
    by_cases hlt : k < n
    · have k1 : k < zs.length := by have := HLX.out; omega
      have ccell := HRQ.out.cellAt k (by omega)
      have cfro := HRQ.out.frozenAt k
      have cst := HRQ.out.stored k (.int .i64 (-1))
      have hm : (((mix (flat zs) zs k).map (Value.int .i64)))[k]? = some (.int .i64 zs[k]) := by
        rw [List.getElem?_map, mix_at (flat_length zs) k1]; rfl
      rw [hm] at ccell
      have hfa := flat_at k1
      have hstep := mix_step (flat_length zs) k1
      have hsame := mix_same (flat_length zs) k1
      rw [hfa] at hstep hsame
      obtain ⟨z, hzz⟩ : ∃ z, zs[k] = z := ⟨_, rfl⟩
      rw [hzz] at ccell hstep hsame
      clear hm hfa hzz
      by_cases hneg : z < 0
      · rw [if_pos hneg] at hstep
        have HX : Hid ((wr.setCell ⟨g, k, none⟩ (.int .i64 (-1))).ownsRow w.heap.size 3 1 (.slice (some ⟨g, 0, none⟩) n cap) n ((mix (flat zs) zs (k + 1)).map (Value.int .i64)) ∧ Below w.heap.size w (wr.setCell ⟨g, k, none⟩ (.int .i64 (-1)))) := by
          refine ⟨?_, HBR.out.setCell (p := ⟨g, k, none⟩) HGB.out _⟩
          have h := cst.1
          rw [set_map_int, hstep] at h
          exact h
        clear hstep hsame cst
        go_wp2
        go_roundw
        case rel => exact ⟨k + 1, by omega, by go_num, HX.out.1, HX.out.2⟩
        case measure => simp [intOf]; omega
      · rw [if_neg hneg] at hsame
        have HX := Lib.hid (hsame rfl)
        clear hstep hsame cst
        go_wp2
        go_roundw
        case rel => exact ⟨k + 1, by omega, by go_num, by rw [HX.out]; exact HRQ.out, HBR.out⟩
        case measure => simp [intOf]; omega
    · obtain rfl : k = n := by omega
      go_wp2
      go_ret
      refine ⟨_, _, rfl, ?_, HBR.out, ⟨g, rfl, HGB.out⟩⟩
      have h := HRQ.out
      rw [HLX.out, mix_all (flat_length zs), ← HLX.out] at h
      obtain ⟨A', c', e, hI⟩ := row_ints h hn
      cases e
      exact hI

end Go.Proofs.Ytcegbmibpkopaaa

/- Contract: the reference's canonical. -/
namespace Go.Proofs.Ytcegbmibpkopaaa
open Go.RowKit

theorem ints_fresh {w5 : World} {go : Option Nat} {b n B : Nat} {A : Option Addr} {zs : List Int} (hI : IntsAt w5 w5.heap.size A n zs) (hA : A = some ⟨b, 0, none⟩) (hb : B ≤ b) (hg : ∀ k, go = some k → k < B) : IntsBut w5 go A n zs :=
  ⟨hI.len, hI.max, fun hn => by
    obtain ⟨b', off, e, hlt, hc⟩ := hI.mem hn
    rw [hA] at e
    cases e
    exact ⟨b, 0, hA, hlt, fun e2 => by have := hg b e2.symm; omega, hc⟩⟩
theorem list_set (w : World) (x : Hd) : ∀ j u, ([x.val] : List Value)[j]? = some u → (w.alloc (.cells #[x.val] 25)).cell? ((⟨w.heap.size, 0, none⟩ : Addr).add j) = some u :=
  World.news_of_block (cs := #[x.val]) (t := 25) (fr := (0, 0)) (heap_alloc_new w _)

set_option maxRecDepth 100000 in
set_option maxHeartbeats 2000000 in
theorem canon5_any (At : Option Addr) (n c : Nat) (ss : Sg) (ls : List Hd) (tt : List (List Int)) (w : World) (ht : TermsAt w w.heap.size At n ls tt) (hv : shOk ss tt = true) :
    Calls Try.prog 125 #[.slice At n c] w fun e w' => ∃ A c' ls', e = .returned (.slice A n c') ∧ TermsAt w' w'.heap.size A n ls' (tt.map canon) ∧ Below w.heap.size w w' := by
  obtain ⟨i1, hi1, hy0, hy1, hy2⟩ := info_parts info_term
  have hsl := shOk_len hv
  have htl := ht.len
  have hn : n ≤ 60 := by omega
  have HT := Lib.hid ht
  have HTL := Lib.hid htl
  have HV := Lib.hid hv
  have CR := Lib.hid (fun (V : World) (k : Nat) (A' : Option Addr) (n' c' : Nat) (t : List Int) (hV : Below w.heap.size w V) (hI : IntsAt w w.heap.size A' n' t) (hk : tt[k]? = some t) =>
    show Calls Try.prog 86 #[.slice A' n' c'] V fun e w' => ∃ A5 c5, e = .returned (.slice A5 n' c5) ∧ (IntsAt w' w'.heap.size A5 n' (canon t) ∧ n' ≤ c5 ∧ c5 ≤ 9223372036854775807) ∧ Below V.heap.size V w' ∧ ∃ b, A5 = some ⟨b, 0, none⟩ ∧ V.heap.size ≤ b from by
      obtain ⟨a1, a60, anum, _⟩ := valOk_term (shOk_each hv hk)
      have hl := (sigOk_len (valOk_sig (shOk_each hv hk))).2
      have := hI.len
      exact refRenamed_f A' n' c' t V ((hI.below hV).more hV.size) (by omega) (by omega) (fun z hz => by have := anum z hz; omega))
  clear ht hv hsl htl
  go_enter Try.func125, Try.ntmps125
  go_wp2
  go_loopw [3, 4] (fun v i wr => ∃ (k : Nat) (Av : Option Addr) (cv : Nat) (lh : List Hd), k ≤ n ∧ i = .int .i64 k ∧ v = .slice Av k cv ∧ RowsAt 25 wr w.heap.size (.slice Av k cv) k lh ((tt.map canon).take k) ∧ Below w.heap.size w wr) (fun _ i _ => n - (intOf i).toNat)
  case atStart => exact ⟨0, none, 0, [], Nat.zero_le _, rfl, rfl, RowsAt.nil _ _ _, Below.refl _ _⟩
  case round =>
    obtain ⟨k, Av, cv, lh, hk, rfl, rfl, hR, hB⟩ := hrel
    by_cases hlt : k < n
    · obtain ⟨b, off, A', n', c', rfl, hb, q1, q2⟩ := HT.out.hds.cellAt hlt
      obtain ⟨t, t1, _, hI⟩ := HT.out.at q2
      have q3 := (hB.cell (p := ⟨b, off + k, none⟩) hb).trans q1
      have CC := Lib.hid (CR.out wr k A' n' c' t hB hI t1)
      have HTK := Lib.hid (show (tt.map canon).take (k + 1) = (tt.map canon).take k ++ [canon t] by
        have hkl : k < (tt.map canon).length := by rw [List.length_map]; have := HTL.out; omega
        rw [List.take_succ_eq_append_getElem hkl]
        congr 2
        refine Option.some.inj ((List.getElem?_eq_getElem hkl).symm.trans ?_)
        rw [List.getElem?_map, t1]; rfl)
      have hk0 : (0 : Int) ≤ (k : Int) := by omega
      have hk1 : (k : Int) < (n : Int) := by omega
      have HR := Lib.hid hR
      have HB := Lib.hid hB
      clear hR hB q1 q2 hI t1
      go_wp2_with (first
        | (go_at_call 86; refine CC.out.mono ?_; rintro e w5 ⟨A5, c5, rfl, ⟨hI5, _, _⟩, hB5, b5, hA5, hb5⟩; have HR5 := Lib.hid (HR.out.below hB5); have HI5 := Lib.hid (ints_fresh (go := Value.ownBlock (.slice Av k cv)) hI5 hA5 hb5 (fun j e => (HR.out.row.lt j e).2)); have HB5 := Lib.hid (below_then HB.out hB5); clear hI5 hB5 hA5 hb5)
        | (at_builtin
           refine wpList_append_own_at _ rfl _ _ 49 rfl w.heap.size 25 i1 _ 1 24 Try.underlying49 hi1 hy0 hy1 hy2 rfl (by omega) _ _ _ rfl (HR5.out.row.alloc _) ⟨w5.heap.size, 0, none⟩ 1 1 [.slice A5 n' c5] rfl rfl
             (World.news_of_block (cs := #[.slice A5 n' c5]) (t := 25) (fr := (0, 0)) (heap_alloc_new w5 _)) (by simp [Value.oneCell']) (by unfold maxLen; omega) (by omega) (by have := HB5.out.size; simp; omega) ?_
           intro v1 w6 hown1 hg1 _ ho1
           have HR6 := Lib.hid (RowsAt.push (x := (A5, n', c5)) (HR5.out.below (bel_al (Below.refl w5.heap.size w5) (.cells #[.slice A5 n' c5] 25))) (HI5.out.below (bel_al (Below.refl w5.heap.size w5) (.cells #[.slice A5 n' c5] 25))) hown1 hg1 ho1)
           have HB6 := Lib.hid ((HB5.out.alloc HB5.out.size _).grown hg1 (by have := HB5.out.size; simp; omega) (fun j e => (HR5.out.row.lt j e).1))
           obtain ⟨g1, cap1, hv1, _⟩ := hown1.form (by omega)
           subst hv1
           clear hown1 hg1 ho1))
      go_roundw
      case rel => exact ⟨k + 1, some ⟨g1, 0, none⟩, cap1, _, by omega, by go_num, rfl, by rw [HTK.out]; exact HR6.out, HB6.out⟩
      case measure => simp [intOf]; omega
    · obtain rfl : k = n := by omega
      have HR := Lib.hid hR
      have HB := Lib.hid hB
      clear hR hB
      go_wp2
      go_ret
      obtain ⟨A9, c9, e9, hT9⟩ := HR.out.terms (by omega)
      rw [List.take_of_length_le (by rw [List.length_map, ← HTL.out]; exact Nat.le_refl _)] at hT9
      exact ⟨A9, c9, lh, by rw [e9]; rfl, hT9, HB.out⟩

end Go.Proofs.Ytcegbmibpkopaaa

/- Contract: the reference's grouped. -/
namespace Go.Proofs.Ytcegbmibpkopaaa
open Go.RowKit

section
variable {w w' : World} {base m : Nat} {v : Value} {hs : List Hd} {gg : List (List Int)}
/-- A row more, that is there already. -/
theorem GRow.pushx {v' : Value} {x : Hd} {g : List Int} (h : GRow w base v m hs gg) (hx : w'.ownsRow base 3 1 x.val g.length (g.map (Value.int .i64))) (hb : ∀ b, x.val.ownBlock = some b → v'.ownBlock ≠ some b ∧ ∀ (j : Nat) (y : Hd), hs[j]? = some y → y.val.ownBlock ≠ some b)
    (hown : w'.ownsRow base 24 1 v' (m + 1) (hs.map Hd.val ++ [x.val])) (hg : w.grownBy w' v.ownBlock) (ho : v'.ownBlock = v.ownBlock ∨ v'.ownBlock = some w.heap.size) : GRow w' base v' (m + 1) (hs ++ [x]) (gg ++ [g]) := by
  have hll := h.ll
  have hlen := h.len
  refine ⟨by simpa using hown, by simp [hlen], fun j y q hy hq => ?_, fun j y hy b hb' => ?_, fun j k y z hy hz hjk b hb' => ?_⟩
  · rcases snoc_get hy with ⟨hj, hy0⟩ | ⟨hj, rfl⟩
    · rcases snoc_get hq with ⟨_, hq0⟩ | ⟨hj', _⟩
      · refine (h.each j y q hy0 hq0).kept hg ?_
        cases hv : y.val.ownBlock with
        | none => exact .inl rfl
        | some b => exact .inr fun e => h.ne j y hy0 b hv e.symm
      · omega
    · rcases snoc_get hq with ⟨hj', _⟩ | ⟨_, rfl⟩
      · omega
      · exact hx
  · rcases snoc_get hy with ⟨hj, hy0⟩ | ⟨hj, rfl⟩
    · rcases ho with ho | ho
      · rw [ho]; exact h.ne j y hy0 b hb'
      · rw [ho]
        intro e
        cases e
        obtain ⟨q, hq⟩ := h.gAt hy0
        have := ((h.each j y q hy0 hq).lt _ hb').2
        omega
    · exact (hb b hb').1
  · rcases snoc_get hy with ⟨hj, hy0⟩ | ⟨hj, rfl⟩
    · rcases snoc_get hz with ⟨hk, hz0⟩ | ⟨hk, rfl⟩
      · exact h.ne2 j k y z hy0 hz0 hjk b hb'
      · intro e
        exact (hb b e).2 j y hy0 hb'
    · rcases snoc_get hz with ⟨hk, hz0⟩ | ⟨hk, rfl⟩
      · exact (hb b hb').2 k z hz0
      · omega
end

/-- The groups when j of them are looked through for statement k. -/
def gTo (G : List (List Int)) (ix k j : Nat) : List (List Int) := if ix < j then G.set ix (G.getD ix [] ++ [(k : Int)]) else G
theorem gTo_zero (G : List (List Int)) (ix k : Nat) : gTo G ix k 0 = G := if_neg (by omega)
theorem gTo_len (G : List (List Int)) (ix k j : Nat) : (gTo G ix k j).length = G.length := by unfold gTo; split <;> simp
theorem gTo_hit (G : List (List Int)) (ix k : Nat) : gTo G ix k ix = G ∧ gTo G ix k (ix + 1) = G.set ix (G.getD ix [] ++ [(k : Int)]) := ⟨if_neg (by omega), if_pos (by omega)⟩
theorem gTo_miss {G : List (List Int)} {ix k j : Nat} (h : j ≠ ix) : gTo G ix k (j + 1) = gTo G ix k j := by
  unfold gTo
  by_cases e : ix < j
  · rw [if_pos e, if_pos (by omega)]
  · rw [if_neg e, if_neg (by omega)]
theorem gTo_get {G : List (List Int)} {ix k j : Nat} : (gTo G ix k j)[j]? = G[j]? := by
  unfold gTo
  split
  · rw [List.getElem?_set_ne (by omega)]
  · rfl

theorem grpS_ne' (fs : Nat → List Int) (k j : Nat) (g : List Int) (h : (grpS fs k).2[j]? = some g) : 1 ≤ g.length := by
  obtain ⟨_, h2, h3⟩ := grp_is fs k
  obtain ⟨hl, _⟩ := grpS_len fs k
  obtain ⟨hj, _⟩ := List.getElem?_eq_some_iff.1 h
  have hx : (grpS fs k).1[j]? = some ((grpS fs k).1[j]'(by omega)) := List.getElem?_eq_getElem _
  obtain ⟨x, hxx⟩ : ∃ x, (grpS fs k).1[j]'(by omega) = x := ⟨_, rfl⟩
  rw [hxx] at hx
  rw [h3 j x hx] at h
  cases h
  obtain ⟨i, hi, e⟩ := (h2 x).1 (List.mem_of_getElem? hx)
  have : (i : Int) ∈ idxs fs x k := chF_mem.2 ⟨i, hi, decide_eq_true e, rfl⟩
  exact List.length_pos_of_mem this
set_option maxRecDepth 100000 in
set_option maxHeartbeats 4000000 in
theorem rgrouped_any (At : Option Addr) (n c : Nat) (ls : List Hd) (ff : List (List Int)) (w : World) (ht : TermsAt w w.heap.size At n ls ff) (hn : n ≤ 60) :
    Calls Try.prog 124 #[.slice At n c] w fun e w' => ∃ A m c' hs', e = .returned (.slice A m c') ∧ GRow w' w.heap.size (.slice A m c') m hs' (grpS (fun k => ff.getD k []) n).2 ∧ Below w.heap.size w w' := by
  obtain ⟨i0, hi, hz0, hz1, hz2⟩ := info_parts info_int
  obtain ⟨i1, hj, hy0, hy1, hy2⟩ := info_parts info_ints5
  obtain ⟨fs, hfs⟩ : ∃ fs : Nat → List Int, (fun k => ff.getD k []) = fs := ⟨_, rfl⟩
  rw [hfs]
  have HT := Lib.hid ht
  have HFS := Lib.hid (fun (k : Nat) (t : List Int) (h : ff[k]? = some t) => show fs k = t from by rw [← hfs]; show ff.getD k [] = t; rw [List.getD_eq_getElem?_getD, h]; rfl)
  clear ht hfs
  go_enter Try.func124, Try.ntmps124
  go_wp2
  go_loopw [3, 4] (fun v i wr => ∃ (k : Nat) (Av : Option Addr) (cv : Nat) (hs : List Hd), k ≤ n ∧ i = .int .i64 k ∧ v = .slice Av (grpS fs k).2.length cv ∧ GRow wr w.heap.size (.slice Av (grpS fs k).2.length cv) (grpS fs k).2.length hs (grpS fs k).2 ∧ Below w.heap.size w wr) (fun _ i _ => n - (intOf i).toNat)
  case atStart => exact ⟨0, none, 0, [], Nat.zero_le _, rfl, rfl, GRow.start (World.ownsRow_nil _ _ _ _), Below.refl _ _⟩
  case round =>
    obtain ⟨k, Av, cv, hs, hk, rfl, rfl, hG, hB⟩ := hrel
    by_cases hlt : k < n
    · obtain ⟨b, off, Ak, nk, ck, rfl, hb, q1, q2⟩ := HT.out.hds.cellAt hlt
      obtain ⟨tk, tk1, _, hIk⟩ := HT.out.at q2
      have hfk := HFS.out k tk tk1
      have hk0 : (0 : Int) ≤ (k : Int) := by omega
      have hk1 : (k : Int) < (n : Int) := by omega
      obtain ⟨hlen1, hlen2⟩ := grpS_len fs k
      have HGI := Lib.hid (grp_is fs k).2
      have HND := Lib.hid (grp_is fs k).1
      have HEA := Lib.hid (grpS_each fs k)
      obtain ⟨M, hM⟩ : ∃ M, (grpS fs k).1 = M := ⟨_, rfl⟩
      obtain ⟨G, hGG⟩ : ∃ G, (grpS fs k).2 = G := ⟨_, rfl⟩
      rw [hM] at hlen1 HGI HND
      rw [hGG] at hlen1 hlen2 HGI HEA hG
      rw [hGG]
      obtain ⟨m, hm⟩ : ∃ m, G.length = m := ⟨_, rfl⟩
      rw [hm] at hG hlen1 hlen2
      rw [hm]
      obtain ⟨ix, hix⟩ : ∃ ix, M.idxOf tk = ix := ⟨_, rfl⟩
      have HGR := Lib.hid hG
      have HB := Lib.hid hB
      have HM := Lib.hid hM
      have HGG := Lib.hid hGG
      have HML := Lib.hid hm
      have HIX := Lib.hid hix
      have HFK := Lib.hid hfk
      have HIK := Lib.hid hIk
      have HL1 := Lib.hid hlen1
      have HQK := Lib.hid q1
      have hm60 : m ≤ 60 := by omega
      clear hG hB hM hGG hm hix hfk hIk tk1 q2 hlen1 q1
      go_wp2
      go_loopw [5, 6] (fun s jv wr => ∃ (j : Nat) (hs : List Hd), j ≤ m ∧ jv = .int .i64 j ∧ s = .bool (decide (ix < j)) ∧ GRow wr w.heap.size (.slice Av m cv) m hs (gTo G ix k j) ∧ Below w.heap.size w wr) (fun _ jv _ => m - (intOf jv).toNat)
      case atStart => exact ⟨0, hs, Nat.zero_le _, rfl, by simp, by rw [gTo_zero]; exact HGR.out, HB.out⟩
      case round =>
        obtain ⟨j, hs1, hj', rfl, rfl, hGj, hBj⟩ := hrel
        by_cases hltj : j < m
        · obtain ⟨x, g, hx, hg⟩ := hGj.hAt hltj
          obtain ⟨xa, xn, xc⟩ := x
          have hgG := hg
          rw [gTo_get] at hgG
          have hjM : j < M.length := by rw [HL1.out]; exact hltj
          obtain ⟨y, hy⟩ : ∃ y, M[j]? = some y := ⟨_, List.getElem?_eq_getElem hjM⟩
          have hgi := HGI.out.2 j y hy
          rw [hgG] at hgi
          have hgi' := Option.some.inj hgi
          obtain ⟨i', hi', e'⟩ := (HGI.out.1 y).1 (List.mem_of_getElem? hy)
          have hmem : (i' : Int) ∈ g := by rw [hgi']; exact chF_mem.2 ⟨i', hi', decide_eq_true e', rfl⟩
          obtain ⟨z, r, hzr⟩ : ∃ z r, g = z :: r := by
            cases h : g with
            | nil => rw [h] at hmem; cases hmem
            | cons z r => exact ⟨z, r, rfl⟩
          obtain ⟨ia, hia, hpa, rfl⟩ := chF_mem.1 (show z ∈ idxs fs y k by rw [← hgi', hzr]; simp)
          have hfa := of_decide_eq_true hpa
          have hrow := hGj.each j _ g hx hg
          obtain ⟨_, gi, ci, hvx, _, hgil, hcell⟩ := row_ints_at hrow (by rw [hzr]; simp)
          have hvx' : Value.slice xa xn xc = .slice (some ⟨gi, 0, none⟩) g.length ci := hvx
          have cgi := hcell 0 (by rw [hzr]; simp)
          simp only [hzr, List.getElem_cons_zero] at cgi
          obtain ⟨rfl, rfl, rfl⟩ := Value.slice.inj hvx'
          obtain ⟨gb, capg, hAv, _, hgbl⟩ := hGj.row.form (by omega)
          have hAv' := hAv
          cases hAv
          have cgb := (hGj.row.cellAt j (by omega)).trans (show (hs1.map Hd.val)[j]? = some (.slice (some ⟨gi, 0, none⟩) g.length xc) by rw [List.getElem?_map, hx]; rfl)
          obtain ⟨b', off', A0, n0, c0, hAt, hb', p1, p2⟩ := HT.out.hds.cellAt (show ia < n by omega)
          cases hAt
          obtain ⟨t0, t01, _, hI0⟩ := HT.out.at p2
          have hf0 := HFS.out ia t0 t01
          have r0 := (hBj.cell (p := ⟨b, off + ia, none⟩) hb).trans p1
          have rk := (hBj.cell (p := ⟨b, off + k, none⟩) hb).trans HQK.out
          have CS := Lib.hid (fun n => quiet_draw (same_any A0 Ak n0 c0 nk ck t0 tk (wr.drewN n) wr.heap.size ((hI0.up hBj).keep fun _ _ => rfl) ((HIK.out.up hBj).keep fun _ _ => rfl)))
          have hj0 : (0 : Int) ≤ (j : Int) := by omega
          have hjm : (j : Int) < (m : Int) := by omega
          have hia0 : (0 : Int) ≤ (ia : Int) := by omega
          have hian : (ia : Int) < (n : Int) := by omega
          have hgl0 : (0 : Int) < (g.length : Int) := by rw [hzr]; simp
          have hgk : g.length ≤ k := HEA.out j g hgG
          have HX := Lib.hid hx
          have HGJ := Lib.hid hg
          have HROW := Lib.hid hGj
          have HBJ := Lib.hid hBj
          have HGJG := Lib.hid hgG
          by_cases heq : t0 = tk
          · have hjx : j = ix := by
              rw [← HIX.out]
              have e1 : M[j]'hjM = tk := by
                have := List.getElem?_eq_getElem hjM
                rw [hy] at this
                rw [← Option.some.inj this, ← hfa, hf0, heq]
              have := HND.out.idxOf_getElem j hjM
              rw [e1] at this
              exact this.symm
            have HJX := Lib.hid hjx
            rw [decide_eq_true heq] at CS
            clear hgG hgi hgi' hmem hzr hia hpa hfa hrow hvx hvx' hcell hAv' t01 hI0 hf0 hx hg hGj hBj p1 p2 hy heq hjx e' hi'
            go_wp2_with fail
            go_quiet ((go_at_call 20; with_reducible exact CS.out _))
            obtain ⟨W5, hW5⟩ : ∃ W5, wr.drewN nq = W5 := ⟨_, rfl⟩
            rw [hW5]
            have hB55 : Below wr.heap.size wr W5 := by rw [← hW5]; exact below_drewN (Below.refl _ _) _
            have HG5 := Lib.hid (HROW.out.below hB55)
            have HB5 := Lib.hid (below_then HBJ.out hB55)
            have cgb5 : W5.cell? ⟨gb, j, none⟩ = some (.slice (some ⟨gi, 0, none⟩) g.length xc) := by rw [← hW5]; exact cgb
            have HR5 := Lib.hid (HG5.out.each j _ g HX.out HGJ.out)
            clear hW5 hB55
            go_wp2_with (first
              | (at_builtin
                 refine wpList_append_own_at _ rfl _ _ 24 rfl w.heap.size 3 i0 _ 1 8 Try.underlying24 hi hz0 hz1 hz2 rfl (by omega) _ _ _ rfl (HR5.out.alloc _) ⟨W5.heap.size, 0, none⟩ 1 1 [.int .i64 k] rfl rfl
                   (World.news_of_block (cs := #[.int .i64 k]) (t := 3) (fr := (0, 0)) (heap_alloc_new W5 _)) (by simp [Value.oneCell']) (by unfold maxLen; omega) (by omega) (by have := HB5.out.size; simp; omega) ?_
                 intro v1 w7 hown1 hg1 _ ho1
                 obtain ⟨g1, cap1, hv1, _⟩ := hown1.form (by omega)
                 subst hv1
                 have hGV := HG5.out.below (bel_al (Below.refl W5.heap.size W5) (.cells #[.int .i64 k] 3))
                 have hrow7 := hGV.row.kept hg1 (.inr (fun e => hGV.ne j _ HX.out gb e.symm rfl))
                 have c7 := (hrow7.cellAt j (by omega)).trans (show (hs1.map Hd.val)[j]? = some (.slice (some ⟨gi, 0, none⟩) g.length xc) by rw [List.getElem?_map, HX.out]; rfl)
                 have f7 := hrow7.frozenAt j
                 have HGR7 := Lib.hid (GRow.app (y := (some ⟨g1, 0, none⟩, g.length + 1, cap1)) (i := (k : Int)) hGV HX.out HGJ.out hown1 hg1 ho1)
                 have HB8 := Lib.hid (((HB5.out.alloc HB5.out.size (.cells #[.int .i64 k] 3)).grown hg1 (by have := HB5.out.size; simp; omega) (fun j e => (HR5.out.lt j e).1)).setCell (p := ⟨gb, j, none⟩) (show w.heap.size ≤ gb from (hGV.row.lt gb rfl).1) (.slice (some ⟨g1, 0, none⟩) (g.length + 1) cap1))
                 clear hown1 hg1 ho1 hGV hrow7))
            go_roundw
            case rel => exact ⟨j + 1, _, by omega, by go_num, by rw [decide_eq_true (by have := HJX.out; omega)], by
              have := HGR7.out
              rw [HJX.out, (gTo_hit G ix k).1] at this
              rw [HJX.out, (gTo_hit G ix k).2, List.getD_eq_getElem?_getD, ← HJX.out, HGJG.out]
              rw [← HJX.out] at this
              exact this, HB8.out⟩
            case measure => simp [intOf]; omega
          · have hjx : j ≠ ix := by
              intro e
              have e1 : M[ix]? = some tk := by
                have hlt' : M.idxOf tk < M.length := by rw [HIX.out, ← e]; exact hjM
                rw [← HIX.out, List.getElem?_eq_getElem hlt', List.getElem_idxOf]
              rw [← e, hy] at e1
              exact heq (by rw [← hf0, hfa]; exact Option.some.inj e1)
            have HJX := Lib.hid hjx
            rw [decide_eq_false heq] at CS
            have HD := Lib.hid (show decide (ix < j + 1) = decide (ix < j) by
              by_cases h : ix < j
              · rw [decide_eq_true h, decide_eq_true (by omega)]
              · rw [decide_eq_false h, decide_eq_false (by omega)])
            clear hgG hgi hgi' hmem hzr hia hpa hfa hrow hvx hvx' hcell hAv' t01 hI0 hf0 hx hg hGj hBj p1 p2 hy heq hjx e' hi'
            generalize decide (ix < j) = S0 at *
            go_wp2_with fail
            go_quiet ((go_at_call 20; with_reducible exact CS.out _))
            go_wp2
            go_roundw
            case rel => exact ⟨j + 1, hs1, by omega, by go_num, by rw [HD.out], by rw [gTo_miss HJX.out]; exact HROW.out.below (below_drewN (Below.refl _ _) _), below_drewN HBJ.out _⟩
            case measure => simp [intOf]; omega
        · obtain rfl : j = m := by omega
          have HROW := Lib.hid hGj
          have HBJ := Lib.hid hBj
          have HFK2 := Lib.hid (show fs k = tk from HFK.out)
          by_cases hin : ix < j
          · have hcon : M.contains tk = true := List.contains_iff_mem.2 (List.idxOf_lt_length_iff.1 (by rw [HIX.out, HL1.out]; exact hin))
            have HN := Lib.hid (show (grpS fs (k + 1)).2 = gTo G ix k j by
              have := grpS_old (fs := fs) (k := k) (by rw [HM.out, HFK2.out]; exact hcon)
              rw [this, HM.out, HGG.out, HFK2.out, HIX.out]
              unfold gTo
              rw [if_pos hin])
            have HNL := Lib.hid (show (grpS fs (k + 1)).2.length = j by rw [HN.out, gTo_len, HML.out])
            have hd : decide (ix < j) = true := decide_eq_true hin
            clear hGj hBj hcon
            go_wp2
            go_roundw
            case rel => exact ⟨k + 1, Av, cv, hs1, by omega, by go_num, by rw [HNL.out], by rw [HNL.out, HN.out]; exact HROW.out, HBJ.out⟩
            case measure => simp [intOf]; omega
          · have hcon : M.contains tk = false := by
              cases h : M.contains tk
              · rfl
              · have := List.idxOf_lt_length_iff.2 (List.contains_iff_mem.1 h)
                rw [HIX.out, HL1.out] at this
                exact absurd this hin
            have HN := Lib.hid (show (grpS fs (k + 1)).2 = G ++ [[(k : Int)]] by
              have := grpS_new (fs := fs) (k := k) (by rw [HM.out, HFK2.out]; exact hcon)
              rw [this, HGG.out])
            have HNL := Lib.hid (show (grpS fs (k + 1)).2.length = j + 1 by rw [HN.out, List.length_append, HML.out]; rfl)
            have hd : decide (ix < j) = false := decide_eq_false hin
            have hgt : gTo G ix k j = G := if_neg hin
            rw [hgt] at HROW
            obtain ⟨W1, hW1⟩ : ∃ W1, wr.alloc (.cells #[.int .i64 k] 3) = W1 := ⟨_, rfl⟩
            have hB1 : Below wr.heap.size wr W1 := by rw [← hW1]; exact bel_al (Below.refl _ wr) _
            have hs1' : W1.heap.size = wr.heap.size + 1 := by rw [← hW1]; simp
            have hin1 : W1.ownsRow w.heap.size 3 1 (.slice (some ⟨wr.heap.size, 0, none⟩) 1 1) 1 [.int .i64 k] := by
              rw [← hW1]
              exact World.ownsRow_lit (e := 3) (size := 1) wr #[.int .i64 k] 1 HBJ.out.size (by unfold maxLen; omega) rfl
            have HIN := Lib.hid hin1
            have HG1 := Lib.hid (HROW.out.below hB1)
            have HB1 := Lib.hid (below_then HBJ.out hB1)
            have HS1 := Lib.hid hs1'
            have HOL := Lib.hid (show ∀ (q : Nat) (y : Hd), hs1[q]? = some y → ∀ b, y.val.ownBlock = some b → b < wr.heap.size from fun q y hy b hb => by
              obtain ⟨g, hg⟩ := HROW.out.gAt hy
              exact ((HROW.out.each q y g hy hg).lt b hb).2)
            have HOV := Lib.hid (fun b hb => (HROW.out.row.lt b hb).2)
            have HW1 := Lib.hid hW1
            clear hGj hBj hcon hgt hB1 hs1' hin1 hW1
            go_wp2_with (first
              | (at_builtin
                 rw [HW1.out]
                 refine wpList_append_own_at _ rfl _ _ 57 rfl w.heap.size 24 i1 _ 1 24 Try.underlying57 hj hy0 hy1 hy2 rfl (by omega) _ _ _ rfl (HG1.out.row.alloc _) ⟨W1.heap.size, 0, none⟩ 1 1 [.slice (some ⟨wr.heap.size, 0, none⟩) 1 1] (by rw [HS1.out]; rfl) rfl
                   (World.news_of_block (cs := #[.slice (some ⟨wr.heap.size, 0, none⟩) 1 1]) (t := 24) (fr := (0, 0)) (heap_alloc_new W1 _)) (by simp [Value.oneCell']) (by unfold maxLen; omega) (by omega) (by have := HB1.out.size; simp; omega) ?_
                 intro v6 W6 hown6 hg6 _ ho6
                 have hG2 := HG1.out.below (bel_al (Below.refl W1.heap.size W1) (.cells #[.slice (some ⟨wr.heap.size, 0, none⟩) 1 1] 24))
                 have hx6 : W6.ownsRow w.heap.size 3 1 (Hd.val (some ⟨wr.heap.size, 0, none⟩, 1, 1)) ([(k : Int)] : List Int).length (([(k : Int)] : List Int).map (Value.int .i64)) := (HIN.out.alloc _).kept hg6 (.inr (fun e => by
                   have := HOV.out wr.heap.size e.symm
                   omega))
                 have HG6 := Lib.hid (GRow.pushx (x := (some ⟨wr.heap.size, 0, none⟩, 1, 1)) (g := [(k : Int)]) hG2 hx6 (fun b hb => by
                   have hbw : wr.heap.size = b := Option.some.inj hb
                   subst hbw
                   refine ⟨fun e => ?_, fun q y hy e => ?_⟩
                   · rcases ho6 with h | h
                     · rw [h] at e
                       have := HOV.out _ e
                       omega
                     · rw [h] at e
                       have := Option.some.inj e
                       have := HS1.out
                       simp at *
                       omega
                   · have := HOL.out q y hy _ e
                     omega) hown6 hg6 ho6)
                 have HB8 := Lib.hid ((HB1.out.alloc HB1.out.size (.cells #[.slice (some ⟨wr.heap.size, 0, none⟩) 1 1] 24)).grown hg6 (by have := HB1.out.size; simp; omega) (fun j e => (HG1.out.row.lt j e).1))
                 obtain ⟨g6, cap6, hv6, _⟩ := hown6.form (by omega)
                 subst hv6
                 clear hown6 hg6 ho6 hG2 hx6))
            go_roundw
            case rel => exact ⟨k + 1, some ⟨g6, 0, none⟩, cap6, _, by omega, by go_num, by rw [HNL.out], by rw [HNL.out, HN.out]; exact HG6.out, HB8.out⟩
            case measure => simp [intOf]; omega
    · obtain rfl : k = n := by omega
      have HG := Lib.hid hG
      have HB := Lib.hid hB
      clear hG hB
      obtain ⟨m, hm⟩ : ∃ m, (grpS fs k).2.length = m := ⟨_, rfl⟩
      rw [hm] at HG
      rw [hm]
      clear hm
      go_wp2
      go_ret
      exact ⟨Av, m, cv, hs, rfl, HG.out, HB.out⟩

end Go.Proofs.Ytcegbmibpkopaaa

namespace Go.Proofs.Ytcegbmibpkopaaa
open Go.RowKit

/-- Lists of numbers that can be read, and an error, are returned. -/
def RetGT (w : World) (gr : List (List Int) × Int) (e : Ending) (w' : World) : Prop :=
  ∃ A m c ls, e = .returned (.tuple #[.slice A m c, .int .i64 gr.2]) ∧ TermsAt w' w'.heap.size A m ls gr.1 ∧ Below w.heap.size w w'
theorem termsNil (w : World) (B : Nat) : TermsAt w B none 0 [] [] := ⟨⟨rfl, by omega, fun h => absurd h (by omega)⟩, rfl, fun j hj => by simp at hj⟩
theorem grp_map (tt : List (List Int)) (F : List Int → List Int) : (grpS (fun k => (tt.map F).getD k []) tt.length) = grpS (fun k => F (tt.getD k [])) tt.length :=
  grpS_congr fun i hi => by
    simp only [List.getD_eq_getElem?_getD, List.getElem?_map, List.getElem?_eq_getElem hi]
    rfl

set_option maxRecDepth 100000 in
set_option maxHeartbeats 1000000 in
theorem rGroups_any (As At : Option Addr) (ns cs n c : Nat) (ss : Sg) (ls : List Hd) (tt : List (List Int)) (w : World) (hs : SigAt w w.heap.size As ns ss) (ht : TermsAt w w.heap.size At n ls tt) (hn : n ≤ 1000000) :
    Calls Try.prog 70 #[.slice As ns cs, .slice At n c] w (RetGT w (grpZ ss tt canon)) := by
  have C1 := Lib.hid (refValid5_any As At ns cs n c ss ls tt w _ hs ht hn)
  have hlt := ht.len
  cases hv : shOk ss tt
  · have H : Hid (grpZ ss tt canon = ([], 1)) := Lib.hid (by unfold grpZ; rw [hv]; simp)
    rw [H.out]
    rw [hv] at C1
    clear hs ht hn hlt hv
    go_enter Try.func70, Try.ntmps70
    go_wp2_with (go_at_call 59; refine C1.out.mono ?_; rintro e w1 ⟨rfl, k1, rfl⟩)
    go_ret2
    exact ⟨none, 0, 0, [], rfl, termsNil _ _, below_drewN (Below.refl _ _) _⟩
  · have hsl := shOk_len hv
    have H : Hid (grpZ ss tt canon = ((grpS (fun k => (tt.map canon).getD k []) n).2, 0)) := Lib.hid (by unfold grpZ; rw [hv, hlt, grp_map]; rfl)
    rw [H.out]
    rw [hv] at C1
    have C2 := Lib.hid (fun V (h : Below w.heap.size w V) => canon5_any At n c ss ls tt V (ht.up h) hv)
    have C3 := Lib.hid (fun (V : World) (A : Option Addr) (c' : Nat) (lh : List Hd) (hT : TermsAt V V.heap.size A n lh (tt.map canon)) => rgrouped_any A n c' lh (tt.map canon) V hT (by omega))
    have HE := Lib.hid (grpS_each (fun k => (tt.map canon).getD k []) n)
    have HL := Lib.hid (grpS_len (fun k => (tt.map canon).getD k []) n).2
    have hn60 : n ≤ 60 := by omega
    generalize (grpS (fun k => (tt.map canon).getD k []) n).2 = G at *
    clear hs ht hn hlt hv hsl
    go_enter Try.func70, Try.ntmps70
    go_wp2_with (first
      | (go_at_call 59; refine C1.out.mono ?_; rintro e w1 ⟨rfl, k1, hw1⟩; have HB1 := Lib.hid (show Below w.heap.size w w1 from by rw [hw1]; exact below_drewN (Below.refl _ _) _); clear hw1)
      | (go_at_call 125; refine (C2.out _ HB1.out).mono ?_; rintro e w2 ⟨A2, c2, l2, rfl, hT2, hB2⟩; have HT2 := Lib.hid hT2; have HB2 := Lib.hid (below_then HB1.out hB2); clear hT2 hB2)
      | (go_at_call 124; refine (C3.out _ _ _ _ HT2.out).mono ?_; rintro e w3 ⟨A3, m3, c3, l3, rfl, hG3, hB3⟩; have HG3 := Lib.hid hG3; have HB3 := Lib.hid (below_then HB2.out hB3); clear hG3 hB3))
    go_ret2
    exact ⟨A3, m3, c3, l3, rfl, HG3.out.reads (by have := HG3.out.len; have := HL.out; omega) (fun j g hg => by have := HE.out j g hg; omega), HB3.out⟩

set_option maxRecDepth 100000 in
set_option maxHeartbeats 2000000 in
theorem rShapes_any (As At : Option Addr) (ns cs n c : Nat) (ss : Sg) (ls : List Hd) (tt : List (List Int)) (w : World) (hs : SigAt w w.heap.size As ns ss) (ht : TermsAt w w.heap.size At n ls tt) (hn : n ≤ 1000000) :
    Calls Try.prog 73 #[.slice As ns cs, .slice At n c] w (RetGT w (grpZ ss tt flat)) := by
  have C1 := Lib.hid (refValid5_any As At ns cs n c ss ls tt w _ hs ht hn)
  have hlt := ht.len
  cases hv : shOk ss tt
  · have H : Hid (grpZ ss tt flat = ([], 1)) := Lib.hid (by unfold grpZ; rw [hv]; simp)
    rw [H.out]
    rw [hv] at C1
    clear hs ht hn hlt hv
    go_enter Try.func73, Try.ntmps73
    go_wp2_with (go_at_call 59; refine C1.out.mono ?_; rintro e w1 ⟨rfl, k1, rfl⟩)
    go_ret2
    exact ⟨none, 0, 0, [], rfl, termsNil _ _, below_drewN (Below.refl _ _) _⟩
  · obtain ⟨i1, hi1, hy0, hy1, hy2⟩ := info_parts info_term
    have hsl := shOk_len hv
    have H : Hid (grpZ ss tt flat = ((grpS (fun k => (tt.map flat).getD k []) n).2, 0)) := Lib.hid (by unfold grpZ; rw [hv, hlt, grp_map]; rfl)
    rw [H.out]
    rw [hv] at C1
    have C3 := Lib.hid (fun (V : World) (A : Option Addr) (c' : Nat) (lh : List Hd) (hT : TermsAt V V.heap.size A n lh (tt.map flat)) => rgrouped_any A n c' lh (tt.map flat) V hT (by omega))
    have HE := Lib.hid (grpS_each (fun k => (tt.map flat).getD k []) n)
    have HL := Lib.hid (grpS_len (fun k => (tt.map flat).getD k []) n).2
    have hn60 : n ≤ 60 := by omega
    generalize (grpS (fun k => (tt.map flat).getD k []) n).2 = G at *
    have HT := Lib.hid ht
    have HTL := Lib.hid hlt
    have CR := Lib.hid (fun (V : World) (k : Nat) (A' : Option Addr) (n' c' : Nat) (t : List Int) (hV : Below w.heap.size w V) (hI : IntsAt w w.heap.size A' n' t) (hk : tt[k]? = some t) =>
      show Calls Try.prog 88 #[.slice A' n' c'] V fun e w' => ∃ A5 c5, e = .returned (.slice A5 n' c5) ∧ IntsAt w' w'.heap.size A5 n' (flat t) ∧ Below V.heap.size V w' ∧ ∃ b, A5 = some ⟨b, 0, none⟩ ∧ V.heap.size ≤ b from by
        obtain ⟨a1, a60, _, _⟩ := valOk_term (shOk_each hv hk)
        have := hI.len
        exact flat_f A' n' c' t V ((hI.below hV).more hV.size) (by omega) (by omega))
    clear hs ht hn hlt hv hsl
    go_enter Try.func73, Try.ntmps73
    go_wp2_with (go_at_call 59; refine C1.out.mono ?_; rintro e w1 ⟨rfl, k1, hw1⟩; have HB1 := Lib.hid (show Below w.heap.size w w1 from by rw [hw1]; exact below_drewN (Below.refl _ _) _); clear hw1)
    go_loopw [6, 7] (fun v i wr => ∃ (k : Nat) (Av : Option Addr) (cv : Nat) (lh : List Hd), k ≤ n ∧ i = .int .i64 k ∧ v = .slice Av k cv ∧ RowsAt 25 wr w.heap.size (.slice Av k cv) k lh ((tt.map flat).take k) ∧ Below w.heap.size w wr) (fun _ i _ => n - (intOf i).toNat)
    case atStart => exact ⟨0, none, 0, [], Nat.zero_le _, rfl, rfl, RowsAt.nil _ _ _, HB1.out⟩
    case round =>
      obtain ⟨k, Av, cv, lh, hk, rfl, rfl, hR, hB⟩ := hrel
      by_cases hlt : k < n
      · obtain ⟨b, off, A', n', c', rfl, hb, q1, q2⟩ := HT.out.hds.cellAt hlt
        obtain ⟨t, t1, _, hI⟩ := HT.out.at q2
        have q3 := (hB.cell (p := ⟨b, off + k, none⟩) hb).trans q1
        have CC := Lib.hid (CR.out wr k A' n' c' t hB hI t1)
        have HTK := Lib.hid (show (tt.map flat).take (k + 1) = (tt.map flat).take k ++ [flat t] by
          have hkl : k < (tt.map flat).length := by rw [List.length_map]; have := HTL.out; omega
          rw [List.take_succ_eq_append_getElem hkl]
          congr 2
          refine Option.some.inj ((List.getElem?_eq_getElem hkl).symm.trans ?_)
          rw [List.getElem?_map, t1]; rfl)
        have hk0 : (0 : Int) ≤ (k : Int) := by omega
        have hk1 : (k : Int) < (n : Int) := by omega
        have HR := Lib.hid hR
        have HB := Lib.hid hB
        clear hR hB q1 q2 hI t1
        go_wp2_with (first
          | (go_at_call 88; refine CC.out.mono ?_; rintro e w5 ⟨A5, c5, rfl, hI5, hB5, b5, hA5, hb5⟩; have HR5 := Lib.hid (HR.out.below hB5); have HI5 := Lib.hid (ints_fresh (go := Value.ownBlock (.slice Av k cv)) hI5 hA5 hb5 (fun j e => (HR.out.row.lt j e).2)); have HB5 := Lib.hid (below_then HB.out hB5); clear hI5 hB5 hA5 hb5)
          | (at_builtin
             refine wpList_append_own_at _ rfl _ _ 49 rfl w.heap.size 25 i1 _ 1 24 Try.underlying49 hi1 hy0 hy1 hy2 rfl (by omega) _ _ _ rfl (HR5.out.row.alloc _) ⟨w5.heap.size, 0, none⟩ 1 1 [.slice A5 n' c5] rfl rfl
               (World.news_of_block (cs := #[.slice A5 n' c5]) (t := 25) (fr := (0, 0)) (heap_alloc_new w5 _)) (by simp [Value.oneCell']) (by unfold maxLen; omega) (by omega) (by have := HB5.out.size; simp; omega) ?_
             intro v1 w6 hown1 hg1 _ ho1
             have HR6 := Lib.hid (RowsAt.push (x := (A5, n', c5)) (HR5.out.below (bel_al (Below.refl w5.heap.size w5) (.cells #[.slice A5 n' c5] 25))) (HI5.out.below (bel_al (Below.refl w5.heap.size w5) (.cells #[.slice A5 n' c5] 25))) hown1 hg1 ho1)
             have HB6 := Lib.hid ((HB5.out.alloc HB5.out.size _).grown hg1 (by have := HB5.out.size; simp; omega) (fun j e => (HR5.out.row.lt j e).1))
             obtain ⟨g1, cap1, hv1, _⟩ := hown1.form (by omega)
             subst hv1
             clear hown1 hg1 ho1))
        go_roundw
        case rel => exact ⟨k + 1, some ⟨g1, 0, none⟩, cap1, _, by omega, by go_num, rfl, by rw [HTK.out]; exact HR6.out, HB6.out⟩
        case measure => simp [intOf]; omega
      · obtain rfl : k = n := by omega
        obtain ⟨A9, c9, e9, hT9⟩ := hR.terms (by omega)
        rw [List.take_of_length_le (by rw [List.length_map, ← HTL.out]; exact Nat.le_refl _)] at hT9
        obtain ⟨rfl, _, rfl⟩ := Value.slice.inj e9
        have HT9 := Lib.hid hT9
        have HB := Lib.hid hB
        clear hR hB hT9 e9
        go_wp2_with (go_at_call 124; refine (C3.out _ _ _ _ HT9.out).mono ?_; rintro e w3 ⟨A3, m3, c3, l3, rfl, hG3, hB3⟩; have HG3 := Lib.hid hG3; have HB3 := Lib.hid (below_then HB.out hB3); clear hG3 hB3)
        go_ret2
        exact ⟨A3, m3, c3, l3, rfl, HG3.out.reads (by have := HG3.out.len; have := HL.out; omega) (fun j g hg => by have := HE.out j g hg; omega), HB3.out⟩

/-- The first k terms, each put where it belongs. -/
def withT (ff : List (List Int)) (k : Nat) : List (List Int) := (ff.take k).foldl (fun l t => withL t l) []
theorem withT_succ {ff : List (List Int)} {k : Nat} {t : List Int} (h : ff[k]? = some t) : withT ff (k + 1) = withL t (withT ff k) := by
  obtain ⟨hk, rfl⟩ := List.getElem?_eq_some_iff.1 h
  unfold withT
  rw [List.take_succ_eq_append_getElem hk, List.foldl_append]
  rfl
theorem withT_len (ff : List (List Int)) : ∀ k, k ≤ ff.length → (withT ff k).length ≤ k
  | 0, _ => Nat.le_refl _
  | k + 1, h => by
    rw [withT_succ (List.getElem?_eq_getElem (show k < ff.length by omega))]
    have := withL_len (t := ff[k]) (withT ff k)
    have := withT_len ff k (by omega)
    omega
theorem withT_mem (ff : List (List Int)) (z : List Int) : ∀ k, k ≤ ff.length → (z ∈ withT ff k ↔ ∃ i, i < k ∧ ff[i]? = some z)
  | 0, _ => by simp [withT]
  | k + 1, h => by
    rw [withT_succ (List.getElem?_eq_getElem (show k < ff.length by omega)), withL_mem, withT_mem ff z k (by omega)]
    constructor
    · rintro (rfl | ⟨i, hi, e⟩)
      · exact ⟨k, by omega, List.getElem?_eq_getElem _⟩
      · exact ⟨i, by omega, e⟩
    · rintro ⟨i, hi, e⟩
      by_cases hik : i = k
      · subst hik
        rw [List.getElem?_eq_getElem (by omega)] at e
        exact .inl (Option.some.inj e).symm
      · exact .inr ⟨i, by omega, e⟩
theorem withT_ord (ff : List (List Int)) : ∀ k, k ≤ ff.length → InOrd (withT ff k)
  | 0, _ => by simp [withT, InOrd]
  | k + 1, h => by
    rw [withT_succ (List.getElem?_eq_getElem (show k < ff.length by omega))]
    exact withL_ord (withT_ord ff k (by omega))

set_option maxRecDepth 100000 in
set_option maxHeartbeats 2000000 in
theorem rSorted_any (As At : Option Addr) (ns cs n c : Nat) (ss : Sg) (ls : List Hd) (tt : List (List Int)) (w : World) (hs : SigAt w w.heap.size As ns ss) (ht : TermsAt w w.heap.size At n ls tt) (hn : n ≤ 1000000) :
    Calls Try.prog 75 #[.slice As ns cs, .slice At n c] w (RetGT w (if shOk ss tt = true then (withT (tt.map canon) n, 0) else ([], 1))) := by
  have C1 := Lib.hid (refValid5_any As At ns cs n c ss ls tt w _ hs ht hn)
  have hlt := ht.len
  cases hv : shOk ss tt
  · rw [if_neg (by simp)]
    rw [hv] at C1
    clear hs ht hn hlt hv
    go_enter Try.func75, Try.ntmps75
    go_wp2_with (go_at_call 59; refine C1.out.mono ?_; rintro e w1 ⟨rfl, k1, rfl⟩)
    go_ret2
    exact ⟨none, 0, 0, [], rfl, termsNil _ _, below_drewN (Below.refl _ _) _⟩
  · have hsl := shOk_len hv
    rw [if_pos rfl]
    rw [hv] at C1
    have C2 := Lib.hid (fun V (h : Below w.heap.size w V) => canon5_any At n c ss ls tt V (ht.up h) hv)
    have hn60 : n ≤ 60 := by omega
    have HTL := Lib.hid (show (tt.map canon).length = n by rw [List.length_map]; exact hlt.symm)
    obtain ⟨ff, hff⟩ : ∃ ff, tt.map canon = ff := ⟨_, rfl⟩
    rw [hff] at C2 HTL
    rw [hff]
    clear hs ht hn hlt hv hsl hff
    go_enter Try.func75, Try.ntmps75
    go_wp2_with (first
      | (go_at_call 59; refine C1.out.mono ?_; rintro e w1 ⟨rfl, k1, hw1⟩; have HB1 := Lib.hid (show Below w.heap.size w w1 from by rw [hw1]; exact below_drewN (Below.refl _ _) _); clear hw1)
      | (go_at_call 125; refine (C2.out _ HB1.out).mono ?_; rintro e w2 ⟨A2, c2, l2, rfl, hT2, hB2⟩; have HT2 := Lib.hid hT2; have HB2 := Lib.hid (below_then HB1.out hB2); clear hT2 hB2))
    go_loopw [7, 8] (fun v i wr => ∃ (k : Nat) (Av : Option Addr) (mv cv : Nat) (lh : List Hd), k ≤ n ∧ i = .int .i64 k ∧ v = .slice Av mv cv ∧ TermsAt wr wr.heap.size Av mv lh (withT ff k) ∧ Below w2.heap.size w2 wr) (fun _ i _ => n - (intOf i).toNat)
    case atStart => exact ⟨0, none, 0, 0, [], Nat.zero_le _, rfl, rfl, termsNil _ _, Below.refl _ _⟩
    case round =>
      obtain ⟨k, Av, mv, cv, lh, hk, rfl, rfl, hR, hB⟩ := hrel
      by_cases hlt : k < n
      · obtain ⟨b, off, A', n', c', rfl, hb, q1, q2⟩ := HT2.out.hds.cellAt hlt
        obtain ⟨t, t1, _, hI⟩ := HT2.out.at q2
        have q3 := (hB.cell (p := ⟨b, off + k, none⟩) hb).trans q1
        have hmv := hR.len
        have hwl := withT_len ff k (by have := HTL.out; omega)
        have CW := Lib.hid (with_any Av A' mv cv n' c' lh (withT ff k) t wr hR (hI.up hB) (by omega))
        have HWS := Lib.hid (withT_succ t1)
        have hk0 : (0 : Int) ≤ (k : Int) := by omega
        have hk1 : (k : Int) < (n : Int) := by omega
        have HB := Lib.hid hB
        clear hR hB q1 q2 hI t1 hmv hwl
        go_wp2_with (go_at_call 129; refine CW.out.mono ?_; rintro e w5 ⟨A5, m5, d5, l5, rfl, hT5, hB5⟩; have HT5 := Lib.hid hT5; have HB5 := Lib.hid (below_then HB.out hB5); clear hT5 hB5)
        go_roundw
        case rel => exact ⟨k + 1, A5, m5, d5, l5, by omega, by go_num, rfl, by rw [HWS.out]; exact HT5.out, HB5.out⟩
        case measure => simp [intOf]; omega
      · obtain rfl : k = n := by omega
        have HR := Lib.hid hR
        have HB := Lib.hid hB
        clear hR hB
        go_wp2
        go_ret2
        exact ⟨Av, mv, cv, lh, rfl, HR.out, below_then HB2.out HB.out⟩

end Go.Proofs.Ytcegbmibpkopaaa
