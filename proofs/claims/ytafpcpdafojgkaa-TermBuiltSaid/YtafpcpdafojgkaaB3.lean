/- Contracts: the reference's AllValid, Built. -/
import Derived.Test.YtafpcpdafojgkaaB1
import Derived.Laws.OwnMore
namespace Go.Proofs.Ytafpcpdafojgkaa
open Go.RowKit

theorem valOk_of {ss : Sg} (h : sigOk ss = true) (t : List Int) : valOk ss t = termOk ss t := by simp [valOk, h]

set_option maxRecDepth 100000 in
set_option maxHeartbeats 1000000 in
theorem allValid_any (As At : Option Addr) (ns cs n c : Nat) (ss : Sg) (ls : List Hd) (tt : List (List Int)) (w : World) (B : Nat) (hs : SigAt w B As ns ss) (ht : TermsAt w B At n ls tt) (hn : n ≤ 1000000) (hv : sigOk ss = true) :
    Calls Try.prog 72 #[.slice As ns cs, .slice At n c] w fun e w' => e = .returned (.bool (tt.all (termOk ss))) ∧ ∃ k, w' = w.drewN k := by
  have HT := Lib.hid ht
  have HLT := Lib.hid ht.len
  have HVO := Lib.hid (valOk_of hv)
  have CV := Lib.hid (fun (m : Nat) A' n' c' t (hI : IntsAt w B A' n' t) => refValid_any As A' ns cs n' c' ss t (w.drewN m) B (hs.keep fun _ _ => rfl) (hI.keep fun _ _ => rfl))
  obtain ⟨R, hR⟩ : ∃ R, tt.all (termOk ss) = R := ⟨_, rfl⟩
  rw [hR]
  have HR := Lib.hid hR
  clear ht hs hv hR
  go_enter Try.func72, Try.ntmps72
  go_wp2
  go_loopw [5] (fun i wr => ∃ k : Nat, k ≤ n ∧ i = .int .i64 k ∧ okTo ss tt k ∧ ∃ m, wr = w.drewN m) (fun i _ => n - (intOf i).toNat)
  case atStart => exact ⟨0, Nat.zero_le _, rfl, okTo_zero _ _, 0, rfl⟩
  case round =>
    obtain ⟨k, hk, rfl, hok, m, rfl⟩ := hrel
    by_cases hlt : k < n
    · obtain ⟨b, off, A', n', c', t, rfl, hb, q1, q2, hI⟩ := HT.out.cellAt hlt
      have hk0 : (0 : Int) ≤ (k : Int) := by omega
      have hk1 : (k : Int) < (n : Int) := by omega
      have C := Lib.hid (fun c'' => CV.out m A' n' c'' t hI)
      rw [HVO.out] at C
      cases hto : termOk ss t
      · have H := Lib.hid (show R = false by rw [← HR.out]; exact all_bad q2 hto)
        rw [hto] at C
        clear q2 hI hto hok
        go_wp2_with (go_at_call 19; refine (C.out _).mono ?_; rintro e w3 ⟨rfl, j3, rfl⟩)
        go_ret
        exact ⟨ret_b H.out.symm, _, rfl⟩
      · have H := Lib.hid (okTo_succ hok q2 hto)
        rw [hto] at C
        clear q2 hI hto hok
        go_wp2_with (go_at_call 19; refine (C.out _).mono ?_; rintro e w3 ⟨rfl, j3, rfl⟩)
        go_roundw
        case rel => exact ⟨k + 1, by omega, by go_num, H.out, _, rfl⟩
        case measure => simp [intOf]; omega
    · obtain rfl : k = n := by omega
      have H := Lib.hid (show R = true by rw [← HR.out]; exact okTo_all hok (by rw [← HLT.out]; exact Nat.le_refl _))
      clear hok
      go_wp2
      go_ret
      exact ⟨ret_b H.out.symm, _, rfl⟩

set_option maxHeartbeats 400000 in
theorem refBuilt_sig (As At : Option Addr) (ns cs n c : Nat) (sy : Int) (ss : Sg) (tt : List (List Int)) (w : World) (hs : SigAt w w.heap.size As ns ss) (hv : sigOk ss = false) :
    Calls Try.prog 32 #[.slice As ns cs, .int .i64 sy, .slice At n c] w (RetT w (builtR ss sy tt).1 (builtR ss sy tt).2) := by
  have C := Lib.hid (refSign_any As ns cs ss w _ hs)
  rw [builtR_bad (by simp [hv])]
  rw [hv] at C
  clear hv hs
  go_enter Try.func32, Try.ntmps32
  go_wp2_with (go_at_call 17; refine C.out.mono ?_; rintro e w1 ⟨rfl, j1, rfl⟩)
  go_ret2
  exact ⟨none, 0, 0, rfl, IntsAt.nil _ _ 0, below_drewN (Below.refl _ _) _⟩

set_option maxHeartbeats 400000 in
theorem refBuilt_bad (As At : Option Addr) (ns cs n c : Nat) (sy : Int) (ss : Sg) (ls : List Hd) (tt : List (List Int)) (w : World) (hs : SigAt w w.heap.size As ns ss) (ht : TermsAt w w.heap.size At n ls tt) (hn : n ≤ 1000000) (hv : sigOk ss = true) (ha : tt.all (termOk ss) = false) :
    Calls Try.prog 32 #[.slice As ns cs, .int .i64 sy, .slice At n c] w (RetT w (builtR ss sy tt).1 (builtR ss sy tt).2) := by
  have C := Lib.hid (refSign_any As ns cs ss w _ hs)
  have D := Lib.hid (fun m => allValid_any As At ns cs n c ss ls tt (w.drewN m) w.heap.size (hs.keep fun _ _ => rfl) (ht.keep fun _ _ => rfl) hn hv)
  rw [builtR_bad (by simp [ha])]
  rw [hv] at C
  rw [ha] at D
  clear hv hs ht ha
  go_enter Try.func32, Try.ntmps32
  go_wp2_with (first
    | (go_at_call 17; refine C.out.mono ?_; rintro e w1 ⟨rfl, j1, rfl⟩)
    | (go_at_call 72; refine (D.out _).mono ?_; rintro e w2 ⟨rfl, j2, rfl⟩))
  go_ret2
  exact ⟨none, 0, 0, rfl, IntsAt.nil _ _ 0, below_drewN (Below.refl _ _) _⟩

set_option maxRecDepth 100000 in
set_option maxHeartbeats 2000000 in
theorem refBuilt_any (As At : Option Addr) (ns cs n c : Nat) (sy : Int) (ss : Sg) (ls : List Hd) (tt : List (List Int)) (w : World) (hs : SigAt w w.heap.size As ns ss) (ht : TermsAt w w.heap.size At n ls tt) (hn : n ≤ 1000000) :
    Calls Try.prog 32 #[.slice As ns cs, .int .i64 sy, .slice At n c] w (RetT w (builtR ss sy tt).1 (builtR ss sy tt).2) := by
  cases hv : sigOk ss
  · exact refBuilt_sig As At ns cs n c sy ss tt w hs hv
  cases hal : tt.all (termOk ss)
  · exact refBuilt_bad As At ns cs n c sy ss ls tt w hs ht hn hv hal
  obtain ⟨i0, hi, hz0, hz1, hz2⟩ := info_parts info_int
  have C := Lib.hid (refSign_any As ns cs ss w _ hs)
  have D := Lib.hid (fun m => allValid_any As At ns cs n c ss ls tt (w.drewN m) w.heap.size (hs.keep fun _ _ => rfl) (ht.keep fun _ _ => rfl) hn hv)
  rw [hv] at C
  rw [hal] at D
  have hsl := sigOk_len hv
  have har := sigOk_ar hv
  have hls := hs.len
  have hlt := ht.len
  obtain ⟨bs, offs, rfl, hbs, hsg⟩ := hs.mem (by omega)
  rw [← hls] at hsl
  obtain ⟨R, hR⟩ : ∃ R, builtR ss sy tt = R := ⟨_, rfl⟩
  rw [hR]
  have HNAME := Lib.hid (fun (h2 : sy < 0 ∨ (ns : Int) ≤ sy) => show R = ([], 5) by rw [← hR]; exact builtR_name (by simp [hal, hv]) (by omega))
  have HSIZE := Lib.hid (fun (h2 : ¬ (sy < 0 ∨ (ns : Int) ≤ sy)) (h3 : n ≠ arOf ss sy) => show R = ([], 9) by rw [← hR]; exact builtR_size (by simp [hal, hv]) (by omega) (by omega))
  have HLIMIT := Lib.hid (fun (h2 : ¬ (sy < 0 ∨ (ns : Int) ≤ sy)) (h3 : n = arOf ss sy) (h4 : 60 < (catTo sy tt n).length) => show R = ([], 4) by
    rw [← hR]; rw [catTo_all (by omega)] at h4; exact builtR_limit (by simp [hal, hv]) (by omega) (by omega) h4)
  have HGOOD := Lib.hid (fun (h2 : ¬ (sy < 0 ∨ (ns : Int) ≤ sy)) (h3 : n = arOf ss sy) (h4 : ¬ 60 < (catTo sy tt n).length) => show R = (catTo sy tt n, 0) by
    rw [← hR]; rw [catTo_all (by omega)] at h4 ⊢; exact builtR_good (by simp [hal, hv]) (by omega) (by omega) h4)
  have HT := Lib.hid ht
  have HSG := Lib.hid hsg
  have HAR := Lib.hid har
  have HLT := Lib.hid hlt
  have HLS := Lib.hid hls
  have HCL := Lib.hid (fun k => catTo_le (sy := sy) hal k)
  have HALL := Lib.hid hal
  have HBD : Hid (∀ k, Below w.heap.size w (w.drewN k)) := fun k => below_drewN (Below.refl _ _) k
  clear hv hs ht hlt hls hsg har hR hal
  by_cases h1 : sy < 0 ∨ (ns : Int) ≤ sy
  · have H := Lib.hid (HNAME.out h1)
    have HW := Lib.hid (witB_false (n := sy) (lo := 0) (hi := (ns : Int) - 1) (by omega))
    go_enter Try.func32, Try.ntmps32
    go_wp2_with (first
      | (go_at_call 17; refine C.out.mono ?_; rintro e w1 ⟨rfl, j1, rfl⟩)
      | (go_at_call 72; refine (D.out _).mono ?_; rintro e w2 ⟨rfl, j2, rfl⟩)
      | (go_at_call 60; refine (within_any _ _ _ _).mono ?_; rintro e w3 ⟨rfl, rfl⟩; rw [HW.out]))
    go_ret2
    rw [H.out]
    exact ⟨none, 0, 0, rfl, IntsAt.nil _ _ 0, HBD.out _⟩
  · have HOR := Lib.hid h1
    obtain ⟨q, rfl⟩ : ∃ q : Nat, sy = (q : Int) := ⟨sy.toNat, by omega⟩
    have HW := Lib.hid (witB_true (n := (q : Int)) (lo := 0) (hi := (ns : Int) - 1) (by omega) (by omega))
    have hq : q < ss.length := by rw [← HLS.out]; omega
    have hcr0 := HSG.out.ar q hq
    have har0 := HAR.out _ (List.getElem_mem hq)
    have har1 := arOf_at hq
    obtain ⟨r, hr⟩ : ∃ r : Nat, ss[q].2 = (r : Int) := ⟨ss[q].2.toNat, by omega⟩
    rw [hr] at hcr0 har0 har1
    rw [Int.toNat_natCast] at har1
    have hcr : ∀ m, (w.drewN m).cell? ⟨bs, offs + q * 2 + 1, none⟩ = some (.int .i64 (r : Int)) := fun m => hcr0
    have hq0 : (0 : Int) ≤ (q : Int) := by omega
    have hq1 : (q : Int) < (ns : Int) := by omega
    clear hr h1 hcr0
    by_cases h3 : n = r
    · subst h3
      have HL := Lib.hid (HLIMIT.out HOR.out har1.symm)
      have HG := Lib.hid (HGOOD.out HOR.out har1.symm)
      have hk3 : n ≤ 3 := by omega
      have hbn : ((n : Int) != (n : Int)) = false := by simp
      clear har1 har0
      go_enter Try.func32, Try.ntmps32
      go_wp2_with (first
        | (go_at_call 17; refine C.out.mono ?_; rintro e w1 ⟨rfl, j1, rfl⟩)
        | (go_at_call 72; refine (D.out _).mono ?_; rintro e w2 ⟨rfl, j2, rfl⟩)
        | (go_at_call 60; refine (within_any _ _ _ _).mono ?_; rintro e w3 ⟨rfl, rfl⟩; rw [HW.out]))
      have HB2 := Lib.hid (HBD.out (j1 + j2))
      go_loopw [8, 9] (fun v i w2 => ∃ (j : Nat) (Av : Option Addr) (cv : Nat), j ≤ n ∧ i = .int .i64 j ∧ v = .slice Av (catTo q tt j).length cv ∧ w2.ownsRow w.heap.size 3 1 (.slice Av (catTo q tt j).length cv) (catTo q tt j).length ((catTo q tt j).map (Value.int .i64)) ∧ Below w.heap.size w w2) (fun _ i _ => n - (intOf i).toNat)
      case atStart => exact ⟨0, some ⟨(w.drewN (j1 + j2)).heap.size, 0, none⟩, 1, Nat.zero_le _, rfl, rfl, World.ownsRow_lit (w.drewN (j1 + j2)) #[.int .i64 (q : Int)] 1 HB2.out.size (by unfold maxLen; omega) rfl, HB2.out.alloc HB2.out.size _⟩
      case round =>
        rename_i w5
        obtain ⟨j, Av, cv, hj, rfl, rfl, hown, hB5⟩ := hrel
        have hcl := HCL.out j
        rw [← HLT.out] at hcl
        have HB5 := Lib.hid hB5
        by_cases hlt2 : j < n
        · obtain ⟨b, off, A', n', c', t, rfl, hb, q1, q2, hI⟩ := HT.out.cellAt hlt2
          have q3 := (hB5.cell (p := ⟨b, off + j, none⟩) hb).trans q1
          have hto : termOk ss t = true := (List.all_eq_true.1 HALL.out) t (List.mem_of_getElem? q2)
          obtain ⟨t1, t60⟩ := termOk_len hto
          have hI' := hI.below hB5
          have hnl := hI'.len
          obtain ⟨b2, off2, rfl, hb2, _⟩ := hI'.mem (by omega)
          have HN1 := Lib.hid (ints_news hI' rfl (by omega))
          have HN2 := Lib.hid (ints_one t)
          have HN0 := Lib.hid (show (t.map (Value.int .i64)).length = n' * 1 by simp; omega)
          have H := Lib.hid (catTo_succ (sy := (q : Int)) q2)
          have hn1 : 1 ≤ n' := by omega
          have hn60 : n' ≤ 60 := by omega
          have HNL := Lib.hid hnl
          have hj0 : (0 : Int) ≤ (j : Int) := by omega
          have hj1 : (j : Int) < (n : Int) := by omega
          clear q1 q2 hto hI hI' hB5 hnl t1 t60
          obtain ⟨V, hV⟩ : ∃ V, catTo (q : Int) tt j = V := ⟨_, rfl⟩
          rw [hV] at hown hcl H
          rw [hV]
          obtain ⟨L, hL⟩ : ∃ L, V.length = L := ⟨_, rfl⟩
          rw [hL] at hown hcl
          rw [hL]
          have HLL := Lib.hid hL
          have HOWN := Lib.hid hown
          clear hV hL hown
          go_wp2_with (at_builtin
                       refine wpList_append_own_at _ rfl _ _ 25 rfl w.heap.size 3 i0 _ 1 8 Try.underlying25 hi hz0 hz1 hz2 rfl (by omega) _ _ _ rfl HOWN.out ⟨b2, off2, none⟩ n' c' (t.map (Value.int .i64)) rfl HN0.out HN1.out HN2.out (by unfold maxLen; omega) (by omega) HB5.out.size ?_
                       intro v1 w6 hown1 hg1 _ _
                       have HB6 := Lib.hid (HB5.out.grown hg1 HB5.out.size (fun j e => (HOWN.out.lt j e).1))
                       obtain ⟨g1, cap1, hv1, _⟩ := hown1.form (by omega)
                       subst hv1
                       have HOWN1 := Lib.hid hown1
                       clear hown1 hg1)
          go_roundw
          case rel => exact ⟨j + 1, some ⟨g1, 0, none⟩, cap1, by omega, by go_num, by rw [H.out, List.length_append, HLL.out, HNL.out], by rw [H.out, List.length_append, HLL.out, List.map_append, ← HNL.out]; exact HOWN1.out, HB6.out⟩
          case measure => simp [intOf]; omega
        · obtain rfl : j = n := by omega
          obtain ⟨V, hV⟩ : ∃ V, catTo (q : Int) tt j = V := ⟨_, rfl⟩
          rw [hV] at hown hcl HL HG
          rw [hV]
          obtain ⟨L, hL⟩ : ∃ L, V.length = L := ⟨_, rfl⟩
          rw [hL] at hown hcl HL HG
          rw [hL]
          by_cases h60 : 60 < L
          · have H := Lib.hid (HL.out h60)
            have h60' : (60 : Int) < (L : Int) := by omega
            clear HL HG hL hV hown hB5
            go_wp2
            go_ret2
            rw [H.out]
            exact ⟨none, 0, 0, rfl, IntsAt.nil _ _ 0, HB5.out⟩
          · have H := Lib.hid (HG.out h60)
            have h60' : ¬ (60 : Int) < (L : Int) := by omega
            rw [← hL] at hown
            obtain ⟨Ar, cr, her, hr⟩ := row_ints hown (by omega)
            cases her
            rw [hL] at hr
            have HR := Lib.hid hr
            clear HL HG hL hV hown hB5 hr
            go_wp2
            go_ret2
            rw [H.out]
            exact ⟨_, _, _, rfl, HR.out, HB5.out⟩
    · have H := Lib.hid (HSIZE.out HOR.out (by rw [har1]; exact h3))
      have hbn : ((n : Int) != (r : Int)) = true := by simp; omega
      clear har1 har0
      go_enter Try.func32, Try.ntmps32
      go_wp2_with (first
        | (go_at_call 17; refine C.out.mono ?_; rintro e w1 ⟨rfl, j1, rfl⟩)
        | (go_at_call 72; refine (D.out _).mono ?_; rintro e w2 ⟨rfl, j2, rfl⟩)
        | (go_at_call 60; refine (within_any _ _ _ _).mono ?_; rintro e w3 ⟨rfl, rfl⟩; rw [HW.out]))
      go_ret2
      rw [H.out]
      exact ⟨none, 0, 0, rfl, IntsAt.nil _ _ 0, HBD.out _⟩

end Go.Proofs.Ytafpcpdafojgkaa
