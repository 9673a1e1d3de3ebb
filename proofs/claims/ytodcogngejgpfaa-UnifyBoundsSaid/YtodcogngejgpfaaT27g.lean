/- The walk of UnifyBounds. -/
import Derived.Test.YtodcogngejgpfaaN34g
import Derived.Test.YtodcogngejgpfaaT25g
namespace Go.Proofs.Ytodcogngejgpfaa
open Go.RowKit

theorem joZ_cases {ss : Sg} {za zb c : List Int} (h1 : insB ss c za = true) (h2 : insB ss c zb = true) : joZ ss za zb = ([], 4) ∨ (joZ ss za zb).2 = 0 ∧ insB ss c (joZ ss za zb).1 = true := by
  obtain ⟨vc, va⟩ := ins_valid h1
  obtain ⟨_, vb⟩ := ins_valid h2
  unfold joZ
  rw [if_pos (by simp [va, vb])]
  by_cases h : (joinZ ss za zb).2 = 0
  · exact .inr ⟨h, join_least h1 h2 h⟩
  · exact .inl (joinZ_err h)

set_option maxRecDepth 100000 in
set_option maxHeartbeats 4000000 in
theorem ubo_small (As A0 A1 A2 : Option Addr) (ns cs n0 c0 n1 c1 n2 c2 : Nat) (w : World) (hsm : smallOk ns [(A0, n0, c0), (A1, n1, c1), (A2, n2, c2)] = false) :
    Calls Try.prog 13 #[.slice As ns cs, .agg #[.slice A0 n0 c0, .slice A1 n1 c1, .slice A2 n2 c2]] w fun e w' => e = .returned (.bool true) ∧ Below w.heap.size w w' := by
  have hs := box_hds w A0 A1 A2 n0 c0 n1 c1 n2 c2
  obtain ⟨WB, hWB⟩ : ∃ WB, boxT w A0 A1 A2 n0 c0 n1 c1 n2 c2 = WB := ⟨_, rfl⟩
  have hBB : Below w.heap.size w WB := by rw [← hWB]; exact bel_al (bel_al (Below.refl _ _) _) _
  rw [hWB] at hs
  have HS := Lib.hid (small_any As _ ns cs 3 3 _ WB _ hs)
  have HSM := Lib.hid hsm
  have HWB := Lib.hid hWB
  have HBB := Lib.hid hBB
  clear hs hsm hWB hBB
  go_enter Try.func13, Try.ntmps13
  go_wp2_with fail
  rw [show (w.alloc (.cells #[.slice A0 n0 c0, .slice A1 n1 c1, .slice A2 n2 c2] 48)).alloc (.cells #[.slice A0 n0 c0, .slice A1 n1 c1, .slice A2 n2 c2] 30) = WB from HWB.out]
  go_wp2_with (first
    | (go_at_call 15; refine HS.out.mono ?_; rintro e w8 ⟨rfl, rfl⟩; rw [HSM.out])
    | (go_at_call 17; refine (awake2_any _).mono ?_; rintro e w9 ⟨rfl, hB9⟩; have HB9 := Lib.hid (below_then HBB.out hB9)))
  go_ret
  exact ⟨rfl, HB9.out⟩

set_option maxRecDepth 100000 in
set_option maxHeartbeats 8000000 in
theorem ubo_ok (As A0 A1 A2 : Option Addr) (ns cs n0 c0 n1 c1 n2 c2 : Nat) (ss : Sg) (za zb zc : List Int) (w : World) (hs : SigAt w w.heap.size As ns ss) (h0 : IntsAt w w.heap.size A0 n0 za ∧ n0 ≤ c0 ∧ c0 ≤ 9223372036854775807) (h1 : IntsAt w w.heap.size A1 n1 zb ∧ n1 ≤ c1 ∧ c1 ≤ 9223372036854775807) (h2 : IntsAt w w.heap.size A2 n2 zc ∧ n2 ≤ c2 ∧ c2 ≤ 9223372036854775807) (hsm : smallOk ns [(A0, n0, c0), (A1, n1, c1), (A2, n2, c2)] = true) :
    Calls Try.prog 13 #[.slice As ns cs, .agg #[.slice A0 n0 c0, .slice A1 n1 c1, .slice A2 n2 c2]] w fun e w' => e = .returned (.bool true) ∧ Below w.heap.size w w' := by
  have hhds := box_hds w A0 A1 A2 n0 c0 n1 c1 n2 c2
  have hcells := fun V => box_cells (V := V) (w := w) (A0 := A0) (A1 := A1) (A2 := A2) (n0 := n0) (c0 := c0) (n1 := n1) (c1 := c1) (n2 := n2) (c2 := c2)
  have hBB : Below w.heap.size w (boxT w A0 A1 A2 n0 c0 n1 c1 n2 c2) := bel_al (bel_al (Below.refl _ _) _) _
  have hWB' : boxT w A0 A1 A2 n0 c0 n1 c1 n2 c2 = (w.alloc (.cells #[.slice A0 n0 c0, .slice A1 n1 c1, .slice A2 n2 c2] 48)).alloc (.cells #[.slice A0 n0 c0, .slice A1 n1 c1, .slice A2 n2 c2] 30) := rfl
  obtain ⟨WB, hWB⟩ : ∃ WB, boxT w A0 A1 A2 n0 c0 n1 c1 n2 c2 = WB := ⟨_, rfl⟩
  rw [hWB] at hhds hBB
  simp only [hWB] at hcells
  obtain ⟨b0, b1, b2⟩ := hcells WB (Below.refl _ _)
  have HCL := Lib.hid hcells
  have HS := Lib.hid (small_any As _ ns cs 3 3 _ WB _ hhds)
  have HSM := Lib.hid hsm
  have HWB := Lib.hid hWB
  have HBB := Lib.hid hBB
  have CAC := Lib.hid (fun V (h : Below WB.heap.size WB V) => instance_any As A0 A2 ns cs n0 c0 n2 c2 ss za zc V (hs.up (below_then hBB h)) (h0.1.up (below_then hBB h)) (h2.1.up (below_then hBB h)) h2.2.1 h2.2.2)
  have CBC := Lib.hid (fun V (h : Below WB.heap.size WB V) => instance_any As A1 A2 ns cs n1 c1 n2 c2 ss zb zc V (hs.up (below_then hBB h)) (h1.1.up (below_then hBB h)) (h2.1.up (below_then hBB h)) h2.2.1 h2.2.2)
  have CCA := Lib.hid (fun V (h : Below WB.heap.size WB V) => instance_any As A2 A0 ns cs n2 c2 n0 c0 ss zc za V (hs.up (below_then hBB h)) (h2.1.up (below_then hBB h)) (h0.1.up (below_then hBB h)) h0.2.1 h0.2.2)
  have CCB := Lib.hid (fun V (h : Below WB.heap.size WB V) => instance_any As A2 A1 ns cs n2 c2 n1 c1 ss zc zb V (hs.up (below_then hBB h)) (h2.1.up (below_then hBB h)) (h1.1.up (below_then hBB h)) h1.2.1 h1.2.2)
  have CM := Lib.hid (fun V (h : Below WB.heap.size WB V) => meet_all As A0 A1 ns cs n0 c0 n1 c1 ss za zb V (hs.up (below_then hBB h)) (h0.1.up (below_then hBB h)) (h1.1.up (below_then hBB h)))
  have CMS := Lib.hid (fun V (h : Below WB.heap.size WB V) => meets_all As A0 A1 ns cs n0 c0 n1 c1 ss za zb V (hs.up (below_then hBB h)) (h0.1.up (below_then hBB h)) (h1.1.up (below_then hBB h)))
  have CJ := Lib.hid (fun V (h : Below WB.heap.size WB V) => join_allk As A0 A1 ns cs n0 c0 n1 c1 ss za zb V (hs.up (below_then hBB h)) (h0.1.up (below_then hBB h)) (h1.1.up (below_then hBB h)) h0.2.1 h0.2.2 h1.2.1 h1.2.2)
  have CIM := Lib.hid (fun V (t : List Int) (A : Option Addr) (n c : Nat) (h : Below WB.heap.size WB V) (ht : IntsAt V V.heap.size A n t) => instance_any As A A2 ns cs n c n2 c2 ss t zc V (hs.up (below_then hBB h)) ht (h2.1.up (below_then hBB h)) h2.2.1 h2.2.2)
  have CIJ := Lib.hid (fun V (t : List Int) (A : Option Addr) (n c : Nat) (h : Below WB.heap.size WB V) (ht : IntsAt V V.heap.size A n t) (hk : n ≤ c ∧ c ≤ 9223372036854775807) => instance_any As A2 A ns cs n2 c2 n c ss zc t V (hs.up (below_then hBB h)) (h2.1.up (below_then hBB h)) ht hk.1 hk.2)
  have HME := Lib.hid (fun h k => meet_bound (ss := ss) (za := za) (zb := zb) (c := zc) h k)
  have HJO := Lib.hid (fun h k => joZ_cases (ss := ss) (za := za) (zb := zb) (c := zc) h k)
  obtain ⟨ac, hac⟩ : ∃ q, insB ss za zc = q := ⟨_, rfl⟩
  obtain ⟨bc, hbc⟩ : ∃ q, insB ss zb zc = q := ⟨_, rfl⟩
  obtain ⟨ca, hca⟩ : ∃ q, insB ss zc za = q := ⟨_, rfl⟩
  obtain ⟨cb, hcb⟩ : ∃ q, insB ss zc zb = q := ⟨_, rfl⟩
  simp only [hac] at CAC HME
  simp only [hbc] at CBC HME
  simp only [hca] at CCA HJO
  simp only [hcb] at CCB HJO
  clear hhds hcells hBB hWB' hWB hs h0 h1 h2 hsm hac hbc hca hcb
  go_enter Try.func13, Try.ntmps13
  go_wp2_with fail
  rw [show (w.alloc (.cells #[.slice A0 n0 c0, .slice A1 n1 c1, .slice A2 n2 c2] 48)).alloc (.cells #[.slice A0 n0 c0, .slice A1 n1 c1, .slice A2 n2 c2] 30) = WB from HWB.out]
  go_upto_region 3 with (go_at_call 15; refine HS.out.mono ?_; rintro e w8 ⟨rfl, rfl⟩; rw [HSM.out])
  have hB0 := Below.refl WB.heap.size WB
  go_cut [33] from 20 to 33 (fun s33 wx => s33 = .bool (ac && bc) ∧ Below WB.heap.size WB wx)
  case first =>
    cases ac with
    | false =>
      go_wp2_with (first
        | (go_at_call 34; ((with_reducible refine (CAC.out _ hB0).mono ?_); rintro e V1 ⟨rfl, hB⟩); have h1 : Below WB.heap.size WB V1 := below_then hB0 hB; obtain ⟨x0, x1, x2⟩ := HCL.out _ h1; clear hB))
      go_meet
      exact ⟨rfl, h1⟩
    | true =>
      go_wp2_with (first
        | (go_at_call 34; ((with_reducible refine (CAC.out _ hB0).mono ?_); rintro e V1 ⟨rfl, hB⟩); have h1 : Below WB.heap.size WB V1 := below_then hB0 hB; obtain ⟨x0, x1, x2⟩ := HCL.out _ h1; clear hB)
        | (go_at_call 34; ((with_reducible refine (CBC.out _ h1).mono ?_); rintro e V2 ⟨rfl, hB⟩); have h2 : Below WB.heap.size WB V2 := below_then h1 hB; obtain ⟨x0, x1, x2⟩ := HCL.out _ h2; clear hB))
      go_meet
      exact ⟨by rw [Bool.true_and], h2⟩
  case rest =>
    obtain ⟨rfl, h2⟩ := hcut
    obtain ⟨w1, hw1⟩ : ∃ w1, w1 = wc := ⟨_, rfl⟩
    subst hw1
    obtain ⟨x0, x1, x2⟩ := HCL.out w1 h2
    obtain ⟨q, hq⟩ : ∃ q, (ac && bc) = q := ⟨_, rfl⟩
    rw [hq]
    have HQ := Lib.hid hq
    clear hq b0 b1 b2
    go_upto_if 33 with fail
    go_cut [34] from 5 to 69 (fun s34 wx => Below WB.heap.size WB wx)
    case first =>
      cases q with
      | false =>
        go_wp2_with fail
        go_meet
        exact h2
      | true =>
        obtain ⟨hms, hme⟩ := HME.out (Bool.and_eq_true _ _ ▸ HQ.out).1 (Bool.and_eq_true _ _ ▸ HQ.out).2
        rw [hms] at CMS
        obtain ⟨Z, hZ⟩ : ∃ Z, comZ ss 12 za zb = Z := ⟨_, rfl⟩
        rw [hZ] at hme
        simp only [hZ] at CM
        obtain ⟨t, er⟩ := Z
        simp only at hme CM
        have hme2 : (er = 4) ∨ (er = 0 ∧ insB ss t zc = true) := by
          rcases hme with h | h
          · exact .inl (by injection h)
          · exact .inr h
        clear hme hZ hms
        rcases hme2 with rfl | ⟨rfl, hin⟩
        · go_wp2_with (first
            | (go_at_call 48; ((with_reducible refine (CM.out _ h2).mono ?_); rintro e V3 ⟨A3, n3, c3, rfl, hI3, hk3, hB⟩); have h3 : Below WB.heap.size WB V3 := below_then h2 hB; obtain ⟨x0, x1, x2⟩ := HCL.out _ h3; have HI3 := Lib.hid hI3; clear hB hI3 hk3)
            | (go_at_call 50; ((with_reducible refine (CMS.out _ h3).mono ?_); rintro e V4 ⟨rfl, hB⟩); have h4 : Below WB.heap.size WB V4 := below_then h3 hB; obtain ⟨x0, x1, x2⟩ := HCL.out _ h4; have HI4 := Lib.hid (HI3.out.up hB); clear hB))
          go_meet
          exact h4
        · have CIM2 := Lib.hid (fun V A n c h ht => CIM.out V t A n c h ht)
          simp only [hin] at CIM2
          clear hin
          go_wp2_with (first
            | (go_at_call 48; ((with_reducible refine (CM.out _ h2).mono ?_); rintro e V3 ⟨A3, n3, c3, rfl, hI3, hk3, hB⟩); have h3 : Below WB.heap.size WB V3 := below_then h2 hB; obtain ⟨x0, x1, x2⟩ := HCL.out _ h3; have HI3 := Lib.hid hI3; clear hB hI3 hk3)
            | (go_at_call 50; ((with_reducible refine (CMS.out _ h3).mono ?_); rintro e V4 ⟨rfl, hB⟩); have h4 : Below WB.heap.size WB V4 := below_then h3 hB; obtain ⟨x0, x1, x2⟩ := HCL.out _ h4; have HI4 := Lib.hid (HI3.out.up hB); clear hB)
            | (go_at_call 34; ((with_reducible refine (CIM2.out _ _ _ _ h4 HI4.out).mono ?_); rintro e V5 ⟨rfl, hB⟩); have h5 : Below WB.heap.size WB V5 := below_then h4 hB; clear hB))
          go_meet
          exact h5
    case rest =>
    obtain ⟨w2, hw2⟩ : ∃ w2, w2 = wc := ⟨_, rfl⟩
    subst hw2
    have hB1 : Below WB.heap.size WB w2 := hcut
    clear hcut h2
    obtain ⟨d0, d1, d2⟩ := HCL.out w2 hB1
    clear x0 x1 x2 CAC CBC CM CMS CIM HME
    cases ca with
    | false =>
      go_wp2_with (first
        | (go_at_call 34; ((with_reducible refine (CCA.out _ hB1).mono ?_); rintro e V1 ⟨rfl, hB⟩); have h1 : Below WB.heap.size WB V1 := below_then hB1 hB; obtain ⟨x0, x1, x2⟩ := HCL.out _ h1; clear hB)
        | (go_at_call 17; refine (awake2_any _).mono ?_; rintro e V9 ⟨rfl, hB⟩; have h9 : Below WB.heap.size WB V9 := below_then h1 hB; clear hB))
      go_ret
      exact ⟨rfl, below_then HBB.out h9⟩
    | true =>
      cases cb with
      | false =>
        go_wp2_with (first
          | (go_at_call 34; ((with_reducible refine (CCA.out _ hB1).mono ?_); rintro e V1 ⟨rfl, hB⟩); have h1 : Below WB.heap.size WB V1 := below_then hB1 hB; obtain ⟨x0, x1, x2⟩ := HCL.out _ h1; clear hB)
          | (go_at_call 34; ((with_reducible refine (CCB.out _ h1).mono ?_); rintro e V2 ⟨rfl, hB⟩); have h2 : Below WB.heap.size WB V2 := below_then h1 hB; obtain ⟨x0, x1, x2⟩ := HCL.out _ h2; clear hB)
          | (go_at_call 17; refine (awake2_any _).mono ?_; rintro e V9 ⟨rfl, hB⟩; have h9 : Below WB.heap.size WB V9 := below_then h2 hB; clear hB))
        go_ret
        exact ⟨rfl, below_then HBB.out h9⟩
      | true =>
        have hjo := HJO.out rfl rfl
        obtain ⟨Z, hZ⟩ : ∃ Z, joZ ss za zb = Z := ⟨_, rfl⟩
        rw [hZ] at hjo
        simp only [hZ] at CJ
        obtain ⟨t, er⟩ := Z
        simp only at hjo CJ
        have hjo2 : (er = 4) ∨ (er = 0 ∧ insB ss zc t = true) := by
          rcases hjo with h | h
          · exact .inl (by injection h)
          · exact .inr h
        clear hjo hZ
        rcases hjo2 with rfl | ⟨rfl, hin⟩
        · go_wp2_with (first
            | (go_at_call 34; ((with_reducible refine (CCA.out _ hB1).mono ?_); rintro e V1 ⟨rfl, hB⟩); have h1 : Below WB.heap.size WB V1 := below_then hB1 hB; obtain ⟨x0, x1, x2⟩ := HCL.out _ h1; clear hB)
            | (go_at_call 34; ((with_reducible refine (CCB.out _ h1).mono ?_); rintro e V2 ⟨rfl, hB⟩); have h2 : Below WB.heap.size WB V2 := below_then h1 hB; obtain ⟨x0, x1, x2⟩ := HCL.out _ h2; clear hB)
            | (go_at_call 52; ((with_reducible refine (CJ.out _ h2).mono ?_); rintro e V3 ⟨A3, n3, c3, rfl, hI3, hk3, hB⟩); have h3 : Below WB.heap.size WB V3 := below_then h2 hB; obtain ⟨x0, x1, x2⟩ := HCL.out _ h3; have HI3 := Lib.hid hI3; have HK3 := Lib.hid hk3; clear hB hI3 hk3)
            | (go_at_call 17; refine (awake2_any _).mono ?_; rintro e V9 ⟨rfl, hB⟩; have h9 : Below WB.heap.size WB V9 := below_then h3 hB; clear hB))
          go_ret
          exact ⟨rfl, below_then HBB.out h9⟩
        · have CIJ2 := Lib.hid (fun V A n c h ht hk => CIJ.out V t A n c h ht hk)
          simp only [hin] at CIJ2
          clear hin
          go_wp2_with (first
            | (go_at_call 34; ((with_reducible refine (CCA.out _ hB1).mono ?_); rintro e V1 ⟨rfl, hB⟩); have h1 : Below WB.heap.size WB V1 := below_then hB1 hB; obtain ⟨x0, x1, x2⟩ := HCL.out _ h1; clear hB)
            | (go_at_call 34; ((with_reducible refine (CCB.out _ h1).mono ?_); rintro e V2 ⟨rfl, hB⟩); have h2 : Below WB.heap.size WB V2 := below_then h1 hB; obtain ⟨x0, x1, x2⟩ := HCL.out _ h2; clear hB)
            | (go_at_call 52; ((with_reducible refine (CJ.out _ h2).mono ?_); rintro e V3 ⟨A3, n3, c3, rfl, hI3, hk3, hB⟩); have h3 : Below WB.heap.size WB V3 := below_then h2 hB; obtain ⟨x0, x1, x2⟩ := HCL.out _ h3; have HI3 := Lib.hid hI3; have HK3 := Lib.hid hk3; clear hB hI3 hk3)
            | (go_at_call 34; ((with_reducible refine (CIJ2.out _ _ _ _ h3 HI3.out HK3.out).mono ?_); rintro e V5 ⟨rfl, hB⟩); have h5 : Below WB.heap.size WB V5 := below_then h3 hB; clear hB)
            | (go_at_call 17; refine (awake2_any _).mono ?_; rintro e V9 ⟨rfl, hB⟩; have h9 : Below WB.heap.size WB V9 := below_then h5 hB; clear hB))
          go_ret
          exact ⟨rfl, below_then HBB.out h9⟩

theorem ubo_walk (As A0 A1 A2 : Option Addr) (ns cs n0 c0 n1 c1 n2 c2 : Nat) (ss : Sg) (za zb zc : List Int) (w : World) (hs : SigAt w w.heap.size As ns ss) (h0 : IntsAt w w.heap.size A0 n0 za ∧ n0 ≤ c0 ∧ c0 ≤ 9223372036854775807) (h1 : IntsAt w w.heap.size A1 n1 zb ∧ n1 ≤ c1 ∧ c1 ≤ 9223372036854775807) (h2 : IntsAt w w.heap.size A2 n2 zc ∧ n2 ≤ c2 ∧ c2 ≤ 9223372036854775807) :
    Calls Try.prog 13 #[.slice As ns cs, .agg #[.slice A0 n0 c0, .slice A1 n1 c1, .slice A2 n2 c2]] w fun e w' => e = .returned (.bool true) ∧ Below w.heap.size w w' := by
  cases hsm : smallOk ns [(A0, n0, c0), (A1, n1, c1), (A2, n2, c2)]
  · exact ubo_small As A0 A1 A2 ns cs n0 c0 n1 c1 n2 c2 w hsm
  · exact ubo_ok As A0 A1 A2 ns cs n0 c0 n1 c1 n2 c2 ss za zb zc w hs h0 h1 h2 hsm

end Go.Proofs.Ytodcogngejgpfaa
