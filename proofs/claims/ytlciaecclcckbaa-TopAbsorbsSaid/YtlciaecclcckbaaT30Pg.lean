/- lemmarytop.TopAbsorbs: for every sign and every two lists of numbers the statement's function returns true, and its arguments read behind the call as they read before. No condition. -/
import Derived.Test.YtlciaecclcckbaaN35g
import Derived.Test.YtlciaecclcckbaaY21g
import Derived.Test.YtlciaecclcckbaaM1g
import Derived.Test.YtlciaecclcckbaaK2g
/- lemmarytop.awake5. -/
namespace Go.Proofs.Ytlciaecclcckbaa
open Go.RowKit

theorem awake5_meets {W : World} {b b2 b3 : Nat} (h : Blk W b 64 cellsCN) (h2 : Blk W b2 3 #[.int .i64 (-1)]) (h3 : Blk W b3 3 #[.int .i64 1, .int .i64 (-1)]) :
    Calls Try.prog 46 #[.slice (some ⟨b, 0, none⟩) 2 2, .slice (some ⟨b2, 0, none⟩) 1 1, .slice (some ⟨b3, 0, none⟩) 2 2] W fun e w' => e = .returned (.bool true) ∧ Below W.heap.size W w' := by
  have hd : hasZ sgCN 12 [-1] [1, -1] = true := by decide +kernel
  have := meets_all _ _ _ 2 2 1 1 2 2 sgCN [-1] [1, -1] W (sig_of_blk h) (ints_of_blk _ _ _ rfl h2 rfl (by decide)) (ints_of_blk _ _ _ rfl h3 rfl (by decide))
  rw [hd] at this
  exact this
theorem awake5_not {W : World} {b b2 b3 : Nat} (h : Blk W b 64 cellsCN) (h2 : Blk W b2 3 #[.int .i64 (-1)]) (h3 : Blk W b3 3 #[.int .i64 1, .int .i64 (-1)]) :
    Calls Try.prog 42 #[.slice (some ⟨b, 0, none⟩) 2 2, .slice (some ⟨b2, 0, none⟩) 1 1, .slice (some ⟨b3, 0, none⟩) 2 2] W fun e w' => e = .returned (.bool false) ∧ Below W.heap.size W w' := by
  have hd : hasZ sgCN 0 [-1] [1, -1] = false := by decide +kernel
  have := unifiable_all _ _ _ 2 2 1 1 2 2 sgCN [-1] [1, -1] W (sig_of_blk h) (ints_of_blk _ _ _ rfl h2 rfl (by decide)) (ints_of_blk _ _ _ rfl h3 rfl (by decide))
  rw [hd] at this
  exact this

set_option maxRecDepth 100000 in
set_option maxHeartbeats 1000000 in
theorem awake5_any (w : World) : Calls Try.prog 51 #[] w fun e w' => e = .returned (.bool true) ∧ Below w.heap.size w w' := by
  have HM : Hid (Calls Try.prog 46 #[.slice (some ⟨w.heap.size, 0, none⟩) 2 2, .slice (some ⟨w.heap.size + 1, 0, none⟩) 1 1, .slice (some ⟨w.heap.size + 1 + 1, 0, none⟩) 2 2] (((w.alloc (.cells cellsCN 64)).alloc (.cells #[.int .i64 (-1)] 3)).alloc (.cells #[.int .i64 1, .int .i64 (-1)] 3)) fun e w' =>
      e = .returned (.bool true) ∧ Below w.heap.size w w' ∧ Blk w' w.heap.size 64 cellsCN) := by
    have k1 : Blk (((w.alloc (.cells cellsCN 64)).alloc (.cells #[.int .i64 (-1)] 3)).alloc (.cells #[.int .i64 1, .int .i64 (-1)] 3)) w.heap.size 64 cellsCN := ((Blk.new w _ _).alloc _).alloc _
    have k2 : Blk (((w.alloc (.cells cellsCN 64)).alloc (.cells #[.int .i64 (-1)] 3)).alloc (.cells #[.int .i64 1, .int .i64 (-1)] 3)) (w.heap.size + 1) 3 #[.int .i64 (-1)] := by
      have := (Blk.new (w.alloc (.cells cellsCN 64)) 3 #[.int .i64 (-1)]).alloc (.cells #[.int .i64 1, .int .i64 (-1)] 3)
      rw [World.size_alloc] at this
      exact this
    have k3 : Blk (((w.alloc (.cells cellsCN 64)).alloc (.cells #[.int .i64 (-1)] 3)).alloc (.cells #[.int .i64 1, .int .i64 (-1)] 3)) (w.heap.size + 1 + 1) 3 #[.int .i64 1, .int .i64 (-1)] := by
      have := Blk.new ((w.alloc (.cells cellsCN 64)).alloc (.cells #[.int .i64 (-1)] 3)) 3 #[.int .i64 1, .int .i64 (-1)]
      rw [World.size_alloc, World.size_alloc] at this
      exact this
    refine (awake5_meets k1 k2 k3).mono ?_
    rintro e w' ⟨rfl, hB⟩
    exact ⟨rfl, below_then (below_al (below_al (below_al (Below.refl _ w) _) _) _) hB, k1.below hB k1.lt⟩
  have HU : Hid (∀ V : World, Blk V w.heap.size 64 cellsCN → Calls Try.prog 42 #[.slice (some ⟨w.heap.size, 0, none⟩) 2 2, .slice (some ⟨V.heap.size, 0, none⟩) 1 1, .slice (some ⟨V.heap.size + 1, 0, none⟩) 2 2] ((V.alloc (.cells #[.int .i64 (-1)] 3)).alloc (.cells #[.int .i64 1, .int .i64 (-1)] 3)) fun e w' =>
      e = .returned (.bool false) ∧ Below V.heap.size V w') := by
    refine Lib.hid fun V kS => ?_
    have k2 : Blk ((V.alloc (.cells #[.int .i64 (-1)] 3)).alloc (.cells #[.int .i64 1, .int .i64 (-1)] 3)) (V.heap.size + 1) 3 #[.int .i64 1, .int .i64 (-1)] := by
      have := Blk.new (V.alloc (.cells #[.int .i64 (-1)] 3)) 3 #[.int .i64 1, .int .i64 (-1)]
      rw [World.size_alloc] at this
      exact this
    refine (awake5_not ((kS.alloc _).alloc _) ((Blk.new V _ _).alloc _) k2).mono ?_
    rintro e w' ⟨rfl, hB⟩
    exact ⟨rfl, below_then (below_al (below_al (Below.refl _ V) _) _) hB⟩
  go_enter Try.func51, Try.ntmps51
  go_wp2_with (first
    | (go_at_call 46; refine HM.out.mono ?_; rintro e w3 ⟨rfl, hB3, kS⟩; have HB3 := Lib.hid hB3; have HU' := Lib.hid (HU.out w3 kS); clear hB3 kS)
    | (go_at_call 42; refine HU'.out.mono ?_; rintro e w4 ⟨rfl, hB4⟩; have HB4 := Lib.hid (below_then HB3.out hB4); clear hB4))
  go_ret
  exact ⟨rfl, HB4.out⟩

end Go.Proofs.Ytlciaecclcckbaa

/- The walk of TopAbsorbs. -/
namespace Go.Proofs.Ytlciaecclcckbaa
open Go.RowKit

theorem comZ_valid {ss : Sg} {sh : Int} {za zb : List Int} (h : (comZ ss sh za zb).2 = 0) : valOk ss za = true ∧ valOk ss zb = true := by
  cases hv : (valOk ss za && valOk ss zb)
  · rw [(comZ_bad hv).1] at h; cases h
  · rw [Bool.and_eq_true] at hv; exact hv
theorem joZ_valid {ss : Sg} {za zb : List Int} (h : (joZ ss za zb).2 = 0) : valOk ss za = true ∧ valOk ss zb = true := by
  unfold joZ at h
  split at h
  · rename_i hv
    rw [Bool.and_eq_true] at hv
    exact hv
  · cases h

set_option maxRecDepth 100000 in
set_option maxHeartbeats 2000000 in
theorem tab_small (As Aa Ab : Option Addr) (ns cs na ca nb cb : Nat) (za zb : List Int) (w : World) (ha : IntsAt w w.heap.size Aa na za) (hb : IntsAt w w.heap.size Ab nb zb) (hsm : smallOk ns [(Aa, na, ca), (Ab, nb, cb)] = false) :
    Calls Try.prog 12 #[.slice As ns cs, .slice Aa na ca, .slice Ab nb cb] w fun e w' => e = .returned (.bool true) ∧ Below w.heap.size w w' := by
  have HS := Lib.hid (small_any As (some ⟨w.heap.size, 0, none⟩) ns cs 2 2 [(Aa, na, ca), (Ab, nb, cb)] _ _ (TermsAt.two (ca := ca) (cb := cb) ha hb).hds)
  have HSM := Lib.hid hsm
  clear hsm ha hb
  go_enter Try.func12, Try.ntmps12
  go_wp2_with (first
    | (go_at_call 14; refine HS.out.mono ?_; rintro e w' ⟨rfl, rfl⟩; rw [HSM.out])
    | (go_at_call 51; refine (awake5_any _).mono ?_; rintro e w' ⟨rfl, hB'⟩; have HB' := Lib.hid hB'))
  go_ret
  exact ⟨rfl, below_then (bel_al (Below.refl _ _) _) HB'.out⟩

set_option maxRecDepth 100000 in
set_option maxHeartbeats 8000000 in
theorem tab_ok (As Aa Ab : Option Addr) (ns cs na ca nb cb : Nat) (ss : Sg) (za zb : List Int) (w : World) (hs : SigAt w w.heap.size As ns ss) (ha : IntsAt w w.heap.size Aa na za) (hb : IntsAt w w.heap.size Ab nb zb) (hca : na ≤ ca) (hca2 : ca ≤ 9223372036854775807) (hcb : nb ≤ cb) (hcb2 : cb ≤ 9223372036854775807) (hsm : smallOk ns [(Aa, na, ca), (Ab, nb, cb)] = true) :
    Calls Try.prog 12 #[.slice As ns cs, .slice Aa na ca, .slice Ab nb cb] w fun e w' => e = .returned (.bool true) ∧ Below w.heap.size w w' := by
  have hB0 : Below w.heap.size w (w.alloc (.cells #[.slice Aa na ca, .slice Ab nb cb] 25)) := bel_al (Below.refl _ _) _
  have HS := Lib.hid (small_any As (some ⟨w.heap.size, 0, none⟩) ns cs 2 2 [(Aa, na, ca), (Ab, nb, cb)] _ _ (TermsAt.two (ca := ca) (cb := cb) ha hb).hds)
  have HSM := Lib.hid hsm
  have HB0 := Lib.hid hB0
  have C1 := Lib.hid (fun V (h : Below w.heap.size w V) => meet_all As Aa Ab ns cs na ca nb cb ss za zb V (hs.up h) (ha.up h) (hb.up h))
  have C4 := Lib.hid (fun V (h : Below w.heap.size w V) => join_allk As Aa Ab ns cs na ca nb cb ss za zb V (hs.up h) (ha.up h) (hb.up h) hca hca2 hcb hcb2)
  have CJ := Lib.hid (fun (t : List Int) (V : World) (A1 : Option Addr) (n1 c1 : Nat) (h : Below w.heap.size w V) (h1 : IntsAt V V.heap.size A1 n1 t) (hk : n1 ≤ c1 ∧ c1 ≤ 9223372036854775807) => join_allk As Aa A1 ns cs na ca n1 c1 ss za t V (hs.up h) (ha.up h) h1 hca hca2 hk.1 hk.2)
  have CM := Lib.hid (fun (t : List Int) (V : World) (A1 : Option Addr) (n1 c1 : Nat) (h : Below w.heap.size w V) (h1 : IntsAt V V.heap.size A1 n1 t) => meet_all As Aa A1 ns cs na ca n1 c1 ss za t V (hs.up h) (ha.up h) h1)
  have CA := Lib.hid (fun (t : List Int) (V : World) (A1 : Option Addr) (n1 k1 : Nat) (h : Below w.heap.size w V) (h1 : IntsAt V V.heap.size A1 n1 t) => alike_any As A1 Aa ns cs n1 k1 na ca ss t za V (hs.up h) h1 (ha.up h))
  have HA1 := Lib.hid (fun (h : (comZ ss 12 za zb).2 = 0) => absorb_one (comZ_valid h).1 (comZ_valid h).2 h)
  have HA2 := Lib.hid (fun (h : (joZ ss za zb).2 = 0) => absorb_two (joZ_valid h).1 (joZ_valid h).2 h)
  obtain ⟨M, hM⟩ : ∃ M, comZ ss 12 za zb = M := ⟨_, rfl⟩
  obtain ⟨J, hJ⟩ : ∃ J, joZ ss za zb = J := ⟨_, rfl⟩
  rw [hM] at HA1
  rw [hJ] at HA2
  simp only [hM] at C1
  simp only [hJ] at C4
  clear hM hJ
  obtain ⟨tm, em⟩ := M
  obtain ⟨tj, ej⟩ := J
  simp only at C1 C4 HA1 HA2
  clear hs ha hb hsm hB0 hca hca2 hcb hcb2
  by_cases hm : em = 0
  · subst hm
    obtain ⟨x1, x2⟩ := HA1.out rfl
    obtain ⟨T2, hT2⟩ : ∃ T2, joZ ss za tm = T2 := ⟨_, rfl⟩
    have C2 := Lib.hid (CJ.out tm)
    simp only [hT2] at C2
    rw [hT2] at x1 x2
    clear hT2
    obtain ⟨t2, e2⟩ := T2
    simp only at x1 x2 C2
    subst x1
    have C3 := Lib.hid (CA.out t2)
    simp only [x2] at C3
    clear x2
    by_cases hj : ej = 0
    · subst hj
      obtain ⟨y1, y2⟩ := HA2.out rfl
      obtain ⟨T5, hT5⟩ : ∃ T5, comZ ss 12 za tj = T5 := ⟨_, rfl⟩
      have C5 := Lib.hid (CM.out tj)
      simp only [hT5] at C5
      rw [hT5] at y1 y2
      clear hT5
      obtain ⟨t5, e5⟩ := T5
      simp only at y1 y2 C5
      subst y1
      have C6 := Lib.hid (CA.out t5)
      simp only [y2] at C6
      clear y2
      clear CJ CM CA HA1 HA2
      go_enter Try.func12, Try.ntmps12
      go_wp2_with (first
        | (go_at_call 14; refine HS.out.mono ?_; rintro e w' ⟨rfl, rfl⟩; rw [HSM.out])
        | (go_at_call 44; ((with_reducible refine (C1.out _ HB0.out).mono ?_); rintro e V1 ⟨A1, n1, c1, rfl, hI1, hk1, hB1⟩; have HK1 := Lib.hid hk1; have HI1 := Lib.hid hI1; have HB1 := Lib.hid (below_then HB0.out hB1); clear hI1 hB1 hk1))
        | (go_at_call 49; ((with_reducible refine (C2.out _ _ _ _ HB1.out HI1.out HK1.out).mono ?_); rintro e V2 ⟨A2, n2, c2, rfl, hI2, hk2, hB2⟩; have HI2 := Lib.hid hI2; have HB2 := Lib.hid (below_then HB1.out hB2); clear hI2 hB2 hk2))
        | (go_at_call 48; ((with_reducible refine (C3.out _ _ _ _ HB2.out HI2.out).mono ?_); rintro e V3 ⟨rfl, hB3⟩; have HB3 := Lib.hid (below_then HB2.out hB3); clear hB3))
        | (go_at_call 49; ((with_reducible refine (C4.out _ HB3.out).mono ?_); rintro e V4 ⟨A4, n4, c4, rfl, hI4, hk4, hB4⟩; have HI4 := Lib.hid hI4; have HB4 := Lib.hid (below_then HB3.out hB4); clear hI4 hB4 hk4))
        | (go_at_call 44; ((with_reducible refine (C5.out _ _ _ _ HB4.out HI4.out).mono ?_); rintro e V5 ⟨A5, n5, c5, rfl, hI5, hk5, hB5⟩; have HI5 := Lib.hid hI5; have HB5 := Lib.hid (below_then HB4.out hB5); clear hI5 hB5 hk5))
        | (go_at_call 48; ((with_reducible refine (C6.out _ _ _ _ HB5.out HI5.out).mono ?_); rintro e V6 ⟨rfl, hB6⟩; have HB6 := Lib.hid (below_then HB5.out hB6); clear hB6))
        | (go_at_call 51; refine (awake5_any _).mono ?_; rintro e VX ⟨rfl, hBX⟩; have HBX := Lib.hid (below_then HB6.out hBX); clear hBX))
      all_goals
        go_ret
        exact ⟨rfl, HBX.out⟩
    · have hnej : (ej != 0) = true := by simpa using hj
      have hnfj : (ej == 0) = false := by simpa using hj
      clear CJ CM CA HA1 HA2
      go_enter Try.func12, Try.ntmps12
      go_wp2_with (first
        | (go_at_call 14; refine HS.out.mono ?_; rintro e w' ⟨rfl, rfl⟩; rw [HSM.out])
        | (go_at_call 44; ((with_reducible refine (C1.out _ HB0.out).mono ?_); rintro e V1 ⟨A1, n1, c1, rfl, hI1, hk1, hB1⟩; have HK1 := Lib.hid hk1; have HI1 := Lib.hid hI1; have HB1 := Lib.hid (below_then HB0.out hB1); clear hI1 hB1 hk1))
        | (go_at_call 49; ((with_reducible refine (C2.out _ _ _ _ HB1.out HI1.out HK1.out).mono ?_); rintro e V2 ⟨A2, n2, c2, rfl, hI2, hk2, hB2⟩; have HI2 := Lib.hid hI2; have HB2 := Lib.hid (below_then HB1.out hB2); clear hI2 hB2 hk2))
        | (go_at_call 48; ((with_reducible refine (C3.out _ _ _ _ HB2.out HI2.out).mono ?_); rintro e V3 ⟨rfl, hB3⟩; have HB3 := Lib.hid (below_then HB2.out hB3); clear hB3))
        | (go_at_call 49; ((with_reducible refine (C4.out _ HB3.out).mono ?_); rintro e V4 ⟨A4, n4, c4, rfl, hI4, hk4, hB4⟩; have HI4 := Lib.hid hI4; have HB4 := Lib.hid (below_then HB3.out hB4); clear hI4 hB4 hk4))
        | (go_at_call 51; refine (awake5_any _).mono ?_; rintro e VX ⟨rfl, hBX⟩; have HBX := Lib.hid (below_then HB4.out hBX); clear hBX))
      all_goals
        go_ret
        exact ⟨rfl, HBX.out⟩
  · have hnem : (em != 0) = true := by simpa using hm
    have hnfm : (em == 0) = false := by simpa using hm
    by_cases hj : ej = 0
    · subst hj
      obtain ⟨y1, y2⟩ := HA2.out rfl
      obtain ⟨T5, hT5⟩ : ∃ T5, comZ ss 12 za tj = T5 := ⟨_, rfl⟩
      have C5 := Lib.hid (CM.out tj)
      simp only [hT5] at C5
      rw [hT5] at y1 y2
      clear hT5
      obtain ⟨t5, e5⟩ := T5
      simp only at y1 y2 C5
      subst y1
      have C6 := Lib.hid (CA.out t5)
      simp only [y2] at C6
      clear y2
      clear CJ CM CA HA1 HA2
      go_enter Try.func12, Try.ntmps12
      go_wp2_with (first
        | (go_at_call 14; refine HS.out.mono ?_; rintro e w' ⟨rfl, rfl⟩; rw [HSM.out])
        | (go_at_call 44; ((with_reducible refine (C1.out _ HB0.out).mono ?_); rintro e V1 ⟨A1, n1, c1, rfl, hI1, hk1, hB1⟩; have HK1 := Lib.hid hk1; have HI1 := Lib.hid hI1; have HB1 := Lib.hid (below_then HB0.out hB1); clear hI1 hB1 hk1))
        | (go_at_call 49; ((with_reducible refine (C4.out _ HB1.out).mono ?_); rintro e V4 ⟨A4, n4, c4, rfl, hI4, hk4, hB4⟩; have HI4 := Lib.hid hI4; have HB4 := Lib.hid (below_then HB1.out hB4); clear hI4 hB4 hk4))
        | (go_at_call 44; ((with_reducible refine (C5.out _ _ _ _ HB4.out HI4.out).mono ?_); rintro e V5 ⟨A5, n5, c5, rfl, hI5, hk5, hB5⟩; have HI5 := Lib.hid hI5; have HB5 := Lib.hid (below_then HB4.out hB5); clear hI5 hB5 hk5))
        | (go_at_call 48; ((with_reducible refine (C6.out _ _ _ _ HB5.out HI5.out).mono ?_); rintro e V6 ⟨rfl, hB6⟩; have HB6 := Lib.hid (below_then HB5.out hB6); clear hB6))
        | (go_at_call 51; refine (awake5_any _).mono ?_; rintro e VX ⟨rfl, hBX⟩; have HBX := Lib.hid (below_then HB6.out hBX); clear hBX))
      all_goals
        go_ret
        exact ⟨rfl, HBX.out⟩
    · have hnej : (ej != 0) = true := by simpa using hj
      have hnfj : (ej == 0) = false := by simpa using hj
      clear CJ CM CA HA1 HA2
      go_enter Try.func12, Try.ntmps12
      go_wp2_with (first
        | (go_at_call 14; refine HS.out.mono ?_; rintro e w' ⟨rfl, rfl⟩; rw [HSM.out])
        | (go_at_call 44; ((with_reducible refine (C1.out _ HB0.out).mono ?_); rintro e V1 ⟨A1, n1, c1, rfl, hI1, hk1, hB1⟩; have HK1 := Lib.hid hk1; have HI1 := Lib.hid hI1; have HB1 := Lib.hid (below_then HB0.out hB1); clear hI1 hB1 hk1))
        | (go_at_call 49; ((with_reducible refine (C4.out _ HB1.out).mono ?_); rintro e V4 ⟨A4, n4, c4, rfl, hI4, hk4, hB4⟩; have HI4 := Lib.hid hI4; have HB4 := Lib.hid (below_then HB1.out hB4); clear hI4 hB4 hk4))
        | (go_at_call 51; refine (awake5_any _).mono ?_; rintro e VX ⟨rfl, hBX⟩; have HBX := Lib.hid (below_then HB4.out hBX); clear hBX))
      all_goals
        go_ret
        exact ⟨rfl, HBX.out⟩

theorem tab_walk (As Aa Ab : Option Addr) (ns cs na ca nb cb : Nat) (ss : Sg) (za zb : List Int) (w : World) (hs : SigAt w w.heap.size As ns ss) (ha : IntsAt w w.heap.size Aa na za ∧ na ≤ ca ∧ ca ≤ 9223372036854775807) (hb : IntsAt w w.heap.size Ab nb zb ∧ nb ≤ cb ∧ cb ≤ 9223372036854775807) :
    Calls Try.prog 12 #[.slice As ns cs, .slice Aa na ca, .slice Ab nb cb] w fun e w' => e = .returned (.bool true) ∧ Below w.heap.size w w' := by
  cases hsm : smallOk ns [(Aa, na, ca), (Ab, nb, cb)]
  · exact tab_small As Aa Ab ns cs na ca nb cb za zb w ha.1 hb.1 hsm
  · exact tab_ok As Aa Ab ns cs na ca nb cb ss za zb w hs ha.1 hb.1 ha.2.1 ha.2.2 hb.2.1 hb.2.2 hsm

end Go.Proofs.Ytlciaecclcckbaa

namespace Go.Proofs.Ytlciaecclcckbaa
open Go.ChangeShapes Go.WideShapes Go.ChangeAt Go.RowKit Go.Deep

set_option maxRecDepth 100000 in
theorem tabsorbs_lifted (os : Os) (started : os.Started) (H : Type) (enc : TypeId × Value → H) :
    ReturnsInHanded {} Try.checked os 12 .any (Rows.topAbsorbsSpec.pre6 enc Try.prog Try.f12 Rows.topAbsorbsRow.domain false) (Rows.topAbsorbsSpec.post enc Try.prog Try.f12 false true false false) := by
  refine returnsInHanded_of_change (C := Try.checked) own started (by kernel_rfl) Try.func12
    (ChangeSpec.witness6 (enc := enc) (C := Try.checked) false ⟨#[], #[.slice none 0 0, .slice none 0 0, .slice none 0 0], []⟩ 8 (by kernel_rfl) (by kernel_rfl) (by kernel_rfl) (by kernel_rfl)) ?_
  intro W base args ds gs before hval0 hW hcnd _
  have hval : ∀ (j : Nat) t v, Try.f12.params[j]? = some t → args[j]? = some v → Value.okWide Try.prog W .any base t v := hval0
  have hW' := hW
  obtain ⟨p, q, hA0, hV, rfl, hfz, hnd⟩ := hW
  have hA : DataW.TrodAll enc Try.prog W 0 (fun _ => true) true Try.f12.params.toList args.toList ds p := hA0
  rw [Try.params12] at hA hval
  obtain ⟨v0, vs0, d0, ds0, p0, q0, hargs, rfl, rfl, h0, r0⟩ := trodAll_cons hA
  obtain ⟨v1, vs1, d1, ds1, p1, q1, rfl, rfl, rfl, h1, r1⟩ := trodAll_cons r0
  obtain ⟨v2, vs2, d2, ds2, p2, q2, rfl, rfl, rfl, h2, r2⟩ := trodAll_cons r1
  obtain ⟨rfl, rfl, rfl⟩ := trodAll_nil r2
  obtain rfl : args = #[v0, v1, v2] := by cases args; simp_all
  obtain ⟨rfl, rfl⟩ := trodVars_none hV
  obtain ⟨a0, len0, cap0, rfl⟩ := okWide_slice Try.underlying23 (hval 0 23 v0 rfl rfl)
  obtain ⟨a1, len1, cap1, rfl⟩ := okWide_slice Try.underlying25 (hval 1 25 v1 rfl rfl)
  obtain ⟨a2, len2, cap2, rfl⟩ := okWide_slice Try.underlying25 (hval 2 25 v2 rfl rfl)
  have k0 := h0
  have k1 := h1
  have k2 := h2
  have lt0 : ∀ x ∈ p0, x.block < W.heap.size := by obtain ⟨m, hm⟩ := k0; exact DataW.trod_lt m _ _ _ hm
  have lt1 : ∀ x ∈ p1, x.block < W.heap.size := by obtain ⟨m, hm⟩ := k1; exact DataW.trod_lt m _ _ _ hm
  have lt2 : ∀ x ∈ p2, x.block < W.heap.size := by obtain ⟨m, hm⟩ := k2; exact DataW.trod_lt m _ _ _ hm
  obtain ⟨f0, e0⟩ := h0
  obtain ⟨f1, e1⟩ := h1
  obtain ⟨f2, e2⟩ := h2
  obtain ⟨As, ns, cs, ss, es, hs⟩ := read_sign e0
  obtain ⟨Aa, na, ca, za, eb, ha, hca, hca2, _⟩ := read_ints Try.underlying25 e1
  obtain ⟨Ab, nb, cb, zb, et, hb, hcb, hcb2, _⟩ := read_ints Try.underlying25 e2
  cases es
  cases eb
  cases et
  clear hA0 hval0
  refine (tab_walk _ _ _ _ _ _ _ _ _ ss za zb W hs ⟨ha, hca, hca2⟩ ⟨hb, hcb, hcb2⟩).mono fun e W' ⟨he, bel⟩ => ?_
  subst he
  exact ⟨_, rfl, _, _, _, [], _, [], hW', trodAll_mk1 (shut_bool Try.underlying4 _), (trodAll_cons_mk (Below.trod laidOut (by kernel_rfl) (of_decide_eq_true (by kernel_rfl)) k0 bel lt0) (trodAll_cons_mk (Below.trod laidOut (by kernel_rfl) (of_decide_eq_true (by kernel_rfl)) k1 bel lt1) (trodAll_cons_mk (Below.trod laidOut (by kernel_rfl) (of_decide_eq_true (by kernel_rfl)) k2 bel lt2) trodAll_mk0))), rfl, bel.frame _, fun h => by cases h⟩

theorem tabsorbs_holds : Rows.TopAbsorbsSaid :=
  OpenClaim.holds_of_wide 12 Try.f12 rfl rfl rfl rfl rfl rfl rfl ⟨rfl, rfl, rfl, rfl, rfl⟩ rfl rfl rfl rfl rfl (by kernel_rfl) Try.func12 (by kernel_rfl)
    (of_decide_eq_true (by kernel_rfl)) (by unfold Func.isWrapper; first | (rw [if_pos (by decide +kernel)]; kernel_rfl) | (rw [if_neg (by decide +kernel)]; exact ⟨rfl, rfl⟩))
    (fun os started H enc _ => tabsorbs_lifted os started H enc)

end Go.Proofs.Ytlciaecclcckbaa
