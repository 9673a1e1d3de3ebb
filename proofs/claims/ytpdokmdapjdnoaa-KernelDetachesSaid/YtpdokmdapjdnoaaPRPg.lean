/- lemmarylaw04.KernelDetaches: for every input the statement's function returns true, and its arguments read behind the call as they read before. No condition. -/
import Derived.Test.YtpdokmdapjdnoaaPOg
import Derived.Test.YtpdokmdapjdnoaaKYg
import Derived.Test.YtpdokmdapjdnoaaKXg
import Derived.Test.YtpdokmdapjdnoaaO3g
import Derived.Test.YtpdokmdapjdnoaaW0g
import Derived.Test.YtpdokmdapjdnoaaL3g
import Derived.Test.YtpdokmdapjdnoaaK2g
/- The walk of KernelDetaches. -/
namespace Go.Proofs.Ytpdokmdapjdnoaa
open Go.RowKit

set_option maxRecDepth 100000 in
set_option maxHeartbeats 1000000 in
theorem refDetaches_all (As Am An : Option Addr) (ns cs nm cm nn cn : Nat) (ss : Sg) (zm zn : List Int) (w : World) (hs : SigAt w w.heap.size As ns ss) (hm : IntsAt w w.heap.size Am nm zm) (hn : IntsAt w w.heap.size An nn zn) (hc : nm ≤ cm) (hc2 : cm ≤ 9223372036854775807) :
    Calls Try.prog 39 #[.slice As ns cs, .slice Am nm cm, .slice An nn cn] w fun e w' => e = .returned (.bool (detB ss zm zn)) ∧ Below w.heap.size w w' := by
  have C := Lib.hid (refDetach_all As Am An ns cs nm cm nn cn ss zm zn w hs hm hn hc hc2)
  rw [← detB_is]
  obtain ⟨E, hE⟩ : ∃ E, (detZ ss zm zn).2 = E := ⟨_, rfl⟩
  rw [hE] at C ⊢
  clear hs hm hn hE
  by_cases h0 : E = 0
  · subst h0
    go_enter Try.func39, Try.ntmps39
    go_wp2_with (go_at_call 37; refine C.out.mono ?_; rintro e w1 ⟨A, n, c, rfl, _, _, hB⟩; have HB := Lib.hid hB; clear hB)
    go_ret
    exact ⟨rfl, HB.out⟩
  · have h1 : (E == 0) = false := by simpa using h0
    obtain ⟨q, hq⟩ : ∃ q, (E == 4) = q := ⟨_, rfl⟩
    rw [h1, hq]
    go_enter Try.func39, Try.ntmps39
    go_wp2_with (go_at_call 37; refine C.out.mono ?_; rintro e w1 ⟨A, n, c, rfl, _, _, hB⟩; have HB := Lib.hid hB; clear hB)
    go_ret
    exact ⟨by simp, HB.out⟩

theorem canon_val {ss : Sg} {z : List Int} (h : valOk ss z = true) : valOk ss (canon z) = true := valOk_canon h

set_option maxRecDepth 100000 in
set_option maxHeartbeats 4000000 in
theorem kd_small (As Am An : Option Addr) (ns cs nm cm nn cn : Nat) (ss : Sg) (zm zn : List Int) (w : World) (_hs : SigAt w w.heap.size As ns ss) (_hm : IntsAt w w.heap.size Am nm zm) (_hn : IntsAt w w.heap.size An nn zn) (_hc1 : nm ≤ cm) (_hc2 : cm ≤ 9223372036854775807) (hsm : smallOk ns [(Am, nm, cm), (An, nn, cn)] = false) :
    Calls Try.prog 6 #[.slice As ns cs, .slice Am nm cm, .slice An nn cn] w fun e w' => e = .returned (.bool true) ∧ Below w.heap.size w w' := by
  obtain ⟨W2, hW2⟩ : ∃ W2, w.alloc (.cells #[.slice Am nm cm, .slice An nn cn] 25) = W2 := ⟨_, rfl⟩
  have hB : Below w.heap.size w W2 := by rw [← hW2]; exact (Below.refl _ w).alloc (Nat.le_refl _) _
  have hsm0 : HdsAt W2 W2.heap.size (some ⟨w.heap.size, 0, none⟩) 2 [(Am, nm, cm), (An, nn, cn)] := by
    have := Blk.new w 25 #[.slice Am nm cm, .slice An nn cn]
    rw [hW2] at this
    exact HdsAt.of_blk _ this rfl rfl (by simp)
  have HS := Lib.hid (small_any As _ ns cs 2 2 _ W2 _ hsm0)
  have HW2 := Lib.hid hW2
  have HB0 := Lib.hid hB
  have HSM := Lib.hid hsm
  clear hsm0 _hs _hm _hn hsm hB hW2 _hc1 _hc2
  go_enter Try.func6, Try.ntmps6
  go_wp2_with fail
  rw [HW2.out]
  go_wp2_with (first
    | (go_at_call 16; ((with_reducible refine HS.out.mono ?_); rintro e w' ⟨rfl, rfl⟩; rw [HSM.out]))
    | (go_at_call 35; refine (awake4_any _).mono ?_; rintro e Vz ⟨rfl, hBz⟩; have HBz := Lib.hid (below_then HB0.out hBz); clear hBz))
  go_ret
  exact ⟨rfl, HBz.out⟩

theorem canonical_badk (As At : Option Addr) (ns cs nt ct : Nat) (ss : Sg) (zs : List Int) (w : World) (hs : SigAt w w.heap.size As ns ss) (ht : IntsAt w w.heap.size At nt zs) (hv : valOk ss zs = false) :
    Calls Try.prog 40 #[.slice As ns cs, .slice At nt ct] w (RetK w [] 1) := by
  have C := Lib.hid (valid_any As At ns cs nt ct ss zs w hs ht)
  rw [hv] at C
  clear hv hs ht
  go_enter Try.func40, Try.ntmps40
  go_wp2_with (go_at_call 79; refine C.out.mono ?_; rintro e w1 ⟨rfl, hB⟩; have HB := Lib.hid hB; clear hB)
  go_ret2
  exact ⟨none, 0, 0, rfl, IntsAt.nil _ _ 0, by omega, HB.out⟩

set_option maxRecDepth 100000 in
set_option maxHeartbeats 4000000 in
theorem kd_main (As Am An : Option Addr) (ns cs nm cm nn cn : Nat) (ss : Sg) (zm zn : List Int) (w : World) (hs : SigAt w w.heap.size As ns ss) (hm : IntsAt w w.heap.size Am nm zm) (hn : IntsAt w w.heap.size An nn zn) (hc1 : nm ≤ cm) (hc2 : cm ≤ 9223372036854775807) (hsm : smallOk ns [(Am, nm, cm), (An, nn, cn)] = true) :
    Calls Try.prog 6 #[.slice As ns cs, .slice Am nm cm, .slice An nn cn] w fun e w' => e = .returned (.bool true) ∧ Below w.heap.size w w' := by
  obtain ⟨W2, hW2⟩ : ∃ W2, w.alloc (.cells #[.slice Am nm cm, .slice An nn cn] 25) = W2 := ⟨_, rfl⟩
  have hB : Below w.heap.size w W2 := by rw [← hW2]; exact (Below.refl _ w).alloc (Nat.le_refl _) _
  have hsm0 : HdsAt W2 W2.heap.size (some ⟨w.heap.size, 0, none⟩) 2 [(Am, nm, cm), (An, nn, cn)] := by
    have := Blk.new w 25 #[.slice Am nm cm, .slice An nn cn]
    rw [hW2] at this
    exact HdsAt.of_blk _ this rfl rfl (by simp)
  have HS := Lib.hid (small_any As _ ns cs 2 2 _ W2 _ hsm0)
  have HW2 := Lib.hid hW2
  have HB0 := Lib.hid hB
  have HSM := Lib.hid hsm
  have C1 := Lib.hid (fun V (h : Below w.heap.size w V) => kdetach_any As Am An ns cs nm cm nn cn ss zm zn V (hs.up h) (hm.up h) (hn.up h) hc1 hc2)
  have C2 := Lib.hid (fun V (h : Below w.heap.size w V) => refDetach_all As Am An ns cs nm cm nn cn ss zm zn V (hs.up h) (hm.up h) (hn.up h) hc1 hc2)
  have C3 := Lib.hid (fun V (h : Below w.heap.size w V) => kdetaches_all As Am An ns cs nm cm nn cn ss zm zn V (hs.up h) (hm.up h) (hn.up h) hc1 hc2)
  have C4 := Lib.hid (fun V (h : Below w.heap.size w V) => refDetaches_all As Am An ns cs nm cm nn cn ss zm zn V (hs.up h) (hm.up h) (hn.up h) hc1 hc2)
  obtain ⟨q, hq⟩ : ∃ q, detB ss zm zn = q := ⟨_, rfl⟩
  rw [hq] at C3 C4
  have hqq : (q != q) = false := by simp
  by_cases hv : valOk ss zm = true ∧ valOk ss zn = true
  · have C5 := Lib.hid (fun V (h : Below w.heap.size w V) => (canonical_new As Am ns cs nm cm ss zm V (hs.up h) (hm.up h) hv.1).mono fun _ _ h => h.retk)
    have C6 := Lib.hid (fun V (h : Below w.heap.size w V) => (canonical_new As An ns cs nn cn ss zn V (hs.up h) (hn.up h) hv.2).mono fun _ _ h => h.retk)
    have C7 := Lib.hid (fun V (h : Below w.heap.size w V) A3 n3 c3 A4 n4 c4 (h3 : IntsAt V V.heap.size A3 n3 (canon zm)) (h4 : IntsAt V V.heap.size A4 n4 (canon zn)) (hk : n3 ≤ c3 ∧ c3 ≤ 9223372036854775807) => kdetach_any As A3 A4 ns cs n3 c3 n4 c4 ss (canon zm) (canon zn) V (hs.up h) h3 h4 hk.1 hk.2)
    rw [det_canon hv.1 hv.2 (canon_val hv.1) (canon_val hv.2)] at C7
    obtain ⟨R, hR⟩ : ∃ R, detZ ss zm zn = R := ⟨_, rfl⟩
    rw [hR] at C1 C2 C7
    obtain ⟨T, er⟩ := R
    simp only at C1 C2 C7
    obtain ⟨M, hM⟩ : ∃ M, canon zm = M := ⟨_, rfl⟩
    obtain ⟨L, hL⟩ : ∃ L, canon zn = L := ⟨_, rfl⟩
    rw [hM] at C5 C7
    rw [hL] at C6 C7
    have hne : (er != er) = false := by simp
    have heq : (er == er) = true := by simp
    clear hM hL hR hv hq hsm0 hs hm hn hsm hB hW2 hc1 hc2
    go_enter Try.func6, Try.ntmps6
    go_wp2_with fail
    rw [HW2.out]
    go_wp2_with (first
      | (go_at_call 16; ((with_reducible refine HS.out.mono ?_); rintro e w' ⟨rfl, rfl⟩; rw [HSM.out]))
      | (go_at_call 24; ((with_reducible refine (same_self A5 A1 n5 c5 n1 c1 T _ _ HI5.out HI1g.out).mono ?_); rintro e V9 ⟨rfl, k9, hV9⟩; have hB9 := below_drewN (Below.refl V8.heap.size V8) k9; rw [← hV9] at hB9; have HB9 := Lib.hid (below_then HB8.out hB9); clear hB9 hV9))
      | (go_at_call 36; ((with_reducible refine (C7.out _ HB7.out _ _ _ _ _ _ HI3a.out HI4.out HK3.out).mono ?_); rintro e V8 ⟨A5, n5, c5, rfl, hI5, _, hB8⟩; have HI1g := Lib.hid (HI1f.out.up hB8); have HI5 := Lib.hid hI5; have HB8 := Lib.hid (below_then HB7.out hB8); clear hI5 hB8))
      | (go_at_call 40; ((with_reducible refine (C6.out _ HB6.out).mono ?_); rintro e V7 ⟨A4, n4, c4, rfl, hI4, _, hB7⟩; have HI1f := Lib.hid (HI1e.out.up hB7); have HI3a := Lib.hid (HI3.out.up hB7); have HI4 := Lib.hid hI4; have HB7 := Lib.hid (below_then HB6.out hB7); clear hI4 hB7))
      | (go_at_call 40; ((with_reducible refine (C5.out _ HB5.out).mono ?_); rintro e V6 ⟨A3, n3, c3, rfl, hI3, hk3, hB6⟩; have HI1e := Lib.hid (HI1d.out.up hB6); have HI3 := Lib.hid hI3; have HK3 := Lib.hid hk3; have HB6 := Lib.hid (below_then HB5.out hB6); clear hI3 hk3 hB6))
      | (go_at_call 39; ((with_reducible refine (C4.out _ HB4.out).mono ?_); rintro e V5 ⟨rfl, hB5⟩; have HI1d := Lib.hid (HI1c.out.up hB5); have HB5 := Lib.hid (below_then HB4.out hB5); clear hB5))
      | (go_at_call 38; ((with_reducible refine (C3.out _ HB3.out).mono ?_); rintro e V4 ⟨rfl, hB4⟩; have HI1c := Lib.hid (HI1b.out.up hB4); have HB4 := Lib.hid (below_then HB3.out hB4); clear hB4))
      | (go_at_call 24; ((with_reducible refine (same_self A1 A2 n1 c1 n2 c2 T _ _ HI1a.out HI2.out).mono ?_); rintro e V3 ⟨rfl, k3, hV3⟩; have hB3 := below_drewN (Below.refl V2.heap.size V2) k3; rw [← hV3] at hB3; have HI1b := Lib.hid (HI1a.out.up hB3); have HB3 := Lib.hid (below_then HB2.out hB3); clear hB3 hV3))
      | (go_at_call 37; ((with_reducible refine (C2.out _ HB1.out).mono ?_); rintro e V2 ⟨A2, n2, c2, rfl, hI2, _, hB2⟩; have HI1a := Lib.hid (HI1.out.up hB2); have HI2 := Lib.hid hI2; have HB2 := Lib.hid (below_then HB1.out hB2); clear hI2 hB2))
      | (go_at_call 36; ((with_reducible refine (C1.out _ HB0.out).mono ?_); rintro e V1 ⟨A1, n1, c1, rfl, hI1, _, hB1⟩; have HI1 := Lib.hid hI1; have HB1 := Lib.hid (below_then HB0.out hB1); clear hI1 hB1))
      | (go_at_call 35; refine (awake4_any _).mono ?_; rintro e Vz ⟨rfl, hBz⟩; have HBz := Lib.hid (below_then HB9.out hBz); clear hBz))
    go_ret
    exact ⟨rfl, HBz.out⟩
  · have hz : detZ ss zm zn = ([], 1) := by
      unfold detZ
      rw [if_neg (fun h => hv (by rw [Bool.and_eq_true] at h; exact h))]
    rw [hz] at C1 C2
    obtain ⟨T, hT⟩ : ∃ T : List Int, ([] : List Int) = T := ⟨_, rfl⟩
    simp only [hT] at C1 C2
    clear hT
    cases hv1 : valOk ss zm
    · have C5 := Lib.hid (fun V (h : Below w.heap.size w V) => canonical_badk As Am ns cs nm cm ss zm V (hs.up h) (hm.up h) hv1)
      have C6 : Hid (∀ V, Below w.heap.size w V → Calls Try.prog 40 #[.slice As ns cs, .slice An nn cn] V fun e w' => ∃ A n c Z, ∃ E : Int, e = .returned (.tuple #[.slice A n c, .int .i64 E]) ∧ IntsAt w' w'.heap.size A n Z ∧ Below V.heap.size V w') := Lib.hid fun V h => by
        cases hv2 : valOk ss zn
        · exact (canonical_badk As An ns cs nn cn ss zn V (hs.up h) (hn.up h) hv2).mono fun e w' ⟨A, n, c, h1, h2, _, h3⟩ => ⟨A, n, c, _, _, h1, h2, h3⟩
        · exact (canonical_new As An ns cs nn cn ss zn V (hs.up h) (hn.up h) hv2).mono fun e w' ⟨A, n, c, h1, h2, _, _, h3⟩ => ⟨A, n, c, _, _, h1, h2, h3⟩
      clear hv1 hv hq hz hsm0 hs hm hn hsm hB hW2 hc1 hc2
      go_enter Try.func6, Try.ntmps6
      go_wp2_with fail
      rw [HW2.out]
      go_wp2_with (first
        | (go_at_call 16; ((with_reducible refine HS.out.mono ?_); rintro e w' ⟨rfl, rfl⟩; rw [HSM.out]))
        | (go_at_call 40; ((with_reducible refine (C6.out _ HB6.out).mono ?_); rintro e V7 ⟨A4, n4, c4, Z4, E4, rfl, hI4, hB7⟩; have HB7 := Lib.hid (below_then HB6.out hB7); clear hI4 hB7))
        | (go_at_call 40; ((with_reducible refine (C5.out _ HB5.out).mono ?_); rintro e V6 ⟨A3, n3, c3, rfl, hI3, hk3, hB6⟩; have HI1e := Lib.hid (HI1d.out.up hB6); have HI3 := Lib.hid hI3; have HK3 := Lib.hid hk3; have HB6 := Lib.hid (below_then HB5.out hB6); clear hI3 hk3 hB6))
        | (go_at_call 39; ((with_reducible refine (C4.out _ HB4.out).mono ?_); rintro e V5 ⟨rfl, hB5⟩; have HI1d := Lib.hid (HI1c.out.up hB5); have HB5 := Lib.hid (below_then HB4.out hB5); clear hB5))
        | (go_at_call 38; ((with_reducible refine (C3.out _ HB3.out).mono ?_); rintro e V4 ⟨rfl, hB4⟩; have HI1c := Lib.hid (HI1b.out.up hB4); have HB4 := Lib.hid (below_then HB3.out hB4); clear hB4))
        | (go_at_call 24; ((with_reducible refine (same_self A1 A2 n1 c1 n2 c2 T _ _ HI1a.out HI2.out).mono ?_); rintro e V3 ⟨rfl, k3, hV3⟩; have hB3 := below_drewN (Below.refl V2.heap.size V2) k3; rw [← hV3] at hB3; have HI1b := Lib.hid (HI1a.out.up hB3); have HB3 := Lib.hid (below_then HB2.out hB3); clear hB3 hV3))
        | (go_at_call 37; ((with_reducible refine (C2.out _ HB1.out).mono ?_); rintro e V2 ⟨A2, n2, c2, rfl, hI2, _, hB2⟩; have HI1a := Lib.hid (HI1.out.up hB2); have HI2 := Lib.hid hI2; have HB2 := Lib.hid (below_then HB1.out hB2); clear hI2 hB2))
        | (go_at_call 36; ((with_reducible refine (C1.out _ HB0.out).mono ?_); rintro e V1 ⟨A1, n1, c1, rfl, hI1, _, hB1⟩; have HI1 := Lib.hid hI1; have HB1 := Lib.hid (below_then HB0.out hB1); clear hI1 hB1))
        | (go_at_call 35; refine (awake4_any _).mono ?_; rintro e Vz ⟨rfl, hBz⟩; have HBz := Lib.hid (below_then HB7.out hBz); clear hBz))
      go_ret
      exact ⟨rfl, HBz.out⟩
    · have hv2 : valOk ss zn = false := by
        cases h : valOk ss zn
        · rfl
        · exact absurd ⟨hv1, h⟩ hv
      have C5 := Lib.hid (fun V (h : Below w.heap.size w V) => (canonical_new As Am ns cs nm cm ss zm V (hs.up h) (hm.up h) hv1).mono fun _ _ h => h.retk)
      have C6 := Lib.hid (fun V (h : Below w.heap.size w V) => canonical_badk As An ns cs nn cn ss zn V (hs.up h) (hn.up h) hv2)
      clear hv1 hv2 hv hq hz hsm0 hs hm hn hsm hB hW2 hc1 hc2
      go_enter Try.func6, Try.ntmps6
      go_wp2_with fail
      rw [HW2.out]
      go_wp2_with (first
        | (go_at_call 16; ((with_reducible refine HS.out.mono ?_); rintro e w' ⟨rfl, rfl⟩; rw [HSM.out]))
        | (go_at_call 40; ((with_reducible refine (C6.out _ HB6.out).mono ?_); rintro e V7 ⟨A4, n4, c4, rfl, hI4, _, hB7⟩; have HI1f := Lib.hid (HI1e.out.up hB7); have HI3a := Lib.hid (HI3.out.up hB7); have HI4 := Lib.hid hI4; have HB7 := Lib.hid (below_then HB6.out hB7); clear hI4 hB7))
        | (go_at_call 40; ((with_reducible refine (C5.out _ HB5.out).mono ?_); rintro e V6 ⟨A3, n3, c3, rfl, hI3, hk3, hB6⟩; have HI1e := Lib.hid (HI1d.out.up hB6); have HI3 := Lib.hid hI3; have HK3 := Lib.hid hk3; have HB6 := Lib.hid (below_then HB5.out hB6); clear hI3 hk3 hB6))
        | (go_at_call 39; ((with_reducible refine (C4.out _ HB4.out).mono ?_); rintro e V5 ⟨rfl, hB5⟩; have HI1d := Lib.hid (HI1c.out.up hB5); have HB5 := Lib.hid (below_then HB4.out hB5); clear hB5))
        | (go_at_call 38; ((with_reducible refine (C3.out _ HB3.out).mono ?_); rintro e V4 ⟨rfl, hB4⟩; have HI1c := Lib.hid (HI1b.out.up hB4); have HB4 := Lib.hid (below_then HB3.out hB4); clear hB4))
        | (go_at_call 24; ((with_reducible refine (same_self A1 A2 n1 c1 n2 c2 T _ _ HI1a.out HI2.out).mono ?_); rintro e V3 ⟨rfl, k3, hV3⟩; have hB3 := below_drewN (Below.refl V2.heap.size V2) k3; rw [← hV3] at hB3; have HI1b := Lib.hid (HI1a.out.up hB3); have HB3 := Lib.hid (below_then HB2.out hB3); clear hB3 hV3))
        | (go_at_call 37; ((with_reducible refine (C2.out _ HB1.out).mono ?_); rintro e V2 ⟨A2, n2, c2, rfl, hI2, _, hB2⟩; have HI1a := Lib.hid (HI1.out.up hB2); have HI2 := Lib.hid hI2; have HB2 := Lib.hid (below_then HB1.out hB2); clear hI2 hB2))
        | (go_at_call 36; ((with_reducible refine (C1.out _ HB0.out).mono ?_); rintro e V1 ⟨A1, n1, c1, rfl, hI1, _, hB1⟩; have HI1 := Lib.hid hI1; have HB1 := Lib.hid (below_then HB0.out hB1); clear hI1 hB1))
        | (go_at_call 35; refine (awake4_any _).mono ?_; rintro e Vz ⟨rfl, hBz⟩; have HBz := Lib.hid (below_then HB7.out hBz); clear hBz))
      go_ret
      exact ⟨rfl, HBz.out⟩

theorem kd_walk (As Am An : Option Addr) (ns cs nm cm nn cn : Nat) (ss : Sg) (zm zn : List Int) (w : World) (hs : SigAt w w.heap.size As ns ss) (hm : IntsAt w w.heap.size Am nm zm) (hn : IntsAt w w.heap.size An nn zn) (hc1 : nm ≤ cm) (hc2 : cm ≤ 9223372036854775807) :
    Calls Try.prog 6 #[.slice As ns cs, .slice Am nm cm, .slice An nn cn] w fun e w' => e = .returned (.bool true) ∧ Below w.heap.size w w' := by
  cases hsm : smallOk ns [(Am, nm, cm), (An, nn, cn)]
  · exact kd_small As Am An ns cs nm cm nn cn ss zm zn w hs hm hn hc1 hc2 hsm
  · exact kd_main As Am An ns cs nm cm nn cn ss zm zn w hs hm hn hc1 hc2 hsm

end Go.Proofs.Ytpdokmdapjdnoaa

namespace Go.Proofs.Ytpdokmdapjdnoaa
open Go.ChangeShapes Go.WideShapes Go.ChangeAt Go.RowKit Go.Deep

set_option maxRecDepth 100000 in
theorem detaches_lifted (os : Os) (started : os.Started) (H : Type) (enc : TypeId × Value → H) :
    ReturnsInHanded {} Try.checked os 6 .any (Rows.kernelDetachesSpec.pre6 enc Try.prog Try.f6 Rows.kernelDetachesRow.domain false) (Rows.kernelDetachesSpec.post enc Try.prog Try.f6 false true false false) := by
  refine returnsInHanded_of_change (C := Try.checked) own started (by kernel_rfl) Try.func6
    (ChangeSpec.witness6 (enc := enc) (C := Try.checked) false ⟨#[], #[.slice none 0 0, .slice none 0 0, .slice none 0 0], []⟩ 8 (by kernel_rfl) (by kernel_rfl) (by kernel_rfl) (by kernel_rfl)) ?_
  intro W base args ds gs before hval0 hW hcnd _
  have hval : ∀ (j : Nat) t v, Try.f6.params[j]? = some t → args[j]? = some v → Value.okWide Try.prog W .any base t v := hval0
  have hW' := hW
  obtain ⟨p, q, hA0, hV, rfl, hfz, hnd⟩ := hW
  have hA : DataW.TrodAll enc Try.prog W 0 (fun _ => true) true Try.f6.params.toList args.toList ds p := hA0
  rw [Try.params6] at hA hval
  obtain ⟨v0, vs0, d0, ds0, p0, q0, hargs, rfl, rfl, h0, r0⟩ := trodAll_cons hA
  obtain ⟨v1, vs1, d1, ds1, p1, q1, rfl, rfl, rfl, h1, r1⟩ := trodAll_cons r0
  obtain ⟨v2, vs2, d2, ds2, p2, q2, rfl, rfl, rfl, h2, r2⟩ := trodAll_cons r1
  obtain ⟨rfl, rfl, rfl⟩ := trodAll_nil r2
  obtain rfl : args = #[v0, v1, v2] := by cases args; simp_all
  obtain ⟨rfl, rfl⟩ := trodVars_none hV
  obtain ⟨a0, len0, cap0, rfl⟩ := okWide_slice Try.underlying23 (hval 0 23 v0 rfl rfl)
  obtain ⟨a1, len1, cap1, rfl⟩ := okWide_slice Try.underlying25 (hval 1 25 v1 rfl rfl)
  obtain ⟨a2, len2, cap2, rfl⟩ := okWide_slice Try.underlying25 (hval 2 25 v2 rfl rfl)
  have k0 := h0
  have k1 := h1
  have k2 := h2
  have lt0 : ∀ x ∈ p0, x.block < W.heap.size := by obtain ⟨m, hm⟩ := k0; exact DataW.trod_lt m _ _ _ hm
  have lt1 : ∀ x ∈ p1, x.block < W.heap.size := by obtain ⟨m, hm⟩ := k1; exact DataW.trod_lt m _ _ _ hm
  have lt2 : ∀ x ∈ p2, x.block < W.heap.size := by obtain ⟨m, hm⟩ := k2; exact DataW.trod_lt m _ _ _ hm
  obtain ⟨f0, e0⟩ := h0
  obtain ⟨f1, e1⟩ := h1
  obtain ⟨f2, e2⟩ := h2
  obtain ⟨As, ns, cs, ss, es, hs⟩ := read_sign e0
  cases es
  obtain ⟨Ax1, nx1, cx1, zx1, ex1, hx1, hxa1, hxb1, _⟩ := read_ints Try.underlying25 e1
  cases ex1
  obtain ⟨Ax2, nx2, cx2, zx2, ex2, hx2, hxa2, hxb2, _⟩ := read_ints Try.underlying25 e2
  cases ex2
  clear hA0 hval0
  refine (kd_walk _ _ _ _ _ _ _ _ _ ss zx1 zx2 W hs hx1 hx2 hxa1 hxb1).mono fun e W' ⟨he, bel⟩ => ?_
  subst he
  exact ⟨_, rfl, _, _, _, [], _, [], hW', trodAll_mk1 (shut_bool Try.underlying4 _), (trodAll_cons_mk (Below.trod laidOut (by kernel_rfl) (of_decide_eq_true (by kernel_rfl)) k0 bel lt0) (trodAll_cons_mk (Below.trod laidOut (by kernel_rfl) (of_decide_eq_true (by kernel_rfl)) k1 bel lt1) (trodAll_cons_mk (Below.trod laidOut (by kernel_rfl) (of_decide_eq_true (by kernel_rfl)) k2 bel lt2) trodAll_mk0))), rfl, bel.frame _, fun h => by cases h⟩

theorem detaches_holds : Rows.KernelDetachesSaid :=
  OpenClaim.holds_of_wide 6 Try.f6 rfl rfl rfl rfl rfl rfl rfl ⟨rfl, rfl, rfl, rfl, rfl⟩ rfl rfl rfl rfl rfl (by kernel_rfl) Try.func6 (by kernel_rfl)
    (of_decide_eq_true (by kernel_rfl)) (by unfold Func.isWrapper; first | (rw [if_pos (by decide +kernel)]; kernel_rfl) | (rw [if_neg (by decide +kernel)]; exact ⟨rfl, rfl⟩))
    (fun os started H enc _ => detaches_lifted os started H enc)

end Go.Proofs.Ytpdokmdapjdnoaa
