/- The walk of TermParts. -/
import Derived.Test.YtmccdmpemlmkkaaJ6
import Derived.Test.YtmccdmpemlmkkaaO3
import Derived.Test.YtmccdmpemlmkkaaU1
import Derived.Test.YtmccdmpemlmkkaaB7
import Derived.Deep.RegionHeldLaw
namespace Go.Proofs.Ytmccdmpemlmkkaa
open Go.RowKit

theorem prt_ok {ss : Sg} {zs : List Int} (hv : valOk ss zs = true) {a : Nat} (ha : a < zs.length) : valOk ss (prt ss zs a) = true := by
  obtain ⟨h1, h60, hnum, _⟩ := valOk_term hv
  have hP := ((walk_of hv).part a ha).is
  have hl := hP.le
  have h3 := hP.len
  have hm : ∀ z ∈ prt ss zs a, z ∈ zs := fun z hz => by
    have : z ∈ zs.drop a := by rw [hP.split]; exact List.mem_append_left _ hz
    exact List.mem_of_mem_drop this
  simp only [valOk, termOk, Bool.and_eq_true, decide_eq_true_eq, List.all_eq_true, numOk]
  exact ⟨valOk_sig hv, h3, by omega, fun z hz => hnum z (hm z hz), hP.good⟩
theorem partsTo_paths {ss : Sg} {zs x : List Int} (hv : valOk ss zs = true) (hx : x ∈ partsTo ss zs zs.length) : pathsOk ss zs x = true ∧ pathsTo ss zs x zs.length ≠ [] := by
  obtain ⟨i, hi, rfl⟩ := (partsTo_mem ss zs x _).1 hx
  refine ⟨by unfold pathsOk; rw [hv, prt_ok hv hi]; rfl, fun e => ?_⟩
  have : pthI ss zs i ∈ pathsTo ss zs (prt ss zs i) zs.length := by
    unfold pathsTo
    exact List.mem_map.2 ⟨i, List.mem_filter.2 ⟨List.mem_range.2 hi, by simp⟩, rfl⟩
  rw [e] at this
  cases this
theorem partsTo_next {ss : Sg} {zs x y : List Int} {n k : Nat} (h0 : 0 < k) (hy : (partsTo ss zs n)[k - 1]? = some y) (hx : (partsTo ss zs n)[k]? = some x) : cmpL y x = -1 := by
  obtain ⟨a1, rfl⟩ := List.getElem?_eq_some_iff.1 hy
  obtain ⟨a2, rfl⟩ := List.getElem?_eq_some_iff.1 hx
  have h := List.pairwise_iff_getElem.1 (partsTo_ord ss zs n) (k - 1) k a1 a2 (by omega)
  have h' : cmpL (partsTo ss zs n)[k - 1] (partsTo ss zs n)[k] < 0 := h
  have := (cmpL_bd (partsTo ss zs n)[k - 1] (partsTo ss zs n)[k]).1
  omega

set_option maxRecDepth 100000 in
set_option maxHeartbeats 2000000 in
theorem prts_small (As At : Option Addr) (ns cs nt ct : Nat) (w : World) (hsm : smallOk ns [(At, nt, ct)] = false) :
    Calls Try.prog 9 #[.slice As ns cs, .slice At nt ct] w fun e w' => e = .returned (.bool true) ∧ Below w.heap.size w w' := by
  have hs0 : HdsAt (w.alloc (.cells #[.slice At nt ct] 25)) (w.alloc (.cells #[.slice At nt ct] 25)).heap.size (some ⟨w.heap.size, 0, none⟩) 1 [(At, nt, ct)] := HdsAt.of_blk _ (Blk.new w _ _) rfl rfl (by simp)
  have HS := Lib.hid (small_any As _ ns cs 1 1 _ _ _ hs0)
  have HSM := Lib.hid hsm
  clear hs0 hsm
  go_enter Try.func9, Try.ntmps9
  go_wp2_with (first
    | (go_at_call 10; refine HS.out.mono ?_; rintro e w' ⟨rfl, rfl⟩; rw [HSM.out])
    | (go_at_call 11; refine (awake_any _).mono ?_; rintro e w' ⟨rfl, hB'⟩; have HB' := Lib.hid hB'))
  go_ret
  exact ⟨rfl, ((Below.refl _ w).alloc (Nat.le_refl _) _).trans (HB'.out.mono (by simp))⟩

set_option maxRecDepth 100000 in
set_option maxHeartbeats 2000000 in
theorem prts_main (As At : Option Addr) (ns cs nt ct : Nat) (w : World) (hsm : smallOk ns [(At, nt, ct)] = true)
    (pp : List (List Int)) (er : Int) (hpl : pp.length ≤ 60) (hC1 : ∀ V, Below w.heap.size w V → Calls Try.prog 36 #[.slice As ns cs, .slice At nt ct] V (RetTs V pp er))
    (hC2 : ∀ V, Below w.heap.size w V → Calls Try.prog 37 #[.slice As ns cs, .slice At nt ct] V (RetTs V pp er))
    (hC3 : ∀ V (A : Option Addr) n c x, Below w.heap.size w V → IntsAt V V.heap.size A n x → x ∈ pp → ∃ qq, qq ≠ [] ∧ Calls Try.prog 33 #[.slice As ns cs, .slice At nt ct, .slice A n c] V (RetTs V qq 0))
    (hO : ∀ k x y, 0 < k → pp[k - 1]? = some y → pp[k]? = some x → cmpL y x = -1) :
    Calls Try.prog 9 #[.slice As ns cs, .slice At nt ct] w fun e w' => e = .returned (.bool true) ∧ Below w.heap.size w w' := by
  have hs0 : HdsAt (w.alloc (.cells #[.slice At nt ct] 25)) (w.alloc (.cells #[.slice At nt ct] 25)).heap.size (some ⟨w.heap.size, 0, none⟩) 1 [(At, nt, ct)] := HdsAt.of_blk _ (Blk.new w _ _) rfl rfl (by simp)
  have HS := Lib.hid (small_any As _ ns cs 1 1 _ _ _ hs0)
  have HSM := Lib.hid hsm
  have HB0 := Lib.hid (show Below w.heap.size w (w.alloc (.cells #[.slice At nt ct] 25)) from (Below.refl _ w).alloc (Nat.le_refl _) _)
  have C1 := Lib.hid hC1
  have C2 := Lib.hid hC2
  have C3 := Lib.hid hC3
  have HO := Lib.hid hO
  have HPL := Lib.hid hpl
  have hne : (er != er) = false := by simp
  clear hs0 hsm hC1 hC2 hC3 hO hpl
  go_enter Try.func9, Try.ntmps9
  go_wp2_with (first
    | (go_at_call 10; refine HS.out.mono ?_; rintro e w' ⟨rfl, rfl⟩; rw [HSM.out])
    | (go_at_call 36; ((with_reducible refine (C1.out _ HB0.out).mono ?_); rintro e V1 ⟨A1, n1, d1, l1, rfl, hI1, hB1⟩; have HI1 := Lib.hid hI1; have HB1 := Lib.hid (below_then HB0.out hB1); clear hI1 hB1))
    | (go_at_call 37; ((with_reducible refine (C2.out _ HB1.out).mono ?_); rintro e V2 ⟨A2, n2, d2, l2, rfl, hI2, hB2⟩; have HI12 := Lib.hid (HI1.out.up hB2); have HI2 := Lib.hid hI2; have HB2 := Lib.hid (below_then HB1.out hB2); clear hI2 hB2))
    | (go_at_call 25; ((with_reducible refine (sameTerms_self _ _ _ _ _ _ _ _ pp _ _ HI12.out HI2.out (Nat.le_trans HPL.out (by omega))).mono ?_); rintro e V3 ⟨rfl, j3, rfl⟩; have HB3 := Lib.hid (below_drewN HB2.out j3); have HI13 := Lib.hid (HI12.out.up (below_drewN (Below.refl _ _) j3)))))
  have hn1 : n1 ≤ 60 := by have h1 := HI13.out.len; have h2 := HPL.out; omega
  obtain ⟨W3, hW3⟩ : ∃ W3, V2.drewN j3 = W3 := ⟨_, rfl⟩
  rw [hW3] at HB3 HI13
  rw [hW3]
  clear hW3
  go_loopw [9] (fun i wr => ∃ k : Nat, k ≤ n1 ∧ i = .int .i64 k ∧ Below W3.heap.size W3 wr) (fun i _ => n1 - (intOf i).toNat)
  case atStart => exact ⟨0, Nat.zero_le _, rfl, Below.refl _ _⟩
  case round =>
    obtain ⟨k, hk, rfl, hB⟩ := hrel
    have HBR := Lib.hid hB
    have HBw := Lib.hid (below_then HB3.out hB)
    by_cases hlt : k < n1
    · obtain ⟨b, off, A', n', c', x, rfl, hb, q1, q2, hI⟩ := HI13.out.cellAt hlt
      have q3 := (hB.cell (p := ⟨b, off + k, none⟩) hb).trans q1
      have hI' := hI.up hB
      obtain ⟨qq, hq0, hq1⟩ := C3.out wr A' n' c' x HBw.out hI' (List.mem_of_getElem? q2)
      have C5 := Lib.hid hq1
      have HQ0 := Lib.hid hq0
      have HKC := Lib.hid (fun V (hV : Below wr.heap.size wr V) => show V.cell? ⟨b, off + k, none⟩ = some (.slice A' n' c') from (hV.cell (p := ⟨b, off + k, none⟩) (Nat.lt_of_lt_of_le hb hB.size)).trans q3)
      have HIC := Lib.hid (fun V (hV : Below wr.heap.size wr V) => hI'.up hV)
      have hk0 : (0 : Int) ≤ (k : Int) := by omega
      have hk1 : (k : Int) < (n1 : Int) := by omega
      have HX := Lib.hid q2
      clear q1 q2 hI hI' hq0 hq1
      rcases Nat.eq_zero_or_pos k with hz | hz
      · have hz1 : ¬ (0 : Int) < (k : Int) := by omega
        clear hB hz
        go_wp2_with (go_at_call 33; ((with_reducible refine C5.out.mono ?_); rintro e V4 ⟨A4, n4, d4, l4, rfl, hI4, hB4⟩; have HI4 := Lib.hid hI4; have HB4 := Lib.hid (HBR.out.trans (hB4.mono HBR.out.size)); have q4 := HKC.out _ hB4; clear hI4 hB4))
        have hn4 : ¬ (n4 : Int) = 0 := by
          have h1 := HI4.out.len
          have h2 : 0 < qq.length := List.length_pos_iff.2 HQ0.out
          omega
        have hq1 : ((n4 : Int) == 0) = false := by simp; omega
        have hq2 : (n4 == 0) = false := by simp; omega
        go_wp2_with fail
        have hz2 : ¬ 0 < k := by omega
        go_quiet (fail)
        go_wp2
        go_roundw
        case rel => exact ⟨k + 1, by omega, by go_num, below_drewN HB4.out _⟩
        case measure => simp [intOf]; omega
      · obtain ⟨b', off', A0, n0, c0, y, e0, _, p1, p2, J⟩ := HI13.out.cellAt (show k - 1 < n1 by omega)
        cases e0
        have p3 := (hB.cell (p := ⟨b, off + (k - 1), none⟩) hb).trans p1
        have J' := J.up hB
        have HKD := Lib.hid (fun V (hV : Below wr.heap.size wr V) => show V.cell? ⟨b, off + (k - 1), none⟩ = some (.slice A0 n0 c0) from (hV.cell (p := ⟨b, off + (k - 1), none⟩) (Nat.lt_of_lt_of_le hb hB.size)).trans p3)
        have HID := Lib.hid (fun V (hV : Below wr.heap.size wr V) => J'.up hV)
        have hcm := HO.out k x y hz p2 HX.out
        have CMP := Lib.hid (fun V (hV : Below wr.heap.size wr V) c c2 j => show Calls Try.prog 38 #[.slice A0 n0 c, .slice A' n' c2] (V.drewN j) fun e w' => e = .returned (.int .i64 (-1)) ∧ ∃ m, w' = V.drewN m by
          have := compare_any A0 A' n0 c n' c2 y x (V.drewN j) _ ((HID.out V hV).keep fun _ _ => rfl) ((HIC.out V hV).keep fun _ _ => rfl)
          rw [hcm] at this
          exact this.mono fun _ _ ⟨h1, h2⟩ => ⟨h1, j, h2.symm⟩)
        have hki : ((k : Int) - 1) = ((k - 1 : Nat) : Int) := by omega
        have hj0 : (0 : Int) ≤ ((k - 1 : Nat) : Int) := by omega
        have hj1 : ((k - 1 : Nat) : Int) < (n1 : Int) := by omega
        have hz1 : (0 : Int) < (k : Int) := by omega
        clear hB hz p1 p2 J J' hcm
        go_wp2_with (go_at_call 33; ((with_reducible refine C5.out.mono ?_); rintro e V4 ⟨A4, n4, d4, l4, rfl, hI4, hB4⟩; have HI4 := Lib.hid hI4; have HB4 := Lib.hid (HBR.out.trans (hB4.mono HBR.out.size)); have HW4 := Lib.hid hB4; have q4 := HKC.out _ hB4; have p4 := HKD.out _ hB4; clear hI4 hB4))
        have hn4 : ¬ (n4 : Int) = 0 := by
          have h1 := HI4.out.len
          have h2 : 0 < qq.length := List.length_pos_iff.2 HQ0.out
          omega
        have hq1 : ((n4 : Int) == 0) = false := by simp; omega
        have hq2 : (n4 == 0) = false := by simp; omega
        have CMQ := Lib.hid (CMP.out V4 HW4.out)
        go_wp2_with fail
        have hz2 : 0 < k := by omega
        go_quiet ((go_at_call 38; with_reducible exact CMQ.out _ _ _))
        go_wp2
        go_roundw
        case rel => exact ⟨k + 1, by omega, by go_num, below_drewN HB4.out _⟩
        case measure => simp [intOf]; omega
    · obtain rfl : k = n1 := by omega
      clear hB
      go_wp2_with (go_at_call 11; refine (awake_any _).mono ?_; rintro e V9 ⟨rfl, hB9⟩; have HB9 := Lib.hid (below_then HBw.out hB9))
      go_ret
      exact ⟨rfl, HB9.out⟩

theorem prts_walk_law (As At : Option Addr) (ns cs nt ct : Nat) (ss : Sg) (zs : List Int) (w : World) (hs : SigAt w w.heap.size As ns ss) (ht : IntsAt w w.heap.size At nt zs) (hc1 : nt ≤ ct) (hc2 : ct ≤ 9223372036854775807) :
    Calls Try.prog 9 #[.slice As ns cs, .slice At nt ct] w fun e w' => e = .returned (.bool true) ∧ Below w.heap.size w w' := by
  cases hsm : smallOk ns [(At, nt, ct)]
  · exact prts_small As At ns cs nt ct w hsm
  · cases hv : valOk ss zs
    · exact prts_main As At ns cs nt ct w hsm [] 1 (by simp) (fun V hb => parts_bad As At ns cs nt ct ss zs V (hs.up hb) (ht.up hb) hv) (fun V hb => refParts_bad As At ns cs nt ct ss zs V (hs.up hb) (ht.up hb) hv) (fun V A n c x _ _ hx => by simp at hx) (fun k x y _ _ h => by simp at h)
    · have h60 := (valOk_term hv).2.1
      refine prts_main As At ns cs nt ct w hsm (partsTo ss zs zs.length) 0 (by have := partsTo_len ss zs zs.length; omega) (fun V hb => parts_ok As At ns cs nt ct ss zs V (hs.up hb) (ht.up hb) hc1 hc2 hv) (fun V hb => refParts_ok As At ns cs nt ct ss zs V (hs.up hb) (ht.up hb) hc1 hc2 hv) (fun V A n c x hb hx hm => ?_) (fun k x y h0 hy hx => partsTo_next h0 hy hx)
      obtain ⟨h1, h2⟩ := partsTo_paths hv hm
      exact ⟨_, h2, paths_ok As At A ns cs nt ct n c ss zs x V (hs.up hb) (ht.up hb) hx hc1 hc2 h1⟩

end Go.Proofs.Ytmccdmpemlmkkaa
