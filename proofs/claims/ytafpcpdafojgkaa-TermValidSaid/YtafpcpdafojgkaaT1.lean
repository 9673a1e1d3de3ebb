/- The walk of TermValid. -/
import Derived.Test.YtafpcpdafojgkaaH4
import Derived.Test.YtafpcpdafojgkaaH6
import Derived.Test.YtafpcpdafojgkaaH7
import Derived.Test.YtafpcpdafojgkaaG1
import Derived.Test.YtafpcpdafojgkaaU1
import Derived.Test.YtafpcpdafojgkaaO3
import Derived.Test.YtafpcpdafojgkaaF2
namespace Go.Proofs.Ytafpcpdafojgkaa
open Go.RowKit

theorem sameInts_self (A A2 : Option Addr) (n c n2 c2 : Nat) (xs : List Int) (w : World) (B : Nat) (hx : IntsAt w B A n xs) (hy : IntsAt w B A2 n2 xs) :
    Calls Try.prog 24 #[.slice A n c, .slice A2 n2 c2] w fun e w' => e = .returned (.bool true) ∧ ∃ k, w' = w.drewN k := by
  have := sameInts_any A A2 n c n2 c2 xs xs w B hx hy
  simpa using this

/-- What a call says behind the beginning: a value and what lay below. -/
theorem then_b {w V V' : World} (hb : Below w.heap.size w V) (h : Below V.heap.size V V') : Below w.heap.size w V' := hb.trans (h.mono hb.size)

set_option maxRecDepth 100000 in
set_option maxHeartbeats 2000000 in
theorem val_small (As A : Option Addr) (ns cs n c : Nat) (w : World) (hsm : smallOk ns [(A, n, c)] = false) :
    Calls Try.prog 3 #[.slice As ns cs, .slice A n c] w fun e w' => e = .returned (.bool true) ∧ Below w.heap.size w w' := by
  have hs0 : HdsAt (w.alloc (.cells #[.slice A n c] 25)) (w.alloc (.cells #[.slice A n c] 25)).heap.size (some ⟨w.heap.size, 0, none⟩) 1 [(A, n, c)] := HdsAt.of_blk _ (Blk.new w _ _) rfl rfl (by simp)
  have HS := Lib.hid (small_any As _ ns cs 1 1 _ _ _ hs0)
  have HSM := Lib.hid hsm
  clear hs0 hsm
  go_enter Try.func3, Try.ntmps3
  go_wp2_with (first
    | (go_at_call 14; refine HS.out.mono ?_; rintro e w' ⟨rfl, rfl⟩; rw [HSM.out])
    | (go_at_call 15; refine (awake_any _).mono ?_; rintro e w' ⟨rfl, hB'⟩; have HB' := Lib.hid hB'))
  go_ret
  exact ⟨rfl, ((Below.refl _ w).alloc (Nat.le_refl _) _).trans (HB'.out.mono (by simp))⟩

set_option maxRecDepth 100000 in
set_option maxHeartbeats 2000000 in
theorem val_bad (As A : Option Addr) (ns cs n c : Nat) (ss : Sg) (zs : List Int) (w : World) (hs : SigAt w w.heap.size As ns ss) (ht : IntsAt w w.heap.size A n zs) (hsm : smallOk ns [(A, n, c)] = true) (hv : valOk ss zs = false) :
    Calls Try.prog 3 #[.slice As ns cs, .slice A n c] w fun e w' => e = .returned (.bool true) ∧ Below w.heap.size w w' := by
  have hs0 : HdsAt (w.alloc (.cells #[.slice A n c] 25)) (w.alloc (.cells #[.slice A n c] 25)).heap.size (some ⟨w.heap.size, 0, none⟩) 1 [(A, n, c)] := HdsAt.of_blk _ (Blk.new w _ _) rfl rfl (by simp)
  have HS := Lib.hid (small_any As _ ns cs 1 1 _ _ _ hs0)
  have HSM := Lib.hid hsm
  have HB0 := Lib.hid (show Below w.heap.size w (w.alloc (.cells #[.slice A n c] 25)) from (Below.refl _ w).alloc (Nat.le_refl _) _)
  have C1 := Lib.hid (fun V (hb : Below w.heap.size w V) => validSign_any As ns cs ss V (hs.up hb))
  have C2 := Lib.hid (fun V (hb : Below w.heap.size w V) => refSign_any As ns cs ss V _ (hs.up hb))
  have C3 := Lib.hid (fun V (hb : Below w.heap.size w V) => valid_any As A ns cs n c ss zs V (hs.up hb) (ht.up hb))
  have C4 := Lib.hid (fun V (hb : Below w.heap.size w V) => refValid_any As A ns cs n c ss zs V _ (hs.up hb) (ht.up hb))
  have C5 := Lib.hid (fun V (hb : Below w.heap.size w V) => depth_bad As A ns cs n c ss zs V (hs.up hb) (ht.up hb) hv)
  have C6 := Lib.hid (fun V (hb : Below w.heap.size w V) => refDepth_bad As A ns cs n c ss zs V (hs.up hb) (ht.up hb) hv)
  have C7 := Lib.hid (fun V (hb : Below w.heap.size w V) => vars_bad As A ns cs n c ss zs V (hs.up hb) (ht.up hb) hv)
  have C8 := Lib.hid (fun V (hb : Below w.heap.size w V) => refVars_bad As A ns cs n c ss zs V (hs.up hb) (ht.up hb) hv)
  have C9 := Lib.hid (fun V (hb : Below w.heap.size w V) => counts_bad As A ns cs n c ss zs V (hs.up hb) (ht.up hb) hv)
  have Ca := Lib.hid (fun V (hb : Below w.heap.size w V) => refCounts_bad As A ns cs n c ss zs V (hs.up hb) (ht.up hb) hv)
  simp only [hv] at C3 C4
  obtain ⟨sb, hsb⟩ : ∃ sb, sigOk ss = sb := ⟨_, rfl⟩
  simp only [hsb] at C1 C2
  have hne : (sb != sb) = false := by simp
  clear hs0 hsm hs ht hv hsb
  go_enter Try.func3, Try.ntmps3
  go_wp2_with (first
    | (go_at_call 14; refine HS.out.mono ?_; rintro e w' ⟨rfl, rfl⟩; rw [HSM.out])
    | (go_at_call 16; ((with_reducible refine (C1.out _ HB0.out).mono ?_); rintro e V1 ⟨rfl, hB1⟩; have HB1 := Lib.hid (then_b HB0.out hB1); clear hB1))
    | (go_at_call 17; ((with_reducible refine (C2.out _ HB1.out).mono ?_); rintro e V2 ⟨rfl, j2, rfl⟩; have HB2 := Lib.hid (below_drewN HB1.out j2)))
    | (go_at_call 18; ((with_reducible refine (C3.out _ HB2.out).mono ?_); rintro e V3 ⟨rfl, hB3⟩; have HB3 := Lib.hid (then_b HB2.out hB3); clear hB3))
    | (go_at_call 19; ((with_reducible refine (C4.out _ HB3.out).mono ?_); rintro e V4 ⟨rfl, j4, rfl⟩; have HB4 := Lib.hid (below_drewN HB3.out j4)))
    | (go_at_call 20; ((with_reducible refine (C5.out _ HB4.out).mono ?_); rintro e V5 ⟨rfl, hB5⟩; have HB5 := Lib.hid (then_b HB4.out hB5); clear hB5))
    | (go_at_call 21; ((with_reducible refine (C6.out _ HB5.out).mono ?_); rintro e V6 ⟨rfl, hB6⟩; have HB6 := Lib.hid (then_b HB5.out hB6); clear hB6))
    | (go_at_call 22; ((with_reducible refine (C7.out _ HB6.out).mono ?_); rintro e V7 ⟨A7, n7, c7, rfl, hI7, hB7⟩; have HI7 := Lib.hid hI7; have HB7 := Lib.hid (then_b HB6.out hB7); clear hI7 hB7))
    | (go_at_call 23; ((with_reducible refine (C8.out _ HB7.out).mono ?_); rintro e V8 ⟨rfl, hB8⟩; have HI8 := Lib.hid (HI7.out.up hB8); have HB8 := Lib.hid (then_b HB7.out hB8); clear hB8))
    | (go_at_call 24; ((with_reducible refine (sameInts_self _ _ _ _ _ _ [] _ _ HI8.out (IntsAt.nil _ _ 0)).mono ?_); rintro e V9 ⟨rfl, j9, rfl⟩; have HB9 := Lib.hid (below_drewN HB8.out j9); clear HI8))
    | (go_at_call 25; ((with_reducible refine (C9.out _ HB9.out).mono ?_); rintro e Va ⟨Aa, na, ca, rfl, hIa, hBa⟩; have HIa := Lib.hid hIa; have HBa := Lib.hid (then_b HB9.out hBa); clear hIa hBa))
    | (go_at_call 26; ((with_reducible refine (Ca.out _ HBa.out).mono ?_); rintro e Vb ⟨Ab, nb, cb, rfl, hIb, hBb⟩; have HIab := Lib.hid (HIa.out.up hBb); have HIb := Lib.hid hIb; have HBb := Lib.hid (then_b HBa.out hBb); clear hIb hBb))
    | (go_at_call 24; ((with_reducible refine (sameInts_self _ _ _ _ _ _ [] _ _ HIab.out HIb.out).mono ?_); rintro e Vc ⟨rfl, jc, rfl⟩; have HBc := Lib.hid (below_drewN HBb.out jc)))
    | (go_at_call 15; refine (awake_any _).mono ?_; rintro e Vd ⟨rfl, hBd⟩; have HBd := Lib.hid (then_b HBc.out hBd)))
  go_ret
  exact ⟨rfl, HBd.out⟩

set_option maxRecDepth 100000 in
set_option maxHeartbeats 2000000 in
theorem val_ok (As A : Option Addr) (ns cs n c : Nat) (ss : Sg) (zs : List Int) (w : World) (hs : SigAt w w.heap.size As ns ss) (ht : IntsAt w w.heap.size A n zs) (hsm : smallOk ns [(A, n, c)] = true) (hc1 : n ≤ c) (hc2 : c ≤ 9223372036854775807) (hv : valOk ss zs = true) :
    Calls Try.prog 3 #[.slice As ns cs, .slice A n c] w fun e w' => e = .returned (.bool true) ∧ Below w.heap.size w w' := by
  have hs0 : HdsAt (w.alloc (.cells #[.slice A n c] 25)) (w.alloc (.cells #[.slice A n c] 25)).heap.size (some ⟨w.heap.size, 0, none⟩) 1 [(A, n, c)] := HdsAt.of_blk _ (Blk.new w _ _) rfl rfl (by simp)
  have HS := Lib.hid (small_any As _ ns cs 1 1 _ _ _ hs0)
  have HSM := Lib.hid hsm
  have HB0 := Lib.hid (show Below w.heap.size w (w.alloc (.cells #[.slice A n c] 25)) from (Below.refl _ w).alloc (Nat.le_refl _) _)
  have C1 := Lib.hid (fun V (hb : Below w.heap.size w V) => validSign_any As ns cs ss V (hs.up hb))
  have C2 := Lib.hid (fun V (hb : Below w.heap.size w V) => refSign_any As ns cs ss V _ (hs.up hb))
  have C3 := Lib.hid (fun V (hb : Below w.heap.size w V) => valid_any As A ns cs n c ss zs V (hs.up hb) (ht.up hb))
  have C4 := Lib.hid (fun V (hb : Below w.heap.size w V) => refValid_any As A ns cs n c ss zs V _ (hs.up hb) (ht.up hb))
  obtain ⟨h1, h60, hnum, _⟩ := valOk_term hv
  have h12 := sigOk_len (valOk_sig hv)
  have hls := hs.len
  have hlt := ht.len
  have hvl : (vof (seenTo zs n)).length ≤ 1000000 := by
    rw [vof_seen_len]
    have := seenTo_le zs n
    omega
  have hcs := counts_sum ns zs (by rw [hls]; exact fun z hz => (hnum z hz).2) zs.length (Nat.le_refl _)
  have hcl := cntL_len ns zs zs.length
  have hsm2 := sum_le_mul (cntL ns zs zs.length) 1000 (by omega) (fun x hx => by
    unfold cntL at hx
    obtain ⟨j, _, rfl⟩ := List.mem_map.1 hx
    have := cnt_le zs zs.length j
    omega)
  have hss : ∀ k y, (cntL ns zs zs.length)[k]? = some y → sumTo (cntL ns zs zs.length) (k + 1) = sumTo (cntL ns zs zs.length) k + y := by
    intro k y hy
    obtain ⟨hk, rfl⟩ := List.getElem?_eq_some_iff.1 hy
    exact sumTo_succ hk
  have hns' : ∀ k y, zs[k]? = some y → negTo zs (k + 1) = negTo zs k + if y < 0 then 1 else 0 := by
    intro k y hy
    obtain ⟨hk, rfl⟩ := List.getElem?_eq_some_iff.1 hy
    exact negTo_succ hk
  have hsa : sumTo (cntL ns zs zs.length) ns = (cntL ns zs zs.length).sum := by
    unfold sumTo
    rw [List.take_of_length_le (by omega)]
  have C5 := Lib.hid (fun V (hb : Below w.heap.size w V) => depth_ok As A ns cs n c ss zs V (hs.up hb) (ht.up hb) hc1 hc2 hv)
  have C6 := Lib.hid (fun V (hb : Below w.heap.size w V) => refDepth_ok As A ns cs n c ss zs V (hs.up hb) (ht.up hb) hv)
  have C7 := Lib.hid (fun V (hb : Below w.heap.size w V) => vars_ok As A ns cs n c ss zs V (hs.up hb) (ht.up hb) hv)
  have C8 := Lib.hid (fun V (hb : Below w.heap.size w V) => (refVars_ok As A ns cs n c ss zs V (hs.up hb) (ht.up hb) hv).mono (R' := RetT V (vof (seenTo zs n)) 0) (by
    rintro e V' ⟨v, rfl, ho, hB⟩
    obtain ⟨A', c', rfl, hI⟩ := row_ints ho hvl
    exact ⟨A', _, c', rfl, hI, hB⟩))
  have C9 := Lib.hid (fun V (hb : Below w.heap.size w V) => counts_ok As A ns cs n c ss zs V (hs.up hb) (ht.up hb) hv)
  have Ca := Lib.hid (fun V (hb : Below w.heap.size w V) => refCounts_ok As A ns cs n c ss zs V (hs.up hb) (ht.up hb) hv)
  have HTT := Lib.hid (fun V (hb : Below w.heap.size w V) => ht.up hb)
  have HNS := Lib.hid hns'
  have HNL := Lib.hid (fun k => negTo_le zs k)
  have HN0 := Lib.hid (negTo_zero zs)
  obtain ⟨dn, hdn⟩ : ∃ dn, depthN ss zs = dn := ⟨_, rfl⟩
  simp only [hdn] at C5 C6
  obtain ⟨vs, hvs⟩ : ∃ vs, vof (seenTo zs n) = vs := ⟨_, rfl⟩
  simp only [hvs] at C7 C8
  obtain ⟨cl, hcl'⟩ : ∃ cl, cntL ns zs zs.length = cl := ⟨_, rfl⟩
  simp only [hcl'] at C9 Ca hcs hcl hsm2 hss hsa
  have HCS := Lib.hid hcs
  have HCL := Lib.hid hcl
  have HSM2 := Lib.hid hsm2
  have HSS := Lib.hid hss
  have HSA := Lib.hid hsa
  have HLT := Lib.hid hlt
  rw [← hls] at h12
  rw [← hlt] at h1 h60
  obtain ⟨nv, hnv⟩ : ∃ nv : Nat → Nat, negTo zs = nv := ⟨_, rfl⟩
  obtain ⟨sv, hsv⟩ : ∃ sv : Nat → Int, sumTo cl = sv := ⟨_, rfl⟩
  simp only [hnv, hsv] at HCS HSM2 HSS HSA HNS HNL HN0
  have HS0 := Lib.hid (show sv 0 = 0 by rw [← hsv]; rfl)
  simp only [hv] at C3 C4
  obtain ⟨sb, hsb⟩ : ∃ sb, sigOk ss = sb := ⟨_, rfl⟩
  simp only [hsb] at C1 C2
  have hne : (sb != sb) = false := by simp
  clear hs0 hsm hs ht hv hsb hnum hvl hcs hcl hsm2 hss hsa hns' hdn hvs hcl' hnv hsv hls hlt
  go_enter Try.func3, Try.ntmps3
  go_wp2_with (first
    | (go_at_call 14; refine HS.out.mono ?_; rintro e w' ⟨rfl, rfl⟩; rw [HSM.out])
    | (go_at_call 16; ((with_reducible refine (C1.out _ HB0.out).mono ?_); rintro e V1 ⟨rfl, hB1⟩; have HB1 := Lib.hid (then_b HB0.out hB1); clear hB1))
    | (go_at_call 17; ((with_reducible refine (C2.out _ HB1.out).mono ?_); rintro e V2 ⟨rfl, j2, rfl⟩; have HB2 := Lib.hid (below_drewN HB1.out j2)))
    | (go_at_call 18; ((with_reducible refine (C3.out _ HB2.out).mono ?_); rintro e V3 ⟨rfl, hB3⟩; have HB3 := Lib.hid (then_b HB2.out hB3); clear hB3))
    | (go_at_call 19; ((with_reducible refine (C4.out _ HB3.out).mono ?_); rintro e V4 ⟨rfl, j4, rfl⟩; have HB4 := Lib.hid (below_drewN HB3.out j4)))
    | (go_at_call 20; ((with_reducible refine (C5.out _ HB4.out).mono ?_); rintro e V5 ⟨rfl, hB5⟩; have HB5 := Lib.hid (then_b HB4.out hB5); clear hB5))
    | (go_at_call 21; ((with_reducible refine (C6.out _ HB5.out).mono ?_); rintro e V6 ⟨rfl, hB6⟩; have HB6 := Lib.hid (then_b HB5.out hB6); clear hB6))
    | (go_at_call 22; ((with_reducible refine (C7.out _ HB6.out).mono ?_); rintro e V7 ⟨A7, n7, c7, rfl, hI7, hB7⟩; have HI7 := Lib.hid hI7; have HB7 := Lib.hid (then_b HB6.out hB7); clear hI7 hB7))
    | (go_at_call 23; ((with_reducible refine (C8.out _ HB7.out).mono ?_); rintro e V8 ⟨A8, n8, c8, rfl, hJ8, hB8⟩; have HI8 := Lib.hid (HI7.out.up hB8); have HJ8 := Lib.hid hJ8; have HB8 := Lib.hid (then_b HB7.out hB8); clear hJ8 hB8))
    | (go_at_call 24; ((with_reducible refine (sameInts_self _ _ _ _ _ _ vs _ _ HI8.out HJ8.out).mono ?_); rintro e V9 ⟨rfl, j9, rfl⟩; have HB9 := Lib.hid (below_drewN HB8.out j9); clear HI8))
    | (go_at_call 25; ((with_reducible refine (C9.out _ HB9.out).mono ?_); rintro e Va ⟨Aa, na, ca, rfl, hIa, hBa⟩; have HIa := Lib.hid hIa; have HBa := Lib.hid (then_b HB9.out hBa); clear hIa hBa))
    | (go_at_call 26; ((with_reducible refine (Ca.out _ HBa.out).mono ?_); rintro e Vb ⟨Ab, nb, cb, rfl, hIb, hBb⟩; have HIab := Lib.hid (HIa.out.up hBb); have HIb := Lib.hid hIb; have HBb := Lib.hid (then_b HBa.out hBb); clear hIb hBb))
    | (go_at_call 24; ((with_reducible refine (sameInts_self _ _ _ _ _ _ cl _ _ HIab.out HIb.out).mono ?_); rintro e Vc ⟨rfl, jc, rfl⟩; have HBc := Lib.hid (below_drewN HBb.out jc); have HIc := Lib.hid (HIab.out.drewN' jc))))
  have hna := HIc.out.len
  rw [HCL.out] at hna
  subst hna
  have HTV := Lib.hid (HTT.out _ HBc.out)
  go_loop [13, 14] (fun s i => ∃ k : Nat, k ≤ na ∧ i = .int .i64 k ∧ s = .int .i64 (sv k)) (fun _ i => na - (intOf i).toNat)
  case atStart => exact ⟨0, Nat.zero_le _, rfl, by rw [HS0.out]⟩
  case round =>
    obtain ⟨k, hk, rfl, rfl⟩ := hrel
    by_cases hlt : k < na
    · obtain ⟨b, off, y, rfl, q1, k1, e1⟩ := HIc.out.cellAt hlt
      have hb0 := HSM2.out k
      have hb1 := HSM2.out (k + 1)
      have hs1 := HSS.out k y (by rw [List.getElem?_eq_getElem k1, e1])
      have hk0 : (0 : Int) ≤ (k : Int) := by omega
      have hk1 : (k : Int) < (na : Int) := by omega
      obtain ⟨s, hsk⟩ : ∃ s, sv k = s := ⟨_, rfl⟩
      rw [hsk] at hb0 hs1
      rw [hs1] at hb1
      rw [hsk]
      have H := Lib.hid hs1
      clear hs1 e1 hsk
      go_wp2
      go_round
      case rel => exact ⟨k + 1, by omega, by go_num, by rw [H.out]⟩
      case measure => simp [intOf]; omega
    · obtain rfl : k = na := by omega
      have hb0 := HSM2.out k
      rw [HSA.out] at hb0
      rw [HSA.out]
      obtain ⟨S, hS⟩ : ∃ S, cl.sum = S := ⟨_, rfl⟩
      rw [hS] at hb0 HCS
      rw [hS]
      clear hS
      go_wp2
      go_loop [13, 15] (fun s i => ∃ j : Nat, j ≤ n ∧ i = .int .i64 j ∧ s = .int .i64 (S + (nv j : Nat))) (fun _ i => n - (intOf i).toNat)
      case atStart => exact ⟨0, Nat.zero_le _, rfl, by rw [HN0.out]; go_num⟩
      case round =>
        obtain ⟨j, hj, rfl, rfl⟩ := hrel
        have hnl := HNL.out j
        by_cases hlt2 : j < n
        · obtain ⟨b2, off2, y, rfl, q2, k2, e2⟩ := HTV.out.cellAt hlt2
          have hs2 := HNS.out j y (by rw [List.getElem?_eq_getElem k2, e2])
          have hj0 : (0 : Int) ≤ (j : Int) := by omega
          have hj1 : (j : Int) < (n : Int) := by omega
          obtain ⟨m, hm⟩ : ∃ m, nv j = m := ⟨_, rfl⟩
          rw [hm] at hs2 hnl
          rw [hm]
          by_cases hneg : y < 0
          · rw [if_pos hneg] at hs2
            have H := Lib.hid hs2
            clear hs2 e2 hm
            go_wp2
            go_round
            case rel => exact ⟨j + 1, by omega, by go_num, by rw [H.out]; go_num⟩
            case measure => simp [intOf]; omega
          · rw [if_neg hneg] at hs2
            have H := Lib.hid hs2
            clear hs2 e2 hm
            go_wp2
            go_round
            case rel => exact ⟨j + 1, by omega, by go_num, by rw [H.out]; go_num⟩
            case measure => simp [intOf]; omega
        · obtain rfl : j = n := by omega
          have hall := HCS.out
          rw [← HLT.out] at hall
          have heq : (S + (nv j : Nat) == (j : Int)) = true := by simp; exact hall
          go_wp2_with (go_at_call 15; refine (awake_any _).mono ?_; rintro e Vd ⟨rfl, hBd⟩; have HBd := Lib.hid (then_b HBc.out hBd))
          go_ret
          exact ⟨rfl, HBd.out⟩

theorem val_walk (As A : Option Addr) (ns cs n c : Nat) (ss : Sg) (zs : List Int) (w : World) (hs : SigAt w w.heap.size As ns ss) (ht : IntsAt w w.heap.size A n zs) (hc1 : n ≤ c) (hc2 : c ≤ 9223372036854775807) :
    Calls Try.prog 3 #[.slice As ns cs, .slice A n c] w fun e w' => e = .returned (.bool true) ∧ Below w.heap.size w w' := by
  cases hsm : smallOk ns [(A, n, c)]
  · exact val_small As A ns cs n c w hsm
  · cases hv : valOk ss zs
    · exact val_bad As A ns cs n c ss zs w hs ht hsm hv
    · exact val_ok As A ns cs n c ss zs w hs ht hsm hc1 hc2 hv

end Go.Proofs.Ytafpcpdafojgkaa
