/- The walk of TermArgs. -/
import Derived.Test.YtafpcpdafojgkaaB7
import Derived.Test.YtafpcpdafojgkaaB2
namespace Go.Proofs.Ytafpcpdafojgkaa
open Go.RowKit

set_option maxRecDepth 100000 in
set_option maxHeartbeats 2000000 in
theorem arg_small (As A : Option Addr) (ns cs n c : Nat) (w : World) (hsm : smallOk ns [(A, n, c)] = false) :
    Calls Try.prog 4 #[.slice As ns cs, .slice A n c] w fun e w' => e = .returned (.bool true) ∧ Below w.heap.size w w' := by
  have hs0 : HdsAt (w.alloc (.cells #[.slice A n c] 25)) (w.alloc (.cells #[.slice A n c] 25)).heap.size (some ⟨w.heap.size, 0, none⟩) 1 [(A, n, c)] := HdsAt.of_blk _ (Blk.new w _ _) rfl rfl (by simp)
  have HS := Lib.hid (small_any As _ ns cs 1 1 _ _ _ hs0)
  have HSM := Lib.hid hsm
  clear hs0 hsm
  go_enter Try.func4, Try.ntmps4
  go_wp2_with (first
    | (go_at_call 14; refine HS.out.mono ?_; rintro e w' ⟨rfl, rfl⟩; rw [HSM.out])
    | (go_at_call 15; refine (awake_any _).mono ?_; rintro e w' ⟨rfl, hB'⟩; have HB' := Lib.hid hB'))
  go_ret
  exact ⟨rfl, ((Below.refl _ w).alloc (Nat.le_refl _) _).trans (HB'.out.mono (by simp))⟩

set_option maxRecDepth 100000 in
set_option maxHeartbeats 2000000 in
theorem arg_bad (As A : Option Addr) (ns cs n c : Nat) (ss : Sg) (zs : List Int) (w : World) (hs : SigAt w w.heap.size As ns ss) (ht : IntsAt w w.heap.size A n zs) (hsm : smallOk ns [(A, n, c)] = true) (hv : valOk ss zs = false) :
    Calls Try.prog 4 #[.slice As ns cs, .slice A n c] w fun e w' => e = .returned (.bool true) ∧ Below w.heap.size w w' := by
  have hs0 : HdsAt (w.alloc (.cells #[.slice A n c] 25)) (w.alloc (.cells #[.slice A n c] 25)).heap.size (some ⟨w.heap.size, 0, none⟩) 1 [(A, n, c)] := HdsAt.of_blk _ (Blk.new w _ _) rfl rfl (by simp)
  have HS := Lib.hid (small_any As _ ns cs 1 1 _ _ _ hs0)
  have HSM := Lib.hid hsm
  have HB0 := Lib.hid (show Below w.heap.size w (w.alloc (.cells #[.slice A n c] 25)) from (Below.refl _ w).alloc (Nat.le_refl _) _)
  have C1 := Lib.hid (fun V (hb : Below w.heap.size w V) => argsC_bad As A ns cs n c ss zs V (hs.up hb) (ht.up hb) hv)
  have C2 := Lib.hid (fun V (hb : Below w.heap.size w V) => refArgsL_bad As A ns cs n c ss zs V (hs.up hb) (ht.up hb) hv)
  clear hs0 hsm hs ht hv
  go_enter Try.func4, Try.ntmps4
  go_wp2_with (first
    | (go_at_call 14; refine HS.out.mono ?_; rintro e w' ⟨rfl, rfl⟩; rw [HSM.out])
    | (go_at_call 27; ((with_reducible refine (C1.out _ HB0.out).mono ?_); rintro e V1 ⟨A1, n1, c1, l1, rfl, hI1, hB1⟩; have HI1 := Lib.hid hI1; have HB1 := Lib.hid (below_then HB0.out hB1); clear hI1 hB1))
    | (go_at_call 28; ((with_reducible refine (C2.out _ HB1.out).mono ?_); rintro e V2 ⟨A2, n2, c2, l2, rfl, hI2, hB2⟩; have HI12 := Lib.hid (HI1.out.up hB2); have HI2 := Lib.hid hI2; have HB2 := Lib.hid (below_then HB1.out hB2); clear hI2 hB2))
    | (go_at_call 29; ((with_reducible refine (sameTerms_self _ _ _ _ _ _ _ _ [] _ _ HI12.out HI2.out (by simp)).mono ?_); rintro e V3 ⟨rfl, j3, rfl⟩; have HB3 := Lib.hid (below_drewN HB2.out j3)))
    | (go_at_call 15; refine (awake_any _).mono ?_; rintro e V9 ⟨rfl, hB9⟩; have HB9 := Lib.hid (below_then HB3.out hB9)))
  go_ret
  exact ⟨rfl, HB9.out⟩

set_option maxRecDepth 100000 in
set_option maxHeartbeats 2000000 in
theorem arg_ok (As A : Option Addr) (ns cs n c : Nat) (ss : Sg) (zs : List Int) (w : World) (hs : SigAt w w.heap.size As ns ss) (ht : IntsAt w w.heap.size A n zs) (hc1 : n ≤ c) (hc2 : c ≤ 9223372036854775807) (hsm : smallOk ns [(A, n, c)] = true) (hv : valOk ss zs = true) :
    Calls Try.prog 4 #[.slice As ns cs, .slice A n c] w fun e w' => e = .returned (.bool true) ∧ Below w.heap.size w w' := by
  have hs0 : HdsAt (w.alloc (.cells #[.slice A n c] 25)) (w.alloc (.cells #[.slice A n c] 25)).heap.size (some ⟨w.heap.size, 0, none⟩) 1 [(A, n, c)] := HdsAt.of_blk _ (Blk.new w _ _) rfl rfl (by simp)
  have HS := Lib.hid (small_any As _ ns cs 1 1 _ _ _ hs0)
  have HSM := Lib.hid hsm
  have HB0 := Lib.hid (show Below w.heap.size w (w.alloc (.cells #[.slice A n c] 25)) from (Below.refl _ w).alloc (Nat.le_refl _) _)
  have C1 := Lib.hid (fun V (hb : Below w.heap.size w V) => argsC_ok As A ns cs n c ss zs V (hs.up hb) (ht.up hb) hc1 hc2 hv)
  have C2 := Lib.hid (fun V (hb : Below w.heap.size w V) => refArgsL_ok As A ns cs n c ss zs V (hs.up hb) (ht.up hb) hc1 hc2 hv)
  obtain ⟨h1, h60, hnum, hscan⟩ := valOk_term hv
  have har3 := arOf_le (sigOk_ar (valOk_sig hv)) (zs.headD 0)
  have hlt := ht.len
  have h0 : 0 < zs.length := by omega
  obtain ⟨b, off, rfl, hb, htc⟩ := ht.mem (by omega)
  have hc0 := htc 0 h0
  have hbu := built_args hv h0
  have HTT := Lib.hid (fun V (hb : Below w.heap.size w V) => ht.up hb)
  have C3 := Lib.hid (fun V (hb : Below w.heap.size w V) sy B m d ls (hi : TermsAt V V.heap.size B m ls (argsL ss zs)) (hm : m ≤ 1000000) => built_any As B ns cs m d sy ss ls (argsL ss zs) V (hs.up hb) hi hm)
  have HAL := Lib.hid (show (argsL ss zs).length ≤ 3 by simpa [argsL, argsTo] using har3)
  obtain ⟨z, hz⟩ : ∃ z, zs[0] = z := ⟨_, rfl⟩
  rw [hz] at hbu hc0
  have HBU := Lib.hid hbu
  have hcw : ∀ V, Below w.heap.size w V → V.cell? ⟨b, off, none⟩ = some (.int .i64 z) := fun V hV => (hV.cell (p := ⟨b, off, none⟩) hb).trans hc0
  have HCW := Lib.hid hcw
  obtain ⟨ag, hag⟩ : ∃ ag, argsL ss zs = ag := ⟨_, rfl⟩
  simp only [hag] at C1 C2 C3 HBU HAL
  have hn1 : 1 ≤ n := by omega
  have hn60 : n ≤ 60 := by omega
  have hnz : ((n : Int) == 0) = false := by simp; omega
  clear hs0 hsm hs ht hv h1 h60 hnum hscan har3 hlt htc hc0 hbu hz hcw hag h0
  by_cases hneg : z < 0
  · go_enter Try.func4, Try.ntmps4
    go_wp2_with (first
      | (go_at_call 14; refine HS.out.mono ?_; rintro e w' ⟨rfl, rfl⟩; rw [HSM.out])
      | (go_at_call 27; ((with_reducible refine (C1.out _ HB0.out).mono ?_); rintro e V1 ⟨A1, n1, c1, l1, rfl, hI1, hB1⟩; have HI1 := Lib.hid hI1; have HB1 := Lib.hid (below_then HB0.out hB1); clear hI1 hB1))
      | (go_at_call 28; ((with_reducible refine (C2.out _ HB1.out).mono ?_); rintro e V2 ⟨A2, n2, c2, l2, rfl, hI2, hB2⟩; have HI12 := Lib.hid (HI1.out.up hB2); have HI2 := Lib.hid hI2; have HB2 := Lib.hid (below_then HB1.out hB2); clear hI2 hB2))
      | (go_at_call 29; ((with_reducible refine (sameTerms_self _ _ _ _ _ _ _ _ ag _ _ HI12.out HI2.out (Nat.le_trans HAL.out (by omega))).mono ?_); rintro e V3 ⟨rfl, j3, rfl⟩; have HB3 := Lib.hid (below_drewN HB2.out j3); have cz := HCW.out _ HB3.out))
      | (go_at_call 15; refine (awake_any _).mono ?_; rintro e V9 ⟨rfl, hB9⟩; have HB9 := Lib.hid (below_then HB3.out hB9)))
    go_ret
    exact ⟨rfl, HB9.out⟩
  · have HBU2 := Lib.hid (HBU.out (by omega))
    go_enter Try.func4, Try.ntmps4
    go_wp2_with (first
      | (go_at_call 14; refine HS.out.mono ?_; rintro e w' ⟨rfl, rfl⟩; rw [HSM.out])
      | (go_at_call 27; ((with_reducible refine (C1.out _ HB0.out).mono ?_); rintro e V1 ⟨A1, n1, c1, l1, rfl, hI1, hB1⟩; have HI1 := Lib.hid hI1; have HB1 := Lib.hid (below_then HB0.out hB1); clear hI1 hB1))
      | (go_at_call 28; ((with_reducible refine (C2.out _ HB1.out).mono ?_); rintro e V2 ⟨A2, n2, c2, l2, rfl, hI2, hB2⟩; have HI12 := Lib.hid (HI1.out.up hB2); have HI2 := Lib.hid hI2; have HB2 := Lib.hid (below_then HB1.out hB2); clear hI2 hB2))
      | (go_at_call 29; ((with_reducible refine (sameTerms_self _ _ _ _ _ _ _ _ ag _ _ HI12.out HI2.out (Nat.le_trans HAL.out (by omega))).mono ?_); rintro e V3 ⟨rfl, j3, rfl⟩; have HB3 := Lib.hid (below_drewN HB2.out j3); have cz := HCW.out _ HB3.out; have HI13 := Lib.hid (HI12.out.up (below_drewN (Below.refl _ _) j3))))
      | (go_at_call 30; ((refine (C3.out _ HB3.out z _ _ _ _ HI13.out (by have h1 := HI13.out.len; have h2 := HAL.out; omega)).mono ?_); rw [HBU2.out]; rintro e V4 ⟨A4, n4, c4, rfl, hI4, hB4⟩; have HI4 := Lib.hid hI4; have HB4 := Lib.hid (below_then HB3.out hB4); clear hI4 hB4))
      | (go_at_call 31; ((with_reducible refine (same_self _ _ _ _ _ _ zs _ _ HI4.out (HTT.out _ HB4.out)).mono ?_); rintro e V5 ⟨rfl, j5, rfl⟩; have HB5 := Lib.hid (below_drewN HB4.out j5)))
      | (go_at_call 15; refine (awake_any _).mono ?_; rintro e V9 ⟨rfl, hB9⟩; have HB9 := Lib.hid (below_then HB5.out hB9)))
    go_ret
    exact ⟨rfl, HB9.out⟩

theorem arg_walk (As A : Option Addr) (ns cs n c : Nat) (ss : Sg) (zs : List Int) (w : World) (hs : SigAt w w.heap.size As ns ss) (ht : IntsAt w w.heap.size A n zs) (hc1 : n ≤ c) (hc2 : c ≤ 9223372036854775807) :
    Calls Try.prog 4 #[.slice As ns cs, .slice A n c] w fun e w' => e = .returned (.bool true) ∧ Below w.heap.size w w' := by
  cases hsm : smallOk ns [(A, n, c)]
  · exact arg_small As A ns cs n c w hsm
  · cases hv : valOk ss zs
    · exact arg_bad As A ns cs n c ss zs w hs ht hsm hv
    · exact arg_ok As A ns cs n c ss zs w hs ht hc1 hc2 hsm hv

end Go.Proofs.Ytafpcpdafojgkaa
