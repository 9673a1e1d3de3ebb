/- The walk of TermCanonical. -/
import Derived.Test.YtpgoekaphofjkaaL3
import Derived.Test.YtpgoekaphofjkaaO3
namespace Go.Proofs.Ytpgoekaphofjkaa
open Go.RowKit

theorem IntsAt.drewN' {w : World} {n : Nat} {A : Option Addr} {zs : List Int} (h : IntsAt w w.heap.size A n zs) (k : Nat) : IntsAt (w.drewN k) (w.drewN k).heap.size A n zs := h.keep fun _ _ => rfl

theorem same_self (A A2 : Option Addr) (n c n2 c2 : Nat) (xs : List Int) (w : World) (B : Nat) (hx : IntsAt w B A n xs) (hy : IntsAt w B A2 n2 xs) :
    Calls Try.prog 28 #[.slice A n c, .slice A2 n2 c2] w fun e w' => e = .returned (.bool true) ∧ ∃ k, w' = w.drewN k := by
  have := same_any A A2 n c n2 c2 xs xs w B hx hy
  simpa using this

set_option maxRecDepth 100000 in
set_option maxHeartbeats 2000000 in
theorem can_small (As A : Option Addr) (ns cs n c : Nat) (w : World) (hsm : smallOk ns [(A, n, c)] = false) :
    Calls Try.prog 4 #[.slice As ns cs, .slice A n c] w fun e w' => e = .returned (.bool true) ∧ Below w.heap.size w w' := by
  have hs0 : HdsAt (w.alloc (.cells #[.slice A n c] 25)) (w.alloc (.cells #[.slice A n c] 25)).heap.size (some ⟨w.heap.size, 0, none⟩) 1 [(A, n, c)] := HdsAt.of_blk _ (Blk.new w _ _) rfl rfl (by simp)
  have HS := Lib.hid (small_any As _ ns cs 1 1 _ _ _ hs0)
  have HSM := Lib.hid hsm
  clear hs0 hsm
  go_enter Try.func4, Try.ntmps4
  go_wp2_with (first
    | (go_at_call 13; refine HS.out.mono ?_; rintro e w' ⟨rfl, rfl⟩; rw [HSM.out])
    | (go_at_call 14; refine (awake_any _).mono ?_; rintro e w' ⟨rfl, hB'⟩; have HB' := Lib.hid hB'))
  go_ret
  exact ⟨rfl, ((Below.refl _ w).alloc (Nat.le_refl _) _).trans (HB'.out.mono (by simp))⟩

set_option maxRecDepth 100000 in
set_option maxHeartbeats 2000000 in
theorem can_bad (As A : Option Addr) (ns cs n c : Nat) (ss : Sg) (zs : List Int) (w : World) (hs : SigAt w w.heap.size As ns ss) (ht : IntsAt w w.heap.size A n zs) (hsm : smallOk ns [(A, n, c)] = true) (hv : valOk ss zs = false) :
    Calls Try.prog 4 #[.slice As ns cs, .slice A n c] w fun e w' => e = .returned (.bool true) ∧ Below w.heap.size w w' := by
  have hs0 : HdsAt (w.alloc (.cells #[.slice A n c] 25)) (w.alloc (.cells #[.slice A n c] 25)).heap.size (some ⟨w.heap.size, 0, none⟩) 1 [(A, n, c)] := HdsAt.of_blk _ (Blk.new w _ _) rfl rfl (by simp)
  have HS := Lib.hid (small_any As _ ns cs 1 1 _ _ _ hs0)
  have HSM := Lib.hid hsm
  have HB0 := Lib.hid (show Below w.heap.size w (w.alloc (.cells #[.slice A n c] 25)) from (Below.refl _ w).alloc (Nat.le_refl _) _)
  have C1 := Lib.hid (fun V (hb : Below w.heap.size w V) => canonical_bad As A ns cs n c ss zs V (hs.up hb) (ht.up hb) hv)
  have C2 := Lib.hid (fun V (hb : Below w.heap.size w V) => refCanonical_bad As A ns cs n c ss zs V (hs.up hb) (ht.up hb) hv)
  have C3 := Lib.hid (fun V (hb : Below w.heap.size w V) => isCan_any As A ns cs n c ss zs V (hs.up hb) (ht.up hb))
  have C4 := Lib.hid (fun V (hb : Below w.heap.size w V) => refIsCan_any As A ns cs n c ss zs V (hs.up hb) (ht.up hb))
  have C5 := Lib.hid (fun V (hb : Below w.heap.size w V) => shape_bad As A ns cs n c ss zs V (hs.up hb) (ht.up hb) hv)
  have C6 := Lib.hid (fun V (hb : Below w.heap.size w V) => refShape_bad As A ns cs n c ss zs V (hs.up hb) (ht.up hb) hv)
  obtain ⟨ic, hic⟩ : ∃ ic, isCanOk ss zs = ic := ⟨_, rfl⟩
  simp only [hic] at C3 C4
  clear hs0 hsm hs ht hv hic
  go_enter Try.func4, Try.ntmps4
  go_wp2_with (first
    | (go_at_call 13; refine HS.out.mono ?_; rintro e w' ⟨rfl, rfl⟩; rw [HSM.out])
    | (go_at_call 26; ((with_reducible refine (C1.out _ HB0.out).mono ?_); rintro e V1 ⟨A1, n1, c1, rfl, hI1, hB1⟩; have HI1 := Lib.hid hI1; have HB1 := Lib.hid (below_then HB0.out hB1); clear hI1 hB1))
    | (go_at_call 27; ((with_reducible refine (C2.out _ HB1.out).mono ?_); rintro e V2 ⟨A2, n2, c2, rfl, hI2, hB2⟩; have HI12 := Lib.hid (HI1.out.up hB2); have HI2 := Lib.hid hI2; have HB2 := Lib.hid (below_then HB1.out hB2); clear hI2 hB2))
    | (go_at_call 28; ((with_reducible refine (same_any _ _ _ _ _ _ [] [] _ _ HI12.out HI2.out).mono ?_); rintro e V3 ⟨rfl, j3, rfl⟩; have HB3 := Lib.hid (below_drewN HB2.out j3); clear HI12; rw [show decide (([] : List Int) = []) = true from rfl]))
    | (go_at_call 29; ((with_reducible refine (C3.out _ HB3.out).mono ?_); rintro e V4 ⟨rfl, hB4⟩; have HB4 := Lib.hid (below_then HB3.out hB4); clear hB4))
    | (go_at_call 30; ((with_reducible refine (C4.out _ HB4.out).mono ?_); rintro e V5 ⟨rfl, hB5⟩; have HB5 := Lib.hid (below_then HB4.out hB5); clear hB5))
    | (go_at_call 31; ((with_reducible refine (C5.out _ HB5.out).mono ?_); rintro e V6 ⟨A6, n6, c6, rfl, hI6, hB6⟩; have HI6 := Lib.hid hI6; have HB6 := Lib.hid (below_then HB5.out hB6); clear hI6 hB6))
    | (go_at_call 32; ((with_reducible refine (C6.out _ HB6.out).mono ?_); rintro e V7 ⟨A7, n7, c7, rfl, hI7, hB7⟩; have HI67 := Lib.hid (HI6.out.up hB7); have HI7 := Lib.hid hI7; have HB7 := Lib.hid (below_then HB6.out hB7); clear hI7 hB7))
    | (go_at_call 28; ((with_reducible refine (same_any _ _ _ _ _ _ [] [] _ _ HI67.out HI7.out).mono ?_); rintro e V8 ⟨rfl, j8, rfl⟩; have HB8 := Lib.hid (below_drewN HB7.out j8); rw [show decide (([] : List Int) = []) = true from rfl]))
    | (go_at_call 14; refine (awake_any _).mono ?_; rintro e V9 ⟨rfl, hB9⟩; have HB9 := Lib.hid (below_then HB8.out hB9)))
  go_ret
  exact ⟨rfl, HB9.out⟩

set_option maxRecDepth 100000 in
set_option maxHeartbeats 2000000 in
theorem can_ok (As A : Option Addr) (ns cs n c : Nat) (ss : Sg) (zs : List Int) (w : World) (hs : SigAt w w.heap.size As ns ss) (ht : IntsAt w w.heap.size A n zs) (hsm : smallOk ns [(A, n, c)] = true) (hv : valOk ss zs = true) :
    Calls Try.prog 4 #[.slice As ns cs, .slice A n c] w fun e w' => e = .returned (.bool true) ∧ Below w.heap.size w w' := by
  have hs0 : HdsAt (w.alloc (.cells #[.slice A n c] 25)) (w.alloc (.cells #[.slice A n c] 25)).heap.size (some ⟨w.heap.size, 0, none⟩) 1 [(A, n, c)] := HdsAt.of_blk _ (Blk.new w _ _) rfl rfl (by simp)
  have HS := Lib.hid (small_any As _ ns cs 1 1 _ _ _ hs0)
  have HSM := Lib.hid hsm
  have HB0 := Lib.hid (show Below w.heap.size w (w.alloc (.cells #[.slice A n c] 25)) from (Below.refl _ w).alloc (Nat.le_refl _) _)
  have C1 := Lib.hid (fun V (hb : Below w.heap.size w V) => canonical_ok As A ns cs n c ss zs V (hs.up hb) (ht.up hb) hv)
  have C2 := Lib.hid (fun V (hb : Below w.heap.size w V) => refCanonical_ok As A ns cs n c ss zs V (hs.up hb) (ht.up hb) hv)
  have C3 := Lib.hid (fun V (hb : Below w.heap.size w V) => isCan_any As A ns cs n c ss zs V (hs.up hb) (ht.up hb))
  have C4 := Lib.hid (fun V (hb : Below w.heap.size w V) => refIsCan_any As A ns cs n c ss zs V (hs.up hb) (ht.up hb))
  have C5 := Lib.hid (fun V (hb : Below w.heap.size w V) => shape_ok As A ns cs n c ss zs V (hs.up hb) (ht.up hb) hv)
  have C6 := Lib.hid (fun V (hb : Below w.heap.size w V) => refShape_ok As A ns cs n c ss zs V (hs.up hb) (ht.up hb) hv)
  have C7 := Lib.hid (fun V (hb : Below w.heap.size w V) B m d (hi : IntsAt V V.heap.size B m (canon zs)) => by
    have := canonical_ok As B ns cs m d ss (canon zs) V (hs.up hb) hi (valOk_canon hv)
    rw [canon_canon] at this
    exact this)
  have C8 := Lib.hid (fun V (hb : Below w.heap.size w V) B m d (hi : IntsAt V V.heap.size B m (canon zs)) => by
    have := isCan_any As B ns cs m d ss (canon zs) V (hs.up hb) hi
    rw [isCan_canon hv] at this
    exact this)
  have C9 := Lib.hid (fun V (hb : Below w.heap.size w V) B m d (hi : IntsAt V V.heap.size B m (canon zs)) => by
    have := alike_any As A B ns cs n c m d ss zs (canon zs) V (hs.up hb) (ht.up hb) hi
    rw [alike_canon hv] at this
    exact this)
  obtain ⟨ic, hic⟩ : ∃ ic, isCanOk ss zs = ic := ⟨_, rfl⟩
  simp only [hic] at C3 C4
  obtain ⟨ca, hca⟩ : ∃ ca, canon zs = ca := ⟨_, rfl⟩
  simp only [hca] at C1 C2 C7 C8 C9
  obtain ⟨fa, hfa⟩ : ∃ fa, flat zs = fa := ⟨_, rfl⟩
  simp only [hfa] at C5 C6
  clear hs0 hsm hs ht hv hic hca hfa
  go_enter Try.func4, Try.ntmps4
  go_wp2_with (first
    | (go_at_call 13; refine HS.out.mono ?_; rintro e w' ⟨rfl, rfl⟩; rw [HSM.out])
    | (go_at_call 26; ((with_reducible refine (C1.out _ HB0.out).mono ?_); clear C1; rintro e V1 ⟨A1, n1, c1, rfl, hI1, hB1⟩; have HI1 := Lib.hid hI1; have HB1 := Lib.hid (below_then HB0.out hB1); clear hI1 hB1))
    | (go_at_call 27; ((with_reducible refine (C2.out _ HB1.out).mono ?_); rintro e V2 ⟨A2, n2, c2, rfl, hI2, hB2⟩; have HI12 := Lib.hid (HI1.out.up hB2); have HI2 := Lib.hid hI2; have HB2 := Lib.hid (below_then HB1.out hB2); clear hI2 hB2))
    | (go_at_call 28; ((with_reducible refine (same_self _ _ _ _ _ _ ca _ _ HI12.out HI2.out).mono ?_); rintro e V3 ⟨rfl, j3, rfl⟩; have HB3 := Lib.hid (below_drewN HB2.out j3); have HI3 := Lib.hid (HI12.out.drewN' j3); clear HI2))
    | (go_at_call 29; ((with_reducible refine (C3.out _ HB3.out).mono ?_); clear C3; rintro e V4 ⟨rfl, hB4⟩; have HB4 := Lib.hid (below_then HB3.out hB4); have HI4 := Lib.hid (HI3.out.up hB4); clear hB4))
    | (go_at_call 30; ((with_reducible refine (C4.out _ HB4.out).mono ?_); rintro e V5 ⟨rfl, hB5⟩; have HB5 := Lib.hid (below_then HB4.out hB5); have HI5 := Lib.hid (HI4.out.up hB5); clear hB5))
    | (go_at_call 31; ((with_reducible refine (C5.out _ HB5.out).mono ?_); rintro e V6 ⟨A6, n6, c6, rfl, hI6, hB6⟩; have HI6 := Lib.hid hI6; have HB6 := Lib.hid (below_then HB5.out hB6); have HJ6 := Lib.hid (HI5.out.up hB6); clear hI6 hB6))
    | (go_at_call 32; ((with_reducible refine (C6.out _ HB6.out).mono ?_); rintro e V7 ⟨A7, n7, c7, rfl, hI7, hB7⟩; have HI67 := Lib.hid (HI6.out.up hB7); have HI7 := Lib.hid hI7; have HB7 := Lib.hid (below_then HB6.out hB7); have HJ7 := Lib.hid (HJ6.out.up hB7); clear hI7 hB7))
    | (go_at_call 28; ((with_reducible refine (same_self _ _ _ _ _ _ fa _ _ HI67.out HI7.out).mono ?_); clear HI67; rintro e V8 ⟨rfl, j8, rfl⟩; have HB8 := Lib.hid (below_drewN HB7.out j8); have HJ8 := Lib.hid (HJ7.out.drewN' j8)))
    | (go_at_call 26; ((with_reducible refine (C7.out _ HB8.out _ _ _ HJ8.out).mono ?_); rintro e V9 ⟨A9, n9, c9, rfl, hI9, hB9⟩; have HI9 := Lib.hid hI9; have HB9 := Lib.hid (below_then HB8.out hB9); have HJ9 := Lib.hid (HJ8.out.up hB9); clear hI9 hB9))
    | (go_at_call 28; ((with_reducible refine (same_self _ _ _ _ _ _ ca _ _ HI9.out HJ9.out).mono ?_); rintro e Va ⟨rfl, ja, rfl⟩; have HBa := Lib.hid (below_drewN HB9.out ja); have HJa := Lib.hid (HJ9.out.drewN' ja)))
    | (go_at_call 29; ((with_reducible refine (C8.out _ HBa.out _ _ _ HJa.out).mono ?_); rintro e Vb ⟨rfl, hBb⟩; have HBb := Lib.hid (below_then HBa.out hBb); have HJb := Lib.hid (HJa.out.up hBb); clear hBb))
    | (go_at_call 33; ((with_reducible refine (C9.out _ HBb.out _ _ _ HJb.out).mono ?_); rintro e Vc ⟨rfl, hBc⟩; have HBc := Lib.hid (below_then HBb.out hBc); clear hBc))
    | (go_at_call 14; refine (awake_any _).mono ?_; rintro e Vd ⟨rfl, hBd⟩; have HBd := Lib.hid (below_then HBc.out hBd)))
  go_ret
  exact ⟨rfl, HBd.out⟩

end Go.Proofs.Ytpgoekaphofjkaa
