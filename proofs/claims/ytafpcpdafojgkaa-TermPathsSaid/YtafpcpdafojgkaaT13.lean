/- The walk of TermPaths. -/
import Derived.Test.YtafpcpdafojgkaaD3
import Derived.Test.YtafpcpdafojgkaaD4
import Derived.Test.YtafpcpdafojgkaaB8
import Derived.Test.YtafpcpdafojgkaaO3
import Derived.Test.YtafpcpdafojgkaaU1
namespace Go.Proofs.Ytafpcpdafojgkaa
open Go.RowKit

set_option maxRecDepth 100000 in
set_option maxHeartbeats 2000000 in
theorem pths_small (As At Au : Option Addr) (ns cs nt ct nu cu : Nat) (w : World) (hsm : smallOk ns [(At, nt, ct), (Au, nu, cu)] = false) :
    Calls Try.prog 8 #[.slice As ns cs, .slice At nt ct, .slice Au nu cu] w fun e w' => e = .returned (.bool true) ∧ Below w.heap.size w w' := by
  have hs0 : HdsAt (w.alloc (.cells #[.slice At nt ct, .slice Au nu cu] 25)) (w.alloc (.cells #[.slice At nt ct, .slice Au nu cu] 25)).heap.size (some ⟨w.heap.size, 0, none⟩) 2 [(At, nt, ct), (Au, nu, cu)] := HdsAt.of_blk _ (Blk.new w _ _) rfl rfl (by simp)
  have HS := Lib.hid (small_any As _ ns cs 2 2 _ _ _ hs0)
  have HSM := Lib.hid hsm
  clear hs0 hsm
  go_enter Try.func8, Try.ntmps8
  go_wp2_with (first
    | (go_at_call 14; refine HS.out.mono ?_; rintro e w' ⟨rfl, rfl⟩; rw [HSM.out])
    | (go_at_call 15; refine (awake_any _).mono ?_; rintro e w' ⟨rfl, hB'⟩; have HB' := Lib.hid hB'))
  go_ret
  exact ⟨rfl, ((Below.refl _ w).alloc (Nat.le_refl _) _).trans (HB'.out.mono (by simp))⟩

set_option maxRecDepth 100000 in
set_option maxHeartbeats 2000000 in
theorem pths_main (As At Au : Option Addr) (ns cs nt ct nu cu : Nat) (ss : Sg) (zs us : List Int) (w : World) (hs : SigAt w w.heap.size As ns ss) (ht : IntsAt w w.heap.size At nt zs) (hu : IntsAt w w.heap.size Au nu us) (hc1 : nt ≤ ct) (hc2 : ct ≤ 9223372036854775807) (hsm : smallOk ns [(At, nt, ct), (Au, nu, cu)] = true)
    (pts : List (List Int)) (er : Int) (hpl : pts.length ≤ 60) (hC1 : ∀ V, Below w.heap.size w V → Calls Try.prog 37 #[.slice As ns cs, .slice At nt ct, .slice Au nu cu] V (RetTs V pts er))
    (hC2 : ∀ V, Below w.heap.size w V → Calls Try.prog 38 #[.slice As ns cs, .slice At nt ct, .slice Au nu cu] V (RetTs V pts er))
    (hP : ∀ (k : Nat) (p : List Int), pts[k]? = some p → atR ss zs p = (us, 0) ∧ p.length ≤ 60) :
    Calls Try.prog 8 #[.slice As ns cs, .slice At nt ct, .slice Au nu cu] w fun e w' => e = .returned (.bool true) ∧ Below w.heap.size w w' := by
  have hs0 : HdsAt (w.alloc (.cells #[.slice At nt ct, .slice Au nu cu] 25)) (w.alloc (.cells #[.slice At nt ct, .slice Au nu cu] 25)).heap.size (some ⟨w.heap.size, 0, none⟩) 2 [(At, nt, ct), (Au, nu, cu)] := HdsAt.of_blk _ (Blk.new w _ _) rfl rfl (by simp)
  have HS := Lib.hid (small_any As _ ns cs 2 2 _ _ _ hs0)
  have HSM := Lib.hid hsm
  have HB0 := Lib.hid (show Below w.heap.size w (w.alloc (.cells #[.slice At nt ct, .slice Au nu cu] 25)) from (Below.refl _ w).alloc (Nat.le_refl _) _)
  have C1 := Lib.hid hC1
  have C2 := Lib.hid hC2
  have CA := Lib.hid (fun V (hb : Below w.heap.size w V) k p (hk : pts[k]? = some p) B m d (hi : IntsAt V V.heap.size B m p) => by
    obtain ⟨h1, h2⟩ := hP k p hk
    have := at_any As At B ns cs nt ct m d ss zs p V (hs.up hb) (ht.up hb) hi hc1 hc2 (by have := hi.len; omega)
    rw [h1] at this
    exact this)
  have HU := Lib.hid (fun V (hb : Below w.heap.size w V) => hu.up hb)
  have HPL := Lib.hid hpl
  have hne : (er != er) = false := by simp
  clear hs0 hsm hs ht hu hC1 hC2 hP hpl
  go_enter Try.func8, Try.ntmps8
  go_wp2_with (first
    | (go_at_call 14; refine HS.out.mono ?_; rintro e w' ⟨rfl, rfl⟩; rw [HSM.out])
    | (go_at_call 37; ((with_reducible refine (C1.out _ HB0.out).mono ?_); rintro e V1 ⟨A1, n1, d1, l1, rfl, hI1, hB1⟩; have HI1 := Lib.hid hI1; have HB1 := Lib.hid (below_then HB0.out hB1); clear hI1 hB1))
    | (go_at_call 38; ((with_reducible refine (C2.out _ HB1.out).mono ?_); rintro e V2 ⟨A2, n2, d2, l2, rfl, hI2, hB2⟩; have HI12 := Lib.hid (HI1.out.up hB2); have HI2 := Lib.hid hI2; have HB2 := Lib.hid (below_then HB1.out hB2); clear hI2 hB2))
    | (go_at_call 39; ((with_reducible refine (samePaths_self _ _ _ _ _ _ _ _ pts _ _ HI12.out HI2.out (Nat.le_trans HPL.out (by omega))).mono ?_); rintro e V3 ⟨rfl, j3, rfl⟩; have HB3 := Lib.hid (below_drewN HB2.out j3); have HI13 := Lib.hid (HI12.out.up (below_drewN (Below.refl _ _) j3)))))
  have hn1 : n1 ≤ 60 := by have h1 := HI13.out.len; have h2 := HPL.out; omega
  obtain ⟨W3, hW3⟩ : ∃ W3, V2.drewN j3 = W3 := ⟨_, rfl⟩
  rw [hW3] at HB3 HI13
  rw [hW3]
  clear hW3
  go_loopw [11] (fun i wr => ∃ k : Nat, k ≤ n1 ∧ i = .int .i64 k ∧ Below W3.heap.size W3 wr) (fun i _ => n1 - (intOf i).toNat)
  case atStart => exact ⟨0, Nat.zero_le _, rfl, Below.refl _ _⟩
  case round =>
    obtain ⟨k, hk, rfl, hB⟩ := hrel
    have HBR := Lib.hid hB
    have HBw := Lib.hid (below_then HB3.out hB)
    by_cases hlt : k < n1
    · obtain ⟨b, off, A', n', c', p, rfl, hb, q1, q2, hI⟩ := HI13.out.cellAt hlt
      have q3 := (hB.cell (p := ⟨b, off + k, none⟩) hb).trans q1
      have C5 := Lib.hid (fun c'' => CA.out wr HBw.out k p q2 A' n' c'' (hI.up hB))
      have hk0 : (0 : Int) ≤ (k : Int) := by omega
      have hk1 : (k : Int) < (n1 : Int) := by omega
      clear q1 q2 hI hB
      go_wp2_with (first
        | (go_at_call 33; ((with_reducible refine (C5.out _).mono ?_); rintro e V4 ⟨A4, n4, d4, rfl, hI4, hB4⟩; have HI4 := Lib.hid hI4; have HBw4 := Lib.hid (below_then HBw.out hB4); have HB4 := Lib.hid (HBR.out.trans (hB4.mono HBR.out.size)); clear hI4 hB4))
        | (go_at_call 31; ((with_reducible refine (same_self _ _ _ _ _ _ us _ _ HI4.out (HU.out _ HBw4.out)).mono ?_); rintro e V5 ⟨rfl, j5, rfl⟩)))
      go_roundw
      case rel => exact ⟨k + 1, by omega, by go_num, below_drewN HB4.out j5⟩
      case measure => simp [intOf]; omega
    · obtain rfl : k = n1 := by omega
      clear hB
      go_wp2_with (go_at_call 15; refine (awake_any _).mono ?_; rintro e V9 ⟨rfl, hB9⟩; have HB9 := Lib.hid (below_then HBw.out hB9))
      go_ret
      exact ⟨rfl, HB9.out⟩

theorem pths_walk (As At Au : Option Addr) (ns cs nt ct nu cu : Nat) (ss : Sg) (zs us : List Int) (w : World) (hs : SigAt w w.heap.size As ns ss) (ht : IntsAt w w.heap.size At nt zs) (hu : IntsAt w w.heap.size Au nu us) (hc1 : nt ≤ ct) (hc2 : ct ≤ 9223372036854775807) :
    Calls Try.prog 8 #[.slice As ns cs, .slice At nt ct, .slice Au nu cu] w fun e w' => e = .returned (.bool true) ∧ Below w.heap.size w w' := by
  cases hsm : smallOk ns [(At, nt, ct), (Au, nu, cu)]
  · exact pths_small As At Au ns cs nt ct nu cu w hsm
  · cases hv : pathsOk ss zs us
    · exact pths_main As At Au ns cs nt ct nu cu ss zs us w hs ht hu hc1 hc2 hsm [] 1 (by simp) (fun V hb => paths_bad As At Au ns cs nt ct nu cu ss zs us V (hs.up hb) (ht.up hb) (hu.up hb) hv)
        (fun V hb => refPaths_bad As At Au ns cs nt ct nu cu ss zs us V (hs.up hb) (ht.up hb) (hu.up hb) hv) (fun k p h => by simp at h)
    · have hvz : valOk ss zs = true := by unfold pathsOk at hv; simp only [Bool.and_eq_true] at hv; exact hv.1
      have h60 := (valOk_term hvz).2.1
      refine pths_main As At Au ns cs nt ct nu cu ss zs us w hs ht hu hc1 hc2 hsm (pathsTo ss zs us zs.length) 0 (by have := pathsTo_le ss zs us zs.length; omega) (fun V hb => paths_ok As At Au ns cs nt ct nu cu ss zs us V (hs.up hb) (ht.up hb) (hu.up hb) hc1 hc2 hv)
        (fun V hb => refPaths_ok As At Au ns cs nt ct nu cu ss zs us V (hs.up hb) (ht.up hb) (hu.up hb) hc1 hc2 hv) (fun k p h => ?_)
      obtain ⟨i, h1, h2, rfl⟩ := pathsTo_mem (List.mem_of_getElem? h)
      rw [at_pth hvz h1, h2]
      exact ⟨rfl, pthI_len hvz i⟩

end Go.Proofs.Ytafpcpdafojgkaa
