/- Contracts: Join; the statements' own 'awake' (layer 2). -/
import Derived.Test.YtcegbmibpkopaaaY20g
import Derived.Test.YtcegbmibpkopaaaW0g
namespace Go.Proofs.Ytcegbmibpkopaaa
open Go.RowKit

/-- What Join returns, and its error. -/
def joinZ (ss : Sg) (za zb : List Int) : List Int × Int :=
  if (comF ss za.length za zb []).2.length ≤ 12 then ((comF ss za.length za zb []).1, 0) else ([], 4)
theorem valOk_more {ss : Sg} {zs : List Int} (h : valOk ss zs = true) : sigOk ss = true ∧ ArOk ss ∧ HeadsOk ss zs ∧ GoodT zs ∧ scan ss 1 zs = some [] ∧ 1 ≤ zs.length ∧ zs.length ≤ 60 := by
  have hso : sigOk ss = true := by
    have := h
    simp only [valOk, Bool.and_eq_true] at this
    exact this.1
  obtain ⟨h1, h60, hn, hsc⟩ := valOk_term h
  have hl := sigOk_len hso
  exact ⟨hso, sigOk_ar hso, fun z hz => (hn z hz).2, ⟨fun z hz => by have := hn z hz; omega, by omega⟩, hsc, h1, h60⟩

set_option maxRecDepth 100000 in
set_option maxHeartbeats 1000000 in
theorem ujoink_any (As Aa Ab : Option Addr) (ns cs na ca nb cb : Nat) (ss : Sg) (za zb : List Int) (w : World) (hs : SigAt w w.heap.size As ns ss) (ha : IntsAt w w.heap.size Aa na za) (hb : IntsAt w w.heap.size Ab nb zb)
    (hca : na ≤ ca) (hca2 : ca ≤ 9223372036854775807) (hcb : nb ≤ cb) (hcb2 : cb ≤ 9223372036854775807) (hva : valOk ss za = true) (hvb : valOk ss zb = true) :
    Calls Try.prog 51 #[.slice As ns cs, .slice Aa na ca, .slice Ab nb cb] w (RetK w (joinZ ss za zb).1 (joinZ ss za zb).2) := by
  obtain ⟨hso, har, hha, hga, hsa, a1, a60⟩ := valOk_more hva
  obtain ⟨_, _, hhb, hgb, hsb, b1, b60⟩ := valOk_more hvb
  have hla := ha.len
  have hlb := hb.len
  have CV := Lib.hid (uvalid_any As (some ⟨w.heap.size, 0, none⟩) ns cs 2 2 ss _ [za, zb] (w.alloc (.cells #[.slice Aa na ca, .slice Ab nb cb] 25)) (hs.alloc _) (TermsAt.two (ca := ca) (cb := cb) ha hb) (by omega))
  rw [show ([za, zb].all (valOk ss) && sigOk ss) = true by simp [hva, hvb, hso]] at CV
  obtain ⟨R, hR⟩ : ∃ R, comF ss za.length za zb [] = R := ⟨_, rfl⟩
  have CJ : Hid (∀ V, Below w.heap.size w V → Calls Try.prog 108 #[.agg #[.slice As ns cs], .slice Aa na ca, .slice Ab nb cb] V fun e w' => ∃ A c, e = .returned (.tuple #[.slice A R.1.length c, .int .i64 (R.2.length : Int)]) ∧ IntsAt w' w'.heap.size A R.1.length R.1 ∧ (R.1.length ≤ c ∧ c ≤ 9223372036854775807) ∧ Below V.heap.size V w') := by
    refine Lib.hid fun V hV => ?_
    refine (join_any As Aa Ab ns cs na ca nb cb ss za zb V (hs.up hV) (ha.up hV) (hb.up hV) hca hca2 hcb hcb2 har hha hhb hga hgb hsa hsb (by omega) (by omega) R (by rw [hla]; exact hR)).mono ?_
    rintro e w' ⟨v, rfl, hrow, hB, _, hl⟩
    obtain ⟨A, c, rfl, hI, hk⟩ := row_intsk hrow (by omega)
    exact ⟨A, c, rfl, hI, hk, hB⟩
  obtain ⟨nr, hnr⟩ : ∃ nr, R.2.length = nr := ⟨_, rfl⟩
  have hjz : joinZ ss za zb = if nr ≤ 12 then (R.1, 0) else ([], 4) := by unfold joinZ; rw [hR, hnr]
  rw [hnr] at CJ
  rw [hjz]
  by_cases h12 : nr ≤ 12
  · rw [if_pos h12]
    have hq : ¬ (nr : Int) > 12 := by omega
    clear hs ha hb hva hvb hso har hha hga hsa hhb hgb hsb hR hjz hnr hla hlb
    go_enter Try.func51, Try.ntmps51
    go_wp2_with (first
      | (go_at_call 90; refine CV.out.mono ?_; rintro e w1 ⟨rfl, hB1⟩; have HB1 := Lib.hid (((Below.refl _ w).alloc (Nat.le_refl _) _).trans (hB1.mono (by simp))); clear hB1)
      | (go_at_call 108; refine (CJ.out _ HB1.out).mono ?_; rintro e w2 ⟨A, c, rfl, hI, hk, hB2⟩; have HK := Lib.hid hk; clear hk; have HI := Lib.hid hI; have HB2 := Lib.hid hB2; clear hI hB2))
    go_ret2
    exact ⟨_, _, _, rfl, HI.out, HK.out, below_then HB1.out HB2.out⟩
  · rw [if_neg h12]
    have hq : (nr : Int) > 12 := by omega
    clear hs ha hb hva hvb hso har hha hga hsa hhb hgb hsb hR hjz hnr hla hlb
    go_enter Try.func51, Try.ntmps51
    go_wp2_with (first
      | (go_at_call 90; refine CV.out.mono ?_; rintro e w1 ⟨rfl, hB1⟩; have HB1 := Lib.hid (((Below.refl _ w).alloc (Nat.le_refl _) _).trans (hB1.mono (by simp))); clear hB1)
      | (go_at_call 108; refine (CJ.out _ HB1.out).mono ?_; rintro e w2 ⟨A, c, rfl, hI, hk, hB2⟩; have HK := Lib.hid hk; clear hk; have HI := Lib.hid hI; have HB2 := Lib.hid hB2; clear hI hB2))
    go_ret2
    exact ⟨none, 0, 0, rfl, IntsAt.nil _ _ 0, by omega, below_then HB1.out HB2.out⟩

theorem ujoin_any (As Aa Ab : Option Addr) (ns cs na ca nb cb : Nat) (ss : Sg) (za zb : List Int) (w : World) (hs : SigAt w w.heap.size As ns ss) (ha : IntsAt w w.heap.size Aa na za) (hb : IntsAt w w.heap.size Ab nb zb)
    (hca : na ≤ ca) (hca2 : ca ≤ 9223372036854775807) (hcb : nb ≤ cb) (hcb2 : cb ≤ 9223372036854775807) (hva : valOk ss za = true) (hvb : valOk ss zb = true) :
    Calls Try.prog 51 #[.slice As ns cs, .slice Aa na ca, .slice Ab nb cb] w (RetT w (joinZ ss za zb).1 (joinZ ss za zb).2) :=
  (ujoink_any As Aa Ab ns cs na ca nb cb ss za zb w hs ha hb hca hca2 hcb hcb2 hva hvb).mono fun _ _ h => h.ret

theorem blk_next (w : World) (o : Obj) (k : Nat) (T : TypeId) (cs : Array Value) : Blk (((w.alloc o).drewN k).alloc (.cells cs T)) (w.heap.size + 1) T cs := by
  have := Blk.new ((w.alloc o).drewN k) T cs
  rw [show ((w.alloc o).drewN k).heap.size = w.heap.size + 1 from World.size_alloc w o] at this
  exact this
theorem awake2_meet {W : World} {b b2 b3 : Nat} (h : Blk W b 68 cellsCN) (h2 : Blk W b2 3 #[.int .i64 (-1)]) (h3 : Blk W b3 3 #[.int .i64 1, .int .i64 (-1)]) :
    Calls Try.prog 47 #[.slice (some ⟨b, 0, none⟩) 2 2, .slice (some ⟨b2, 0, none⟩) 1 1, .slice (some ⟨b3, 0, none⟩) 2 2] W (RetT W [1, -1] 0) :=
  meet_any _ _ _ 2 2 1 1 2 2 sgCN [-1] [1, -1] 100 ([1, -1], 0) W (sig_of_blk h) (ints_of_blk _ _ _ rfl h2 rfl (by decide)) (ints_of_blk _ _ _ rfl h3 rfl (by decide)) (by decide +kernel) (by decide +kernel) (by omega) (by decide +kernel)
theorem awake2_join {W : World} {b b2 b3 : Nat} (h : Blk W b 68 cellsCN) (h2 : Blk W b2 3 #[.int .i64 0, .int .i64 (-1), .int .i64 (-1)]) (h3 : Blk W b3 3 #[.int .i64 0, .int .i64 1, .int .i64 (-1), .int .i64 1, .int .i64 (-2)]) :
    Calls Try.prog 51 #[.slice (some ⟨b, 0, none⟩) 2 2, .slice (some ⟨b2, 0, none⟩) 3 3, .slice (some ⟨b3, 0, none⟩) 5 5] W (RetT W [0, -1, -2] 0) := by
  have hd : joinZ sgCN [0, -1, -1] [0, 1, -1, 1, -2] = ([0, -1, -2], 0) := by decide +kernel
  have := ujoin_any _ _ _ 2 2 3 3 5 5 sgCN [0, -1, -1] [0, 1, -1, 1, -2] W (sig_of_blk h) (ints_of_blk _ _ _ rfl h2 rfl (by decide)) (ints_of_blk _ _ _ rfl h3 rfl (by decide)) (by omega) (by omega) (by omega) (by omega) (by decide +kernel) (by decide +kernel)
  rw [hd] at this
  exact this

set_option maxRecDepth 100000 in
set_option maxHeartbeats 1000000 in
theorem awake2_any (w : World) : Calls Try.prog 27 #[] w fun e w' => e = .returned (.bool true) ∧ Below w.heap.size w w' := by
  have HM : Hid (Calls Try.prog 47 #[.slice (some ⟨w.heap.size, 0, none⟩) 2 2, .slice (some ⟨w.heap.size + 1, 0, none⟩) 1 1, .slice (some ⟨w.heap.size + 1 + 1, 0, none⟩) 2 2] (((w.alloc (.cells cellsCN 68)).alloc (.cells #[.int .i64 (-1)] 3)).alloc (.cells #[.int .i64 1, .int .i64 (-1)] 3)) fun e w' =>
      ∃ A n c, e = .returned (.tuple #[.slice A n c, .int .i64 0]) ∧ IntsAt w' w'.heap.size A n [1, -1] ∧ Below w.heap.size w w' ∧ Blk w' w.heap.size 68 cellsCN) := by
    have k1 : Blk (((w.alloc (.cells cellsCN 68)).alloc (.cells #[.int .i64 (-1)] 3)).alloc (.cells #[.int .i64 1, .int .i64 (-1)] 3)) w.heap.size 68 cellsCN := ((Blk.new w _ _).alloc _).alloc _
    have k2 : Blk (((w.alloc (.cells cellsCN 68)).alloc (.cells #[.int .i64 (-1)] 3)).alloc (.cells #[.int .i64 1, .int .i64 (-1)] 3)) (w.heap.size + 1) 3 #[.int .i64 (-1)] := by
      have := (Blk.new (w.alloc (.cells cellsCN 68)) 3 #[.int .i64 (-1)]).alloc (.cells #[.int .i64 1, .int .i64 (-1)] 3)
      rw [World.size_alloc] at this
      exact this
    have k3 : Blk (((w.alloc (.cells cellsCN 68)).alloc (.cells #[.int .i64 (-1)] 3)).alloc (.cells #[.int .i64 1, .int .i64 (-1)] 3)) (w.heap.size + 1 + 1) 3 #[.int .i64 1, .int .i64 (-1)] := by
      have := Blk.new ((w.alloc (.cells cellsCN 68)).alloc (.cells #[.int .i64 (-1)] 3)) 3 #[.int .i64 1, .int .i64 (-1)]
      rw [World.size_alloc, World.size_alloc] at this
      exact this
    refine (awake2_meet k1 k2 k3).mono ?_
    rintro e w' ⟨A, n, c, rfl, hI, hB⟩
    exact ⟨A, n, c, rfl, hI, below_then (below_al (below_al (below_al (Below.refl _ w) _) _) _) hB, k1.below hB k1.lt⟩
  have HJ : Hid (∀ V : World, Below w.heap.size w V → Blk V w.heap.size 68 cellsCN → Calls Try.prog 51 #[.slice (some ⟨w.heap.size, 0, none⟩) 2 2, .slice (some ⟨V.heap.size, 0, none⟩) 3 3, .slice (some ⟨V.heap.size + 1, 0, none⟩) 5 5] ((V.alloc (.cells #[.int .i64 0, .int .i64 (-1), .int .i64 (-1)] 3)).alloc (.cells #[.int .i64 0, .int .i64 1, .int .i64 (-1), .int .i64 1, .int .i64 (-2)] 3)) fun e w' =>
      ∃ A n c, e = .returned (.tuple #[.slice A n c, .int .i64 0]) ∧ IntsAt w' w'.heap.size A n [0, -1, -2] ∧ Below V.heap.size V w') := by
    refine Lib.hid fun V hV kS => ?_
    have k2 : Blk ((V.alloc (.cells #[.int .i64 0, .int .i64 (-1), .int .i64 (-1)] 3)).alloc (.cells #[.int .i64 0, .int .i64 1, .int .i64 (-1), .int .i64 1, .int .i64 (-2)] 3)) (V.heap.size + 1) 3 #[.int .i64 0, .int .i64 1, .int .i64 (-1), .int .i64 1, .int .i64 (-2)] := by
      have := Blk.new (V.alloc (.cells #[.int .i64 0, .int .i64 (-1), .int .i64 (-1)] 3)) 3 #[.int .i64 0, .int .i64 1, .int .i64 (-1), .int .i64 1, .int .i64 (-2)]
      rw [World.size_alloc] at this
      exact this
    refine (awake2_join ((kS.alloc _).alloc _) ((Blk.new V _ _).alloc _) k2).mono ?_
    rintro e w' ⟨A, n, c, rfl, hI, hB⟩
    exact ⟨A, n, c, rfl, hI, below_then (below_al (below_al (Below.refl _ V) _) _) hB⟩
  have HS1 : Hid (∀ (W : World) (b : Nat) {A : Option Addr} {n c : Nat}, IntsAt W W.heap.size A n [1, -1] → Blk W b 3 #[.int .i64 1, .int .i64 (-1)] → Calls Try.prog 20 #[.slice A n c, .slice (some ⟨b, 0, none⟩) 2 2] W fun e w' => e = .returned (.bool true) ∧ ∃ k, w' = W.drewN k) :=
    Lib.hid fun W b A n c h k => same_self _ _ n c 2 2 [1, -1] W _ h (ints_of_blk [1, -1] 2 _ rfl k rfl (by decide))
  have HS2 : Hid (∀ (W : World) (b : Nat) {A : Option Addr} {n c : Nat}, IntsAt W W.heap.size A n [0, -1, -2] → Blk W b 3 #[.int .i64 0, .int .i64 (-1), .int .i64 (-2)] → Calls Try.prog 20 #[.slice A n c, .slice (some ⟨b, 0, none⟩) 3 3] W fun e w' => e = .returned (.bool true) ∧ ∃ k, w' = W.drewN k) :=
    Lib.hid fun W b A n c h k => same_self _ _ n c 3 3 [0, -1, -2] W _ h (ints_of_blk [0, -1, -2] 3 _ rfl k rfl (by decide))
  go_enter Try.func27, Try.ntmps27
  go_wp2_with (first
    | (go_at_call 47; refine HM.out.mono ?_; rintro e w3 ⟨A3, n3, c3, rfl, hI3, hB3, kS⟩; have HI3 := Lib.hid hI3; have HB3 := Lib.hid hB3; have HJ' := Lib.hid (HJ.out w3 hB3 kS); clear hI3 hB3 kS)
    | (go_at_call 51; refine HJ'.out.mono ?_; rintro e w4 ⟨A4, n4, c4, rfl, hI4, hB4⟩; have HI4 := Lib.hid hI4; have HI3' := Lib.hid (HI3.out.up hB4); have HB4 := Lib.hid (below_then HB3.out hB4); clear hI4 hB4)
    | (go_at_call 20; ((with_reducible refine (HS1.out _ _ (HI3'.out.alloc _) (Blk.new _ _ _)).mono ?_); rintro e w5 ⟨rfl, k5, rfl⟩); have HI4' := Lib.hid ((HI4.out.alloc (.cells #[.int .i64 1, .int .i64 (-1)] 3)).drewN' k5); have HK2 := Lib.hid (blk_next w4 (.cells #[.int .i64 1, .int .i64 (-1)] 3) k5 3 #[.int .i64 0, .int .i64 (-1), .int .i64 (-2)]))
    | (go_at_call 20; ((with_reducible refine (HS2.out _ _ (HI4'.out.alloc _) HK2.out).mono ?_); rintro e w6 ⟨rfl, k6, rfl⟩)))
  go_ret
  exact ⟨rfl, below_drewN (below_al (below_drewN (below_al HB4.out _) _) _) _⟩

end Go.Proofs.Ytcegbmibpkopaaa
