/- The walk of UnifyUnifies. -/
import Derived.Test.YtohhgghjpokdiaaZNg
import Derived.Test.YtohhgghjpokdiaaN29g
namespace Go.Proofs.Ytohhgghjpokdiaa
open Go.RowKit

/-- What the law asks of the binds that Unify returns. -/
structure UnGood (ss : Sg) (za zb : List Int) (bb : List Bd) : Prop where
  few : bb.length ≤ 12
  own : ∀ x ∈ bb, 0 ≤ x.1 ∧ x.1 < 12 ∧ ((-x.1 - 1) ∈ za ∨ (-x.1 - 1) ∈ zb)
  short : ∀ x ∈ bb, x.2.length ≤ 60
  nums : ∀ x ∈ bb, ∀ z ∈ x.2, -1000000 ≤ z ∧ z ≤ 1000000 ∧ (z ∈ za ∨ z ∈ zb)
  uni : unifB ss bb za zb = true
  slv : solvedB ss bb = true
  app : (applZ ss bb za).2 = 0 → (comZ ss 0 za zb).2 = 0 ∧ alikeOk ss (applZ ss bb za).1 (comZ ss 0 za zb).1 = true
theorem un_good {ss : Sg} {G : Fd} {R k : Nat} {za zb : List Int} (u : UniIs ss 0 za zb k G R) (ht : TopsOf G za zb) (ha : valOk ss za = true) (hb : valOk ss zb = true) (hu : uniteF ss 0 10000 za zb Fd.none = some (k, true, G)) (hl : ¬ LongF (imU G R) 12) : UnGood ss za zb (filtB (imU G R) 12) := by
  have hns := sigOk_len (valOk_sig ha)
  refine ⟨filtB_le _ _, fun x hx => ?_, fun x hx => ?_, fun x hx z hz => ?_, uni_unifies u ht ha hb hl, uni_solved u ht ha hb hl, fun h => uni_applied u ht ha hb h hl hu⟩
  · obtain ⟨v, hv, h1, rfl⟩ := mem_filtB.1 hx
    exact ⟨by show (0 : Int) ≤ (v : Int); omega, by show (v : Int) < 12; omega, im_own u ht h1⟩
  · obtain ⟨v, hv, h1, rfl⟩ := mem_filtB.1 hx
    show (imU G R v).length ≤ 60
    by_cases h : 60 < (imU G R v).length
    · exact absurd ⟨v, hv, h⟩ hl
    · omega
  · obtain ⟨v, hv, h1, rfl⟩ := mem_filtB.1 hx
    have hm := (im_nums u ht h1 z hz).1
    have : -12 ≤ z ∧ z < (ss.length : Int) := by
      rcases hm with h | h
      · exact (valOk_term ha).2.2.1 z h
      · exact (valOk_term hb).2.2.1 z h
    exact ⟨by omega, by omega, hm⟩

theorem unite_few {ss : Sg} {za zb : List Int} {k : Nat} {b : Bool} {G : Fd} (ha : valOk ss za = true) (hb : valOk ss zb = true) (hu : uniteF ss 0 10000 za zb Fd.none = some (k, b, G)) : G.tops.length ≤ 1000 := by
  obtain ⟨ν, _, _, _, _, _, _, hlen⟩ := both_val (sh := 0) (σ := fun _ => [-1]) (by omega) ha hb (fun z hz => scan_neg (by omega))
  have h1 := (valOk_term ha).2.1
  have h2 := (valOk_term hb).2.1
  have hG : G.tops = (addT ss 0 zb (addT ss 0 za Fd.none).2.2).2.2.tops := by
    unfold uniteF at hu
    cases hs : solveF 10000 [((addT ss 0 za Fd.none).1, (addT ss 0 zb (addT ss 0 za Fd.none).2.2).1)] (addT ss 0 zb (addT ss 0 za Fd.none).2.2).2.2 with
    | none => rw [hs] at hu; cases hu
    | some q =>
      obtain ⟨bq, G1⟩ := q
      have ht := solve_tops _ _ _ _ _ hs
      rw [hs] at hu
      cases bq with
      | false =>
        simp only [Option.some.injEq, Prod.mk.injEq] at hu
        rw [← hu.2.2]
        exact ht
      | true =>
        simp only at hu
        cases he : endlessF G1 10000 (addT ss 0 za Fd.none).1 with
        | none => rw [he] at hu; cases hu
        | some en =>
          rw [he] at hu
          simp only [Option.some.injEq, Prod.mk.injEq] at hu
          rw [← hu.2.2]
          exact ht
  rw [hG]
  omega

set_option maxRecDepth 100000 in
set_option maxHeartbeats 2000000 in
theorem uun_small (As Aa Ab : Option Addr) (ns cs na ca nb cb : Nat) (za zb : List Int) (w : World) (ha : IntsAt w w.heap.size Aa na za) (hb : IntsAt w w.heap.size Ab nb zb) (hsm : smallOk ns [(Aa, na, ca), (Ab, nb, cb)] = false) :
    Calls Try.prog 9 #[.slice As ns cs, .slice Aa na ca, .slice Ab nb cb] w fun e w' => e = .returned (.bool true) ∧ Below w.heap.size w w' := by
  have HS := Lib.hid (small_any As (some ⟨w.heap.size, 0, none⟩) ns cs 2 2 [(Aa, na, ca), (Ab, nb, cb)] _ _ (TermsAt.two (ca := ca) (cb := cb) ha hb).hds)
  have HSM := Lib.hid hsm
  clear hsm ha hb
  go_enter Try.func9, Try.ntmps9
  go_wp2_with (first
    | (go_at_call 15; refine HS.out.mono ?_; rintro e w' ⟨rfl, rfl⟩; rw [HSM.out])
    | (go_at_call 17; refine (awake2_any _).mono ?_; rintro e w' ⟨rfl, hB'⟩; have HB' := Lib.hid hB'))
  go_ret
  exact ⟨rfl, below_then (bel_al (Below.refl _ _) _) HB'.out⟩

set_option maxRecDepth 100000 in
set_option maxHeartbeats 8000000 in
theorem uun_err (As Aa Ab : Option Addr) (ns cs na ca nb cb : Nat) (ss : Sg) (za zb : List Int) (bb : List Bd) (er : Int) (w : World) (hs : SigAt w w.heap.size As ns ss) (ha : IntsAt w w.heap.size Aa na za) (hb : IntsAt w w.heap.size Ab nb zb) (hca : na ≤ ca) (hca2 : ca ≤ 9223372036854775807) (hcb : nb ≤ cb) (hcb2 : cb ≤ 9223372036854775807) (hsm : smallOk ns [(Aa, na, ca), (Ab, nb, cb)] = true)
    (hCU : ∀ V, Below w.heap.size w V → Calls Try.prog 38 #[.slice As ns cs, .slice Aa na ca, .slice Ab nb cb] V (RetB V bb er)) (hCR : ∀ V, Below w.heap.size w V → Calls Try.prog 39 #[.slice As ns cs, .slice Aa na ca, .slice Ab nb cb] V (RetUE V er)) (h0 : er ≠ 0) :
    Calls Try.prog 9 #[.slice As ns cs, .slice Aa na ca, .slice Ab nb cb] w fun e w' => e = .returned (.bool true) ∧ Below w.heap.size w w' := by
  have hB0 : Below w.heap.size w (w.alloc (.cells #[.slice Aa na ca, .slice Ab nb cb] 30)) := bel_al (Below.refl _ _) _
  have HS := Lib.hid (small_any As (some ⟨w.heap.size, 0, none⟩) ns cs 2 2 [(Aa, na, ca), (Ab, nb, cb)] _ _ (TermsAt.two (ca := ca) (cb := cb) ha hb).hds)
  have HSM := Lib.hid hsm
  have HB0 := Lib.hid hB0
  have ka : TermK w Aa na ca za := ⟨ha, hca, hca2⟩
  have kb : TermK w Ab nb cb zb := ⟨hb, hcb, hcb2⟩
  have CU := Lib.hid hCU
  have CR := Lib.hid hCR
  have C3 := Lib.hid (fun V (h : Below w.heap.size w V) => unified_all As Aa Ab ns cs na ca nb cb ss za zb V (hs.up h) (ha.up h) (hb.up h))
  have C4 := Lib.hid (fun V (h : Below w.heap.size w V) => refUnified_all As Aa Ab ns cs na ca nb cb ss za zb V (hs.up h) (ka.below h) (kb.below h))
  have C5 := Lib.hid (fun V (h : Below w.heap.size w V) => unifiable_all As Aa Ab ns cs na ca nb cb ss za zb V (hs.up h) (ha.up h) (hb.up h))
  have C6 := Lib.hid (fun V (h : Below w.heap.size w V) => refUnifiable_all As Aa Ab ns cs na ca nb cb ss za zb V (hs.up h) (ka.below h) (kb.below h))
  obtain ⟨q5, hq5⟩ : ∃ q5, hasZ ss 0 za zb = q5 := ⟨_, rfl⟩
  simp only [hq5] at C5 C6
  obtain ⟨Z, hZ⟩ : ∃ Z, comZ ss 0 za zb = Z := ⟨_, rfl⟩
  simp only [hZ] at C3 C4
  obtain ⟨t, g⟩ := Z
  simp only at C3 C4
  have hgg : (g != g) = false := by simp
  have hee : (er != er) = false := by simp
  have hqb : (q5 != q5) = false := by simp
  have hne : (er != 0) = true := by simpa using h0
  clear hs ha hb ka kb hsm hB0 hCU hCR hq5 hZ h0 hca hca2 hcb hcb2
  go_enter Try.func9, Try.ntmps9
  go_wp2_with (first
    | (go_at_call 15; refine HS.out.mono ?_; rintro e w' ⟨rfl, rfl⟩; rw [HSM.out])
    | (go_at_call 38; ((with_reducible refine (CU.out _ HB0.out).mono ?_); rintro e V1 ⟨A1, n1, c1, l1, rfl, hI1, hB1⟩; have HB1 := Lib.hid (below_then HB0.out hB1); clear hI1 hB1))
    | (go_at_call 39; ((with_reducible refine (CR.out _ HB1.out).mono ?_); rintro e V2 ⟨A2, n2, c2, rfl, hB2⟩; have HB2 := Lib.hid (below_then HB1.out hB2); clear hB2))
    | (go_at_call 40; ((with_reducible refine (C3.out _ HB2.out).mono ?_); rintro e V3 ⟨A3, n3, c3, rfl, hI3, hk3, hB3⟩; have HI33 := Lib.hid hI3; have HB3 := Lib.hid (below_then HB2.out hB3); clear hB3 hI3 hk3))
    | (go_at_call 41; ((with_reducible refine (C4.out _ HB3.out).mono ?_); rintro e V4 ⟨A4, n4, c4, rfl, hI4, hk4, hB4⟩; have HI34 := Lib.hid (HI33.out.up hB4); have HI44 := Lib.hid hI4; have HB4 := Lib.hid (below_then HB3.out hB4); clear hB4 hI4 hk4))
    | (go_at_call 26; ((with_reducible refine (same_self _ _ _ _ _ _ t _ _ HI34.out HI44.out).mono ?_); rintro e V5 ⟨rfl, h5⟩; have hB5 : Below V4.heap.size V4 V5 := (by obtain ⟨j5, rfl⟩ := h5; exact below_drewN (Below.refl _ _) j5); have HI35 := Lib.hid (HI34.out.up hB5); have HB5 := Lib.hid (below_then HB4.out hB5); clear h5 hB5))
    | (go_at_call 42; ((with_reducible refine (C5.out _ HB5.out).mono ?_); rintro e V6 ⟨rfl, hB6⟩; have HI36 := Lib.hid (HI35.out.up hB6); have HB6 := Lib.hid (below_then HB5.out hB6); clear hB6))
    | (go_at_call 43; ((with_reducible refine (C6.out _ HB6.out).mono ?_); rintro e V7 ⟨rfl, hB7⟩; have HI37 := Lib.hid (HI36.out.up hB7); have HB7 := Lib.hid (below_then HB6.out hB7); clear hB7))
    | (go_at_call 17; refine (awake2_any _).mono ?_; rintro e VX ⟨rfl, hBX⟩; have HBX := Lib.hid (below_then HB7.out hBX); clear hBX))
  go_ret
  exact ⟨rfl, HBX.out⟩

set_option maxRecDepth 100000 in
set_option maxHeartbeats 8000000 in
theorem uun_ok (As Aa Ab : Option Addr) (ns cs na ca nb cb : Nat) (ss : Sg) (za zb : List Int) (bb : List Bd) (w : World) (hs : SigAt w w.heap.size As ns ss) (ha : IntsAt w w.heap.size Aa na za) (hb : IntsAt w w.heap.size Ab nb zb) (hca : na ≤ ca) (hca2 : ca ≤ 9223372036854775807) (hcb : nb ≤ cb) (hcb2 : cb ≤ 9223372036854775807) (hsm : smallOk ns [(Aa, na, ca), (Ab, nb, cb)] = true)
    (hCU : ∀ V, Below w.heap.size w V → Calls Try.prog 38 #[.slice As ns cs, .slice Aa na ca, .slice Ab nb cb] V (RetB V bb 0)) (hCR : ∀ V, Below w.heap.size w V → Calls Try.prog 39 #[.slice As ns cs, .slice Aa na ca, .slice Ab nb cb] V (RetUE V 0)) (hva : valOk ss za = true) (hvb : valOk ss zb = true) (hG : UnGood ss za zb bb) :
    Calls Try.prog 9 #[.slice As ns cs, .slice Aa na ca, .slice Ab nb cb] w fun e w' => e = .returned (.bool true) ∧ Below w.heap.size w w' := by
  obtain ⟨i0, hi, hz0, hz1, hz2⟩ := info_parts info_int
  have hB0 : Below w.heap.size w (w.alloc (.cells #[.slice Aa na ca, .slice Ab nb cb] 30)) := bel_al (Below.refl _ _) _
  have HS := Lib.hid (small_any As (some ⟨w.heap.size, 0, none⟩) ns cs 2 2 [(Aa, na, ca), (Ab, nb, cb)] _ _ (TermsAt.two (ca := ca) (cb := cb) ha hb).hds)
  have HSM := Lib.hid hsm
  have HB0 := Lib.hid hB0
  have ka : TermK w Aa na ca za := ⟨ha, hca, hca2⟩
  have kb : TermK w Ab nb cb zb := ⟨hb, hcb, hcb2⟩
  have CU := Lib.hid hCU
  have CR := Lib.hid hCR
  have C3 := Lib.hid (fun V (h : Below w.heap.size w V) => unified_all As Aa Ab ns cs na ca nb cb ss za zb V (hs.up h) (ha.up h) (hb.up h))
  have C4 := Lib.hid (fun V (h : Below w.heap.size w V) => refUnified_all As Aa Ab ns cs na ca nb cb ss za zb V (hs.up h) (ka.below h) (kb.below h))
  have C5 := Lib.hid (fun V (h : Below w.heap.size w V) => unifiable_all As Aa Ab ns cs na ca nb cb ss za zb V (hs.up h) (ha.up h) (hb.up h))
  have C6 := Lib.hid (fun V (h : Below w.heap.size w V) => refUnifiable_all As Aa Ab ns cs na ca nb cb ss za zb V (hs.up h) (ka.below h) (kb.below h))
  obtain ⟨ba, offa, rfl, hba, _⟩ := ha.mem (by have := ha.len; have := (valOk_term hva).1; omega)
  obtain ⟨bq, offq, rfl, hbq, _⟩ := hb.mem (by have := hb.len; have := (valOk_term hvb).1; omega)
  have hla : na ≤ 60 := by have := ha.len; have := (valOk_term hva).2.1; omega
  have hlb : nb ≤ 60 := by have := hb.len; have := (valOk_term hvb).2.1; omega
  have hpa : 0 < na := by have := ha.len; have := (valOk_term hva).1; omega
  have hpb : 0 < nb := by have := hb.len; have := (valOk_term hvb).1; omega
  have HNA := Lib.hid (fun V (h : Below w.heap.size w V) => ints_news (ha.up h) rfl hpa)
  have HNB := Lib.hid (fun V (h : Below w.heap.size w V) => ints_news (hb.up h) rfl hpb)
  have HLA := Lib.hid (show (za.map (Value.int .i64)).length = na * 1 by simp [ha.len])
  have HLB := Lib.hid (show (zb.map (Value.int .i64)).length = nb * 1 by simp [hb.len])
  have CV := Lib.hid (fun V (A1 : Option Addr) (n1 c1 : Nat) (l1 : List Hd) (h : Below w.heap.size w V) (hx : BindsAt V V.heap.size A1 n1 l1 bb) (hn : n1 ≤ 1000000) => unifies_any As A1 (some ⟨ba, offa, none⟩) (some ⟨bq, offq, none⟩) ns cs n1 c1 na ca nb cb ss l1 bb za zb V (hs.up h) hx (ha.up h) (hb.up h) hn)
  have CW := Lib.hid (fun V (A1 : Option Addr) (n1 c1 : Nat) (l1 : List Hd) (h : Below w.heap.size w V) (hx : BindsAt V V.heap.size A1 n1 l1 bb) (hn : n1 ≤ 1000000) => solved_any As A1 ns cs n1 c1 ss l1 bb V (hs.up h) hx hn)
  have CP := Lib.hid (fun V (A1 : Option Addr) (n1 c1 : Nat) (l1 : List Hd) (h : Below w.heap.size w V) (hx : BindsAt V V.heap.size A1 n1 l1 bb) (hn : n1 ≤ 1000000) => applyk_any As A1 (some ⟨ba, offa, none⟩) ns cs n1 c1 na ca ss l1 bb za V (hs.up h) hx (ha.up h) hn)
  have CL := Lib.hid (fun (x y : List Int) V (A1 A2 : Option Addr) (n1 n2 k1 k2 : Nat) (h : Below w.heap.size w V) (h1 : IntsAt V V.heap.size A1 n1 x) (h2 : IntsAt V V.heap.size A2 n2 y) => alike_any As A1 A2 ns cs n1 k1 n2 k2 ss x y V (hs.up h) h1 h2)
  simp only [hG.uni] at CV
  simp only [hG.slv] at CW
  have happ := hG.app
  obtain ⟨q5, hq5⟩ : ∃ q5, hasZ ss 0 za zb = q5 := ⟨_, rfl⟩
  simp only [hq5] at C5 C6
  obtain ⟨Z, hZ⟩ : ∃ Z, comZ ss 0 za zb = Z := ⟨_, rfl⟩
  simp only [hZ] at C3 C4
  obtain ⟨t, g⟩ := Z
  simp only at C3 C4
  have hgg : (g != g) = false := by simp
  have hqb : (q5 != q5) = false := by simp
  obtain ⟨X, hX⟩ : ∃ X, applZ ss bb za = X := ⟨_, rfl⟩
  simp only [hX] at CP
  rw [hX, hZ] at happ
  obtain ⟨tx, ex⟩ := X
  simp only at CP happ
  have HAP := Lib.hid happ
  have HG := Lib.hid hG
  have HLEN := Lib.hid hG.few
  have hm60 : ∀ zs : List Int, ∀ x ∈ zs.map (Value.int .i64), x.oneCell' = true := ints_one
  have HONE := Lib.hid hm60
  have HCON := Lib.hid (show ∀ z, (z ∈ za ∨ z ∈ zb) → (za ++ zb).contains z = true from fun z h => List.contains_iff_mem.2 (List.mem_append.2 h))
  clear hs ha hb ka kb hsm hB0 hCU hCR hq5 hZ hX happ hG hm60 hva hvb hca hca2 hcb hcb2 hba hbq
  go_enter Try.func9, Try.ntmps9
  go_wp2_with (first
    | (go_at_call 15; refine HS.out.mono ?_; rintro e w' ⟨rfl, rfl⟩; rw [HSM.out])
    | (go_at_call 38; ((with_reducible refine (CU.out _ HB0.out).mono ?_); rintro e V1 ⟨A1, n1, c1, l1, rfl, hI1, hB1⟩; have HBD1 := Lib.hid hI1; have HB1 := Lib.hid (below_then HB0.out hB1); clear hI1 hB1))
    | (go_at_call 39; ((with_reducible refine (CR.out _ HB1.out).mono ?_); rintro e V2 ⟨A2, n2, c2, rfl, hB2⟩; have HBD2 := Lib.hid (HBD1.out.up hB2); have HB2 := Lib.hid (below_then HB1.out hB2); clear hB2))
    | (go_at_call 40; ((with_reducible refine (C3.out _ HB2.out).mono ?_); rintro e V3 ⟨A3, n3, c3, rfl, hI3, hk3, hB3⟩; have HBD3 := Lib.hid (HBD2.out.up hB3); have HI33 := Lib.hid hI3; have HB3 := Lib.hid (below_then HB2.out hB3); clear hB3 hI3 hk3))
    | (go_at_call 41; ((with_reducible refine (C4.out _ HB3.out).mono ?_); rintro e V4 ⟨A4, n4, c4, rfl, hI4, hk4, hB4⟩; have HBD4 := Lib.hid (HBD3.out.up hB4); have HI34 := Lib.hid (HI33.out.up hB4); have HI44 := Lib.hid hI4; have HB4 := Lib.hid (below_then HB3.out hB4); clear hB4 hI4 hk4))
    | (go_at_call 26; ((with_reducible refine (same_self _ _ _ _ _ _ t _ _ HI34.out HI44.out).mono ?_); rintro e V5 ⟨rfl, h5⟩; have hB5 : Below V4.heap.size V4 V5 := (by obtain ⟨j5, rfl⟩ := h5; exact below_drewN (Below.refl _ _) j5); have HBD5 := Lib.hid (HBD4.out.up hB5); have HI35 := Lib.hid (HI34.out.up hB5); have HB5 := Lib.hid (below_then HB4.out hB5); clear h5 hB5))
    | (go_at_call 42; ((with_reducible refine (C5.out _ HB5.out).mono ?_); rintro e V6 ⟨rfl, hB6⟩; have HBD6 := Lib.hid (HBD5.out.up hB6); have HI36 := Lib.hid (HI35.out.up hB6); have HB6 := Lib.hid (below_then HB5.out hB6); clear hB6))
    | (go_at_call 43; ((with_reducible refine (C6.out _ HB6.out).mono ?_); rintro e V7 ⟨rfl, hB7⟩; have HBD7 := Lib.hid (HBD6.out.up hB7); have HI37 := Lib.hid (HI36.out.up hB7); have HB7 := Lib.hid (below_then HB6.out hB7); clear hB7))
    | (at_builtin
       have HO := (show (V7.alloc (.cells #[] 3)).ownsRow V7.heap.size 3 1 (.slice (some ⟨V7.heap.size, 0, none⟩) 0 0) 0 [] from
         ⟨rfl, .inr ⟨V7.heap.size, 0, #[], rfl, Nat.le_refl _, heap_alloc_new V7 _, Nat.le_refl _, by unfold maxLen; omega, rfl, rfl⟩⟩)
       refine wpList_append_own_at _ rfl _ _ 30 rfl V7.heap.size 3 i0 _ 1 8 Try.underlying30 hi hz0 hz1 hz2 rfl (by omega) (.slice (some ⟨V7.heap.size, 0, none⟩) 0 0) 0 [] rfl HO ⟨ba, offa, none⟩ na ca (za.map (Value.int .i64)) rfl HLA.out (HNA.out _ (bel_al HB7.out _)) (HONE.out za) (by unfold maxLen; omega) (by omega) (by simp) ?_
       intro v8 V8 hown8 hg8 _ _
       have hB8 := (bel_al (Below.refl V7.heap.size V7) (.cells #[] 3)).grown hg8 (by simp) (fun k e => by cases e; exact Nat.le_refl _)
       have hown9 := hown8
       rw [Nat.zero_add, List.nil_append] at hown9
       obtain ⟨g8, c8, e8, hb8, _⟩ := hown9.form (by omega)
       subst e8
       have HOWN8 := Lib.hid hown9
       have HG8 := Lib.hid hb8
       have HBD8 := Lib.hid (HBD7.out.up hB8)
       have HI38 := Lib.hid (HI37.out.up hB8)
       have HB8 := Lib.hid (below_then HB7.out hB8)
       have HB78 := Lib.hid hB8
       clear hown8 hown9 hg8 hB8 HO hb8)
    | (at_builtin
       refine wpList_append_own_at _ rfl _ _ 30 rfl V7.heap.size 3 i0 _ 1 8 Try.underlying30 hi hz0 hz1 hz2 rfl (by omega) (.slice (some ⟨g8, 0, none⟩) na c8) na (za.map (Value.int .i64)) rfl HOWN8.out ⟨bq, offq, none⟩ nb cb (zb.map (Value.int .i64)) rfl HLB.out (HNB.out _ HB8.out) (HONE.out zb) (by unfold maxLen; omega) (by omega) HB78.out.size ?_
       intro v9 V9 hown9 hg9 _ _
       have hB9 : Below V7.heap.size V7 V9 := HB78.out.grown hg9 HB78.out.size (fun k e => by cases e; exact HG8.out)
       obtain ⟨g9, c9, e9, _⟩ := hown9.form (by omega)
       subst e9
       rw [← List.map_append] at hown9
       obtain ⟨A9, k9, e9, hI9⟩ := row_ints hown9 (by omega)
       cases e9
       have HI9 := Lib.hid hI9
       have HBD9 := Lib.hid (HBD7.out.up hB9)
       have HI39 := Lib.hid (HI37.out.up hB9)
       have HB9 := Lib.hid (below_then HB7.out hB9)
       clear hown9 hg9 hB9 hI9))
  have HN1 := Lib.hid (show n1 ≤ 12 by have := HBD9.out.len; have := HLEN.out; omega)
  go_loopw [16] (fun i wr => ∃ q : Nat, q ≤ n1 ∧ i = .int .i64 q ∧ Below V9.heap.size V9 wr) (fun i _ => n1 - (intOf i).toNat)
  case atStart => exact ⟨0, Nat.zero_le _, rfl, Below.refl _ _⟩
  case round =>
    obtain ⟨q, hq, rfl, hBr⟩ := hrel
    have HBR := Lib.hid hBr
    have hn1 := HN1.out
    by_cases hlt : q < n1
    · have hlt' : (q : Int) < (n1 : Int) := by omega
      have hq0 : (0 : Int) ≤ (q : Int) := by omega
      obtain ⟨b, off, v, tt, A', n', c', rfl, hb, cv, ct, hbq, hlq, hIt⟩ := (HBD9.out.up hBr).cellAt hlt
      have hmem := List.mem_of_getElem? hbq
      obtain ⟨o1, o2, o3⟩ := HG.out.own _ hmem
      have hnm := HG.out.nums _ hmem
      simp only at o1 o2 o3 hnm
      have CH := Lib.hid (has_any _ _ c9 (za ++ zb) (-v - 1) wr _ (HI9.out.up hBr))
      rw [HCON.out _ o3] at CH
      have hn'l := hIt.len
      obtain ⟨nv, hnv⟩ : ∃ nv, (vof (seenTo tt n')).length = nv := ⟨_, rfl⟩
      have hnv2 : nv ≤ n' := by have := seenTo_le tt n'; rw [← hnv]; simp only [vof, List.length_map]; exact this
      have hvmax := hIt.max
      have hsh := HG.out.short _ hmem
      have hbig : n' ≤ 1000000 := by simp only at hsh; omega
      have CVA := Lib.hid ((variables_any A' n' c' tt wr hIt hbig (fun z hz => ⟨(hnm z hz).1, (hnm z hz).2.1⟩)).mono (R' := fun e w' => ∃ Av cv, e = .returned (.slice Av nv cv) ∧ IntsAt w' w'.heap.size Av nv (vof (seenTo tt n')) ∧ Below wr.heap.size wr w') (fun e w' hh => by
        obtain ⟨vv, rfl, hrow, hB⟩ := hh
        rw [hnv] at hrow
        obtain ⟨Av, cv', rfl, hI⟩ := row_ints hrow (by omega)
        exact ⟨Av, cv', rfl, hI, hB⟩))
      have HNM := Lib.hid hnm
      have HNV := Lib.hid (show nv ≤ 1000000 by omega)
      clear hBr hb hbq hlq hIt hmem o3 hnm hn'l hnv hnv2 hbig hvmax hsh
      go_wp2_with (first
        | (go_at_call 44; ((with_reducible refine CH.out.mono ?_); rintro e w4 ⟨rfl, rfl⟩))
        | (go_at_call 45; refine CVA.out.mono ?_; rintro e W5 ⟨A5, c5, rfl, hI5, hB5⟩; have HI5 := Lib.hid hI5; have HB5 := Lib.hid (below_then HBR.out hB5); clear hI5 hB5))
      go_loop [18] (fun i => ∃ k : Nat, k ≤ nv ∧ i = .int .i64 k) (fun i => nv - (intOf i).toNat)
      case atStart => exact ⟨0, Nat.zero_le _, rfl⟩
      case round =>
        obtain ⟨k, hk, rfl⟩ := hrel
        have hnv := HNV.out
        by_cases hkt : k < nv
        · have hkt' : (k : Int) < (nv : Int) := by omega
          have hk0 : (0 : Int) ≤ (k : Int) := by omega
          obtain ⟨b5, off5, z, rfl, cz, hk', hz⟩ := HI5.out.cellAt hkt
          have hks : k < (seenTo tt n').length := by simpa [vof] using hk'
          have hzS : z = -(seenTo tt n')[k] - 1 := by rw [← hz]; simp [vof]
          obtain ⟨m1, m2, m3⟩ := HNM.out _ (seen_mem tt n' _ (List.getElem_mem hks))
          have hz1 : -2000000 ≤ z := by omega
          have hz2 : z ≤ 2000000 := by omega
          have CH2 := Lib.hid (has_any _ _ c9 (za ++ zb) (-z - 1) W5 _ (HI9.out.up HB5.out))
          rw [show -z - 1 = (seenTo tt n')[k] by omega, HCON.out _ m3, show (seenTo tt n')[k] = -z - 1 by omega] at CH2
          clear hk' hz hzS m1 m2 m3 hks
          go_wp2_with (go_at_call 44; ((with_reducible refine CH2.out.mono ?_); rintro e w4 ⟨rfl, rfl⟩))
          go_round
          case rel => exact ⟨k + 1, by omega, by go_num⟩
          case measure => simp [intOf]; omega
        · go_wp2
          go_roundw
          case rel => exact ⟨q + 1, by omega, by go_num, HB5.out⟩
          case measure => simp [intOf]; omega
    · have HBDr := Lib.hid (HBD9.out.up hBr)
      have HI3r := Lib.hid (HI39.out.up hBr)
      have HBr := Lib.hid (below_then HB9.out hBr)
      have hq1 : ¬ (q : Int) < (n1 : Int) := by omega
      have CV2 := Lib.hid (CV.out wr _ _ c1 _ HBr.out HBDr.out (by omega))
      have CW2 := Lib.hid (fun V (h : Below wr.heap.size wr V) => CW.out V _ _ c1 _ (below_then HBr.out h) (HBDr.out.up h) (by omega))
      have CP2 := Lib.hid (fun V (h : Below wr.heap.size wr V) => CP.out V _ _ c1 _ (below_then HBr.out h) (HBDr.out.up h) (by omega))
      clear hBr HBR hlt hn1 CV CW CP
      by_cases hex : ex = 0
      · subst hex
        obtain ⟨hg0, hal⟩ := HAP.out rfl
        have hg0' : g = 0 := hg0
        have hal' : alikeOk ss tx t = true := hal
        subst hg0'
        have CL2 := Lib.hid (CL.out tx t)
        simp only [hal'] at CL2
        clear hal hal' CL hg0
        go_wp2_with (first
          | (go_at_call 46; ((with_reducible refine CV2.out.mono ?_); rintro e U1 ⟨rfl, hB1⟩; have HU1 := Lib.hid hB1; clear hB1))
          | (go_at_call 20; ((with_reducible refine (CW2.out _ HU1.out).mono ?_); rintro e U2 ⟨rfl, hB2⟩; have HU2 := Lib.hid (below_then HU1.out hB2); clear hB2))
          | (go_at_call 24; ((with_reducible refine (CP2.out _ HU2.out).mono ?_); rintro e U3 ⟨Ac, nc, cc, rfl, hIc, hkc, hB3⟩; have HIC := Lib.hid hIc; have HU3 := Lib.hid (below_then HU2.out hB3); clear hB3 hIc hkc))
          | (go_at_call 37; ((with_reducible refine (CL2.out _ _ _ _ _ _ _ (below_then HBr.out HU3.out) HIC.out (HI3r.out.up HU3.out)).mono ?_); rintro e U4 ⟨rfl, hB4⟩; have HU4 := Lib.hid (below_then (below_then HBr.out HU3.out) hB4); clear hB4))
          | (go_at_call 17; refine (awake2_any _).mono ?_; rintro e VX ⟨rfl, hBX⟩; have HBX := Lib.hid (below_then HU4.out hBX); clear hBX))
        all_goals
          go_ret
          exact ⟨rfl, HBX.out⟩
      · have hne : (ex != 0) = true := by simpa using hex
        clear hex CL
        go_wp2_with (first
          | (go_at_call 46; ((with_reducible refine CV2.out.mono ?_); rintro e U1 ⟨rfl, hB1⟩; have HU1 := Lib.hid hB1; clear hB1))
          | (go_at_call 20; ((with_reducible refine (CW2.out _ HU1.out).mono ?_); rintro e U2 ⟨rfl, hB2⟩; have HU2 := Lib.hid (below_then HU1.out hB2); clear hB2))
          | (go_at_call 24; ((with_reducible refine (CP2.out _ HU2.out).mono ?_); rintro e U3 ⟨Ac, nc, cc, rfl, hIc, hkc, hB3⟩; have HU4 := Lib.hid (below_then HBr.out (below_then HU2.out hB3)); clear hB3 hIc hkc))
          | (go_at_call 17; refine (awake2_any _).mono ?_; rintro e VX ⟨rfl, hBX⟩; have HBX := Lib.hid (below_then HU4.out hBX); clear hBX))
        all_goals
          go_ret
          exact ⟨rfl, HBX.out⟩

theorem uun_walk (As Aa Ab : Option Addr) (ns cs na ca nb cb : Nat) (ss : Sg) (za zb : List Int) (w : World) (hs : SigAt w w.heap.size As ns ss) (ha : IntsAt w w.heap.size Aa na za ∧ na ≤ ca ∧ ca ≤ 9223372036854775807) (hb : IntsAt w w.heap.size Ab nb zb ∧ nb ≤ cb ∧ cb ≤ 9223372036854775807) :
    Calls Try.prog 9 #[.slice As ns cs, .slice Aa na ca, .slice Ab nb cb] w fun e w' => e = .returned (.bool true) ∧ Below w.heap.size w w' := by
  cases hsm : smallOk ns [(Aa, na, ca), (Ab, nb, cb)]
  · exact uun_small As Aa Ab ns cs na ca nb cb za zb w ha.1 hb.1 hsm
  · obtain ⟨ha1, ha2, ha3⟩ := ha
    obtain ⟨hb1, hb2, hb3⟩ := hb
    have ka : TermK w Aa na ca za := ⟨ha1, ha2, ha3⟩
    have kb : TermK w Ab nb cb zb := ⟨hb1, hb2, hb3⟩
    cases hv : (valOk ss za && valOk ss zb)
    · exact uun_err As Aa Ab ns cs na ca nb cb ss za zb [] 1 w hs ha1 hb1 ha2 ha3 hb2 hb3 hsm (fun V h => unify_bad As Aa Ab ns cs na ca nb cb ss za zb V (hs.up h) (ha1.up h) (hb1.up h) hv) (fun V h => refUnify_bad As Aa Ab ns cs na ca nb cb ss za zb V (hs.up h) (ka.below h) (kb.below h) hv) (by decide)
    · rw [Bool.and_eq_true] at hv
      obtain ⟨hva, hvb⟩ := hv
      obtain ⟨m, bo, T', ρ', k, G, h1, h2, h3, h4, h5, h6, h7⟩ := uni_cases hva hvb
      have hGn : G.tops.length ≤ 1000 := unite_few hva hvb h5
      cases bo with
      | false =>
        exact uun_err As Aa Ab ns cs na ca nb cb ss za zb [] 8 w hs ha1 hb1 ha2 ha3 hb2 hb3 hsm (fun V h => unify_no As Aa Ab ns cs na ca nb cb ss za zb k G V (hs.up h) (ha1.up h) (hb1.up h) hva hvb h5)
          (fun V h => refUnify_good As Aa Ab ns cs na ca nb cb ss za zb m false T' ρ' 8 V (hs.up h) (ka.below h) (kb.below h) hva hvb h1 h4 (fun _ => rfl) (fun h => by cases h) (fun h => by cases h)) (by decide)
      | true =>
        obtain ⟨R, u, ht, hlong⟩ := h7 rfl
        by_cases hl : LongF (imU G R) 12
        · exact uun_err As Aa Ab ns cs na ca nb cb ss za zb [] 4 w hs ha1 hb1 ha2 ha3 hb2 hb3 hsm (fun V h => unify_yes As Aa Ab ns cs na ca nb cb ss za zb k R G ([], 4) V (hs.up h) (ha1.up h) (hb1.up h) hva hvb h5 h6 hGn u ht (fun _ => rfl) (fun hn => absurd hl hn))
            (fun V h => refUnify_good As Aa Ab ns cs na ca nb cb ss za zb m true T' ρ' 4 V (hs.up h) (ka.below h) (kb.below h) hva hvb h1 h4 (fun h => by cases h) (fun _ _ => rfl) (fun _ hn => absurd (hlong.1 hl) hn)) (by decide)
        · exact uun_ok As Aa Ab ns cs na ca nb cb ss za zb (filtB (imU G R) 12) w hs ha1 hb1 ha2 ha3 hb2 hb3 hsm (fun V h => unify_yes As Aa Ab ns cs na ca nb cb ss za zb k R G (filtB (imU G R) 12, 0) V (hs.up h) (ha1.up h) (hb1.up h) hva hvb h5 h6 hGn u ht (fun hn => absurd hn hl) (fun _ => rfl))
            (fun V h => refUnify_good As Aa Ab ns cs na ca nb cb ss za zb m true T' ρ' 0 V (hs.up h) (ka.below h) (kb.below h) hva hvb h1 h4 (fun h => by cases h) (fun _ hn => absurd (hlong.2 hn) hl) (fun _ _ => rfl)) hva hvb (un_good u ht hva hvb h5 hl)

end Go.Proofs.Ytohhgghjpokdiaa
