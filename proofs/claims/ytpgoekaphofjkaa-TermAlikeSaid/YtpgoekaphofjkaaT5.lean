/- The walk of TermAlike. -/
import Derived.Test.YtpgoekaphofjkaaQ4
import Derived.Test.YtpgoekaphofjkaaO3
import Derived.Deep.RegionHeld3
import Derived.Deep.RegionHeldLaw
namespace Go.Proofs.Ytpgoekaphofjkaa
open Go.RowKit

theorem alike_symm (ss : Sg) (a b : List Int) : alikeOk ss b a = alikeOk ss a b := by
  unfold alikeOk valOk
  cases sigOk ss
  · rfl
  · cases termOk ss a <;> cases termOk ss b <;> simp [eq_comm]
theorem alike_refl (ss : Sg) (a : List Int) : alikeOk ss a a = valOk ss a := by
  unfold alikeOk valOk
  cases sigOk ss <;> cases termOk ss a <;> simp
theorem alike_trans (ss : Sg) (a b c : List Int) (h1 : alikeOk ss a b = true) (h2 : alikeOk ss b c = true) : alikeOk ss a c = true := by
  unfold alikeOk at h1 h2 ⊢
  simp only [Bool.and_eq_true, decide_eq_true_eq] at h1 h2 ⊢
  exact ⟨h1.1, h2.2.1, h1.2.2.trans h2.2.2⟩

set_option maxRecDepth 100000 in
set_option maxHeartbeats 2000000 in
theorem alike_walk (As A0 A1 A2 : Option Addr) (ns cs n0 c0 n1 c1 n2 c2 : Nat) (ss : Sg) (x y z : List Int) (w : World) (hs : SigAt w w.heap.size As ns ss) (h0 : IntsAt w w.heap.size A0 n0 x) (h1 : IntsAt w w.heap.size A1 n1 y) (h2 : IntsAt w w.heap.size A2 n2 z) :
    Calls Try.prog 5 #[.slice As ns cs, .agg #[.slice A0 n0 c0, .slice A1 n1 c1, .slice A2 n2 c2]] w fun e w' => e = .returned (.bool true) ∧ Below w.heap.size w w' := by
  obtain ⟨N, hN⟩ : ∃ N, w.heap.size = N := ⟨_, rfl⟩
  obtain ⟨W2, hW2⟩ : ∃ W2, (w.alloc (.cells #[.slice A0 n0 c0, .slice A1 n1 c1, .slice A2 n2 c2] 40)).alloc (.cells #[.slice A0 n0 c0, .slice A1 n1 c1, .slice A2 n2 c2] 25) = W2 := ⟨_, rfl⟩
  have hB : Below w.heap.size w W2 := by rw [← hW2]; exact ((Below.refl _ w).alloc (Nat.le_refl _) _).alloc (by simp) _
  have hz : W2.heap.size = N + 2 := by rw [← hW2]; simp [hN]
  have hsm0 : HdsAt W2 W2.heap.size (some ⟨w.heap.size + 1, 0, none⟩) 3 [(A0, n0, c0), (A1, n1, c1), (A2, n2, c2)] := by
    have := Blk.new (w.alloc (.cells #[.slice A0 n0 c0, .slice A1 n1 c1, .slice A2 n2 c2] 40)) 25 #[.slice A0 n0 c0, .slice A1 n1 c1, .slice A2 n2 c2]
    rw [World.size_alloc, hW2] at this
    exact HdsAt.of_blk _ this rfl rfl (by simp)
  have HSMC := Lib.hid (small_any As _ ns cs 3 3 _ W2 _ hsm0)
  have bx : Blk W2 w.heap.size 40 #[.slice A0 n0 c0, .slice A1 n1 c1, .slice A2 n2 c2] := by
    rw [← hW2]; exact (Blk.new w _ _).alloc _
  rw [hN] at bx HSMC
  have b0 : W2.cell? ⟨N, 0, none⟩ = some (.slice A0 n0 c0) := bx.cell 0
  have b1 : W2.cell? ⟨N, 1, none⟩ = some (.slice A1 n1 c1) := bx.cell 1
  have b2 : W2.cell? ⟨N, 2, none⟩ = some (.slice A2 n2 c2) := bx.cell 2
  have hNlt : N < W2.heap.size := by omega
  have up : ∀ V, Below W2.heap.size W2 V → Below w.heap.size w V := fun V hb => hB.trans (hb.mono hB.size)
  have cells : ∀ V', Below W2.heap.size W2 V' → V'.cell? ⟨N, 0, none⟩ = some (.slice A0 n0 c0) ∧ V'.cell? ⟨N, 1, none⟩ = some (.slice A1 n1 c1) ∧ V'.cell? ⟨N, 2, none⟩ = some (.slice A2 n2 c2) := fun V' hb =>
    ⟨(hb.cell (p := ⟨N, 0, none⟩) hNlt).trans b0, (hb.cell (p := ⟨N, 1, none⟩) hNlt).trans b1, (hb.cell (p := ⟨N, 2, none⟩) hNlt).trans b2⟩
  -- what every call says, in whatever world behind W2
  have K : ∀ {B1 B2 : Option Addr} {m1 d1 m2 d2 : Nat} {p q : List Int}, IntsAt w w.heap.size B1 m1 p → IntsAt w w.heap.size B2 m2 q → ∀ V, Below W2.heap.size W2 V → Calls Try.prog 33 #[.slice As ns cs, .slice B1 m1 d1, .slice B2 m2 d2] V fun e V' => e = .returned (.bool (alikeOk ss p q)) ∧ Below W2.heap.size W2 V' ∧ V'.cell? ⟨N, 0, none⟩ = some (.slice A0 n0 c0) ∧ V'.cell? ⟨N, 1, none⟩ = some (.slice A1 n1 c1) ∧ V'.cell? ⟨N, 2, none⟩ = some (.slice A2 n2 c2) := fun hp hq V hb =>
    (alike_any As _ _ ns cs _ _ _ _ ss _ _ V (hs.up (up V hb)) (hp.up (up V hb)) (hq.up (up V hb))).mono fun e V' ⟨g1, g2⟩ => ⟨g1, hb.trans (g2.mono hb.size), cells _ (hb.trans (g2.mono hb.size))⟩
  have R : ∀ {B1 B2 : Option Addr} {m1 d1 m2 d2 : Nat} {p q : List Int}, IntsAt w w.heap.size B1 m1 p → IntsAt w w.heap.size B2 m2 q → ∀ V, Below W2.heap.size W2 V → Calls Try.prog 34 #[.slice As ns cs, .slice B1 m1 d1, .slice B2 m2 d2] V fun e V' => e = .returned (.bool (alikeOk ss p q)) ∧ Below W2.heap.size W2 V' ∧ V'.cell? ⟨N, 0, none⟩ = some (.slice A0 n0 c0) ∧ V'.cell? ⟨N, 1, none⟩ = some (.slice A1 n1 c1) ∧ V'.cell? ⟨N, 2, none⟩ = some (.slice A2 n2 c2) := fun hp hq V hb =>
    (refAlike_any As _ _ ns cs _ _ _ _ ss _ _ V (hs.up (up V hb)) (hp.up (up V hb)) (hq.up (up V hb))).mono fun e V' ⟨g1, g2⟩ => ⟨g1, hb.trans (g2.mono hb.size), cells _ (hb.trans (g2.mono hb.size))⟩
  have KV := Lib.hid (fun V (hb : Below W2.heap.size W2 V) => (valid_any As A0 ns cs n0 c0 ss x V (hs.up (up V hb)) (h0.up (up V hb))).mono (R' := fun e V' => e = .returned (.bool (valOk ss x)) ∧ Below W2.heap.size W2 V' ∧ V'.cell? ⟨N, 0, none⟩ = some (.slice A0 n0 c0) ∧ V'.cell? ⟨N, 1, none⟩ = some (.slice A1 n1 c1) ∧ V'.cell? ⟨N, 2, none⟩ = some (.slice A2 n2 c2)) fun e V' ⟨g1, g2⟩ => ⟨g1, hb.trans (g2.mono hb.size), cells _ (hb.trans (g2.mono hb.size))⟩)
  have KW := Lib.hid (fun V (hb : Below W2.heap.size W2 V) => (awake_any V).mono (R' := fun e V' => e = .returned (.bool true) ∧ Below W2.heap.size W2 V' ∧ V'.cell? ⟨N, 0, none⟩ = some (.slice A0 n0 c0) ∧ V'.cell? ⟨N, 1, none⟩ = some (.slice A1 n1 c1) ∧ V'.cell? ⟨N, 2, none⟩ = some (.slice A2 n2 c2)) fun e V' ⟨g1, g2⟩ => ⟨g1, hb.trans (g2.mono hb.size), cells _ (hb.trans (g2.mono hb.size))⟩)
  have K01 := Lib.hid (K (d1 := c0) (d2 := c1) h0 h1)
  have K12 := Lib.hid (K (d1 := c1) (d2 := c2) h1 h2)
  have K02 := Lib.hid (K (d1 := c0) (d2 := c2) h0 h2)
  have K10 := Lib.hid (K (d1 := c1) (d2 := c0) h1 h0)
  have K00 := Lib.hid (K (d1 := c0) (d2 := c0) h0 h0)
  have R01 := Lib.hid (R (d1 := c0) (d2 := c1) h0 h1)
  have R12 := Lib.hid (R (d1 := c1) (d2 := c2) h1 h2)
  have R02 := Lib.hid (R (d1 := c0) (d2 := c2) h0 h2)
  have hsy := alike_symm ss x y
  have htr := alike_trans ss x y z
  have hrf := alike_refl ss x
  rw [hrf] at K00
  rw [hsy] at K10
  obtain ⟨a, ha⟩ : ∃ a, alikeOk ss x y = a := ⟨_, rfl⟩
  obtain ⟨b, hb⟩ : ∃ b, alikeOk ss y z = b := ⟨_, rfl⟩
  obtain ⟨c, hc⟩ : ∃ c, alikeOk ss x z = c := ⟨_, rfl⟩
  obtain ⟨v, hv⟩ : ∃ v, valOk ss x = v := ⟨_, rfl⟩
  rw [ha, hb, hc] at htr
  rw [ha] at K01 R01 K10
  rw [hb] at K12 R12
  rw [hc] at K02 R02
  rw [hv] at K00 KV
  have HB0 := Lib.hid hB
  have HUP := Lib.hid up
  have HTR := Lib.hid htr
  have HW2 := Lib.hid hW2
  have HN := Lib.hid hN
  have HD0 : Hid (Below W2.heap.size W2 W2.drew) := (Below.refl _ _).drew
  clear K R hsy htr hrf ha hb hc hv hB up hW2 cells bx hsm0 hz hs h0 h1 h2
  cases hsm : smallOk ns [(A0, n0, c0), (A1, n1, c1), (A2, n2, c2)]
  · have HSM := Lib.hid hsm
    clear hsm
    rw [hN]
    clear hN
    go_enter Try.func5, Try.ntmps5
    go_wp2_with fail
    rw [HW2.out, HN.out]
    go_wp2_with (first
      | (go_at_call 13; refine HSMC.out.mono ?_; rintro e w' ⟨rfl, rfl⟩; rw [HSM.out])
      | (go_at_call 14; refine (KW.out _ (Below.refl _ _)).mono ?_; rintro e w' ⟨rfl, hB', _⟩; have HB' := Lib.hid hB'))
    go_ret
    exact ⟨rfl, by rw [← HN.out]; exact HUP.out _ HB'.out⟩
  · have HSM := Lib.hid hsm
    clear hsm
    rw [hN]
    clear hN
    go_enter Try.func5, Try.ntmps5
    go_wp2_with fail
    rw [HW2.out, HN.out]
    go_wp2_with (go_at_call 13; refine HSMC.out.mono ?_; rintro e w' ⟨rfl, rfl⟩; rw [HSM.out])
    go_region_held3 (fun w' => w'.cell? ⟨N, 0, none⟩ = some (.slice A0 n0 c0) ∧ w'.cell? ⟨N, 1, none⟩ = some (.slice A1 n1 c1) ∧ w'.cell? ⟨N, 2, none⟩ = some (.slice A2 n2 c2))
      (first | go_keep | assumption | (exact ⟨by assumption, by assumption, by assumption⟩))
      (first
        | (go_at_call 33; ((with_reducible refine (K01.out _ HD0.out).mono ?_); rintro e V1 ⟨rfl, hB1, e10, e11, e12⟩; have HB1 := Lib.hid hB1; clear hB1))
        | (go_at_call 33; ((with_reducible refine (K12.out _ HB1.out).mono ?_); rintro e V2 ⟨rfl, hB2, e20, e21, e22⟩; have HB2 := Lib.hid hB2; clear hB2))
        | (go_at_call 33; ((with_reducible refine (K02.out _ HB2.out).mono ?_); rintro e V3 ⟨rfl, hB3, e30, e31, e32⟩; have HB3 := Lib.hid hB3; clear hB3)))
    go_wp2_with (first
      | (go_at_call 34; ((with_reducible refine (R01.out _ HB3.out).mono ?_); rintro e V4 ⟨rfl, hB4, e40, e41, e42⟩; have HB4 := Lib.hid hB4; clear hB4))
      | (go_at_call 34; ((with_reducible refine (R12.out _ HB4.out).mono ?_); rintro e V5 ⟨rfl, hB5, e50, e51, e52⟩; have HB5 := Lib.hid hB5; clear hB5))
      | (go_at_call 34; ((with_reducible refine (R02.out _ HB5.out).mono ?_); rintro e V6 ⟨rfl, hB6, e60, e61, e62⟩; have HB6 := Lib.hid hB6; clear hB6))
      | (go_at_call 33; ((with_reducible refine (K10.out _ HB6.out).mono ?_); rintro e V7 ⟨rfl, hB7, e70, e71, e72⟩; have HB7 := Lib.hid hB7; clear hB7)))
    have HD7 : Hid (Below W2.heap.size W2 V7.drew) := HB7.out.drew
    clear e10 e11 e12 e20 e21 e22 e30 e31 e32 e40 e41 e42 e50 e51 e52 e60 e61 e62 b0 b1 b2
    cases a
    · clear HTR
      cases v
      · first | (go_region_held_law (fun w' => w'.cell? ⟨N, 0, none⟩ = some (.slice A0 n0 c0) ∧ w'.cell? ⟨N, 1, none⟩ = some (.slice A1 n1 c1) ∧ w'.cell? ⟨N, 2, none⟩ = some (.slice A2 n2 c2))
          (first | go_keep | assumption | (exact ⟨by assumption, by assumption, by assumption⟩))
          (first
            | (go_at_call 33; ((with_reducible refine (K00.out _ HD7.out).mono ?_); rintro e V8 ⟨rfl, hB8, e80, e81, e82⟩; have HB8 := Lib.hid hB8; clear hB8))
            | (go_at_call 17; ((with_reducible refine (KV.out _ HB8.out).mono ?_); rintro e V9 ⟨rfl, hB9, e90, e91, e92⟩; have HB9 := Lib.hid hB9; clear hB9))
            | (go_at_call 14; ((with_reducible refine (KW.out _ HB9.out).mono ?_); rintro e VA ⟨rfl, hBA, ea0, ea1, ea2⟩; have HBA := Lib.hid hBA; clear hBA)))) | fail "held"
        go_wp2
        go_ret
        exact ⟨rfl, by rw [← HN.out]; exact HUP.out _ HBA.out⟩
      · first | (go_region_held_law (fun w' => w'.cell? ⟨N, 0, none⟩ = some (.slice A0 n0 c0) ∧ w'.cell? ⟨N, 1, none⟩ = some (.slice A1 n1 c1) ∧ w'.cell? ⟨N, 2, none⟩ = some (.slice A2 n2 c2))
          (first | go_keep | assumption | (exact ⟨by assumption, by assumption, by assumption⟩))
          (first
            | (go_at_call 33; ((with_reducible refine (K00.out _ HD7.out).mono ?_); rintro e V8 ⟨rfl, hB8, e80, e81, e82⟩; have HB8 := Lib.hid hB8; clear hB8))
            | (go_at_call 17; ((with_reducible refine (KV.out _ HB8.out).mono ?_); rintro e V9 ⟨rfl, hB9, e90, e91, e92⟩; have HB9 := Lib.hid hB9; clear hB9))
            | (go_at_call 14; ((with_reducible refine (KW.out _ HB9.out).mono ?_); rintro e VA ⟨rfl, hBA, ea0, ea1, ea2⟩; have HBA := Lib.hid hBA; clear hBA)))) | fail "held"
        go_wp2
        go_ret
        exact ⟨rfl, by rw [← HN.out]; exact HUP.out _ HBA.out⟩
    · cases b
      · clear HTR
        cases v
        · first | (go_region_held_law (fun w' => w'.cell? ⟨N, 0, none⟩ = some (.slice A0 n0 c0) ∧ w'.cell? ⟨N, 1, none⟩ = some (.slice A1 n1 c1) ∧ w'.cell? ⟨N, 2, none⟩ = some (.slice A2 n2 c2))
            (first | go_keep | assumption | (exact ⟨by assumption, by assumption, by assumption⟩))
            (first
              | (go_at_call 33; ((with_reducible refine (K00.out _ HD7.out).mono ?_); rintro e V8 ⟨rfl, hB8, e80, e81, e82⟩; have HB8 := Lib.hid hB8; clear hB8))
              | (go_at_call 17; ((with_reducible refine (KV.out _ HB8.out).mono ?_); rintro e V9 ⟨rfl, hB9, e90, e91, e92⟩; have HB9 := Lib.hid hB9; clear hB9))
              | (go_at_call 14; ((with_reducible refine (KW.out _ HB9.out).mono ?_); rintro e VA ⟨rfl, hBA, ea0, ea1, ea2⟩; have HBA := Lib.hid hBA; clear hBA)))) | fail "held"
          go_wp2
          go_ret
          exact ⟨rfl, by rw [← HN.out]; exact HUP.out _ HBA.out⟩
        · first | (go_region_held_law (fun w' => w'.cell? ⟨N, 0, none⟩ = some (.slice A0 n0 c0) ∧ w'.cell? ⟨N, 1, none⟩ = some (.slice A1 n1 c1) ∧ w'.cell? ⟨N, 2, none⟩ = some (.slice A2 n2 c2))
            (first | go_keep | assumption | (exact ⟨by assumption, by assumption, by assumption⟩))
            (first
              | (go_at_call 33; ((with_reducible refine (K00.out _ HD7.out).mono ?_); rintro e V8 ⟨rfl, hB8, e80, e81, e82⟩; have HB8 := Lib.hid hB8; clear hB8))
              | (go_at_call 17; ((with_reducible refine (KV.out _ HB8.out).mono ?_); rintro e V9 ⟨rfl, hB9, e90, e91, e92⟩; have HB9 := Lib.hid hB9; clear hB9))
              | (go_at_call 14; ((with_reducible refine (KW.out _ HB9.out).mono ?_); rintro e VA ⟨rfl, hBA, ea0, ea1, ea2⟩; have HBA := Lib.hid hBA; clear hBA)))) | fail "held"
          go_wp2
          go_ret
          exact ⟨rfl, by rw [← HN.out]; exact HUP.out _ HBA.out⟩
      · obtain rfl := HTR.out rfl rfl
        clear HTR
        cases v
        · first | (go_region_held_law (fun w' => w'.cell? ⟨N, 0, none⟩ = some (.slice A0 n0 c0) ∧ w'.cell? ⟨N, 1, none⟩ = some (.slice A1 n1 c1) ∧ w'.cell? ⟨N, 2, none⟩ = some (.slice A2 n2 c2))
            (first | go_keep | assumption | (exact ⟨by assumption, by assumption, by assumption⟩))
            (first
              | (go_at_call 33; ((with_reducible refine (K00.out _ HD7.out).mono ?_); rintro e V8 ⟨rfl, hB8, e80, e81, e82⟩; have HB8 := Lib.hid hB8; clear hB8))
              | (go_at_call 17; ((with_reducible refine (KV.out _ HB8.out).mono ?_); rintro e V9 ⟨rfl, hB9, e90, e91, e92⟩; have HB9 := Lib.hid hB9; clear hB9))
              | (go_at_call 14; ((with_reducible refine (KW.out _ HB9.out).mono ?_); rintro e VA ⟨rfl, hBA, ea0, ea1, ea2⟩; have HBA := Lib.hid hBA; clear hBA)))) | fail "held"
          go_wp2
          go_ret
          exact ⟨rfl, by rw [← HN.out]; exact HUP.out _ HBA.out⟩
        · first | (go_region_held_law (fun w' => w'.cell? ⟨N, 0, none⟩ = some (.slice A0 n0 c0) ∧ w'.cell? ⟨N, 1, none⟩ = some (.slice A1 n1 c1) ∧ w'.cell? ⟨N, 2, none⟩ = some (.slice A2 n2 c2))
            (first | go_keep | assumption | (exact ⟨by assumption, by assumption, by assumption⟩))
            (first
              | (go_at_call 33; ((with_reducible refine (K00.out _ HD7.out).mono ?_); rintro e V8 ⟨rfl, hB8, e80, e81, e82⟩; have HB8 := Lib.hid hB8; clear hB8))
              | (go_at_call 17; ((with_reducible refine (KV.out _ HB8.out).mono ?_); rintro e V9 ⟨rfl, hB9, e90, e91, e92⟩; have HB9 := Lib.hid hB9; clear hB9))
              | (go_at_call 14; ((with_reducible refine (KW.out _ HB9.out).mono ?_); rintro e VA ⟨rfl, hBA, ea0, ea1, ea2⟩; have HBA := Lib.hid hBA; clear hBA)))) | fail "held"
          go_wp2
          go_ret
          exact ⟨rfl, by rw [← HN.out]; exact HUP.out _ HBA.out⟩

end Go.Proofs.Ytpgoekaphofjkaa
