/- The walk of TermOrder. -/
import Derived.Test.YtpgoekaphofjkaaO2
import Derived.Test.YtpgoekaphofjkaaO3
namespace Go.Proofs.Ytpgoekaphofjkaa
open Go.RowKit

theorem IntsAt.drewN {w : World} {B : Nat} {A : Option Addr} {n : Nat} {zs : List Int} (h : IntsAt w B A n zs) (k : Nat) : IntsAt (w.drewN k) B A n zs := h.keep fun _ _ => rfl
theorem IntsAt.drew {w : World} {B : Nat} {A : Option Addr} {n : Nat} {zs : List Int} (h : IntsAt w B A n zs) : IntsAt w.drew B A n zs := h.keep fun _ _ => rfl
theorem quiet_left' {P : Program} {f : FuncId} {args : Array Value} {w : World} {n : Nat} {v : Value}
    (h : Calls P f args (w.drewN n) fun e w' => e = .returned v ∧ w.drewN n = w') : Calls P f args (w.drewN n) fun e w' => e = .returned v ∧ ∃ m, w' = w.drewN m :=
  h.mono fun _ _ ⟨he, hm⟩ => ⟨he, n, hm.symm⟩

theorem cmpI_neg (x y : Int) : cmpI y x = - cmpI x y := by
  unfold cmpI
  by_cases h1 : x < y
  · rw [if_neg (by omega), if_pos h1, if_pos h1]; rfl
  · by_cases h2 : y < x
    · rw [if_pos h2, if_neg h1, if_pos h2]
    · rw [if_neg h2, if_neg h1, if_neg h1, if_neg h2]; rfl
theorem cmpI_bd (x y : Int) : -1 ≤ cmpI x y ∧ cmpI x y ≤ 1 := by
  unfold cmpI; split
  · omega
  · split <;> omega
theorem lexC_bd : ∀ (xs ys : List Int), -1 ≤ lexC xs ys ∧ lexC xs ys ≤ 1
  | [], [] => by simp [lexC]
  | [], _ :: _ => by simp [lexC]
  | _ :: _, [] => by simp [lexC]
  | x :: xs, y :: ys => by
    simp only [lexC]
    split
    · exact lexC_bd xs ys
    · exact cmpI_bd x y
theorem cmpL_bd (xs ys : List Int) : -1 ≤ cmpL xs ys ∧ cmpL xs ys ≤ 1 := by
  unfold cmpL; split
  · exact lexC_bd xs ys
  · exact cmpI_bd _ _
theorem lexC_neg : ∀ (xs ys : List Int), lexC ys xs = - lexC xs ys
  | [], [] => by simp [lexC]
  | [], _ :: _ => by simp [lexC]
  | _ :: _, [] => by simp [lexC]
  | x :: xs, y :: ys => by
    simp only [lexC]
    rw [cmpI_neg x y]
    by_cases h : cmpI x y = 0
    · rw [if_pos (by omega), if_pos h]; exact lexC_neg xs ys
    · rw [if_neg (by omega), if_neg h]
theorem cmpL_neg (xs ys : List Int) : cmpL ys xs = - cmpL xs ys := by
  unfold cmpL
  by_cases h : xs.length = ys.length
  · rw [if_pos h, if_pos h.symm]; exact lexC_neg xs ys
  · rw [if_neg h, if_neg (fun e => h e.symm)]; exact cmpI_neg _ _
theorem cmpI_le {x y : Int} : cmpI x y ≤ 0 ↔ x ≤ y := by
  unfold cmpI; split
  · constructor <;> intro h <;> omega
  · split
    · constructor <;> intro h <;> omega
    · constructor <;> intro h <;> omega
theorem lexC_trans : ∀ (xs ys zs : List Int), lexC xs ys ≤ 0 → lexC ys zs ≤ 0 → lexC xs zs ≤ 0
  | [], _, [], _, _ => by simp [lexC]
  | [], _, _ :: _, _, _ => by simp [lexC]
  | _ :: _, [], _, h, _ => by simp [lexC] at h
  | _ :: _, _ :: _, [], _, h => by simp [lexC] at h
  | x :: xs, y :: ys, z :: zs, h1, h2 => by
    simp only [lexC] at h1 h2 ⊢
    by_cases e1 : cmpI x y = 0
    · rw [if_pos e1] at h1
      obtain rfl := cmpI_zero.1 e1
      by_cases e2 : cmpI x z = 0
      · rw [if_pos e2] at h2 ⊢
        exact lexC_trans xs ys zs h1 h2
      · rw [if_neg e2] at h2 ⊢
        exact h2
    · rw [if_neg e1] at h1
      have l1 := cmpI_le.1 h1
      have n1 : x ≠ y := fun e => e1 (cmpI_zero.2 e)
      have l2 : y ≤ z := by
        by_cases e2 : cmpI y z = 0
        · have := cmpI_zero.1 e2; omega
        · rw [if_neg e2] at h2; exact cmpI_le.1 h2
      rw [if_neg (fun e => by have := cmpI_zero.1 e; omega)]
      exact cmpI_le.2 (by omega)
theorem cmpL_trans (xs ys zs : List Int) (h1 : cmpL xs ys ≤ 0) (h2 : cmpL ys zs ≤ 0) : cmpL xs zs ≤ 0 := by
  have q1 : xs.length ≤ ys.length := by
    unfold cmpL at h1
    split at h1
    · omega
    · have := cmpI_le.1 h1; omega
  have q2 : ys.length ≤ zs.length := by
    unfold cmpL at h2
    split at h2
    · omega
    · have := cmpI_le.1 h2; omega
  by_cases e : xs.length = zs.length
  · unfold cmpL at h1 h2 ⊢
    rw [if_pos (by omega)] at h1 h2
    rw [if_pos e]
    exact lexC_trans _ _ _ h1 h2
  · unfold cmpL
    rw [if_neg e]
    exact cmpI_le.2 (by omega)
theorem lexC_zero : ∀ (xs ys : List Int), lexC xs ys = 0 ↔ xs = ys
  | [], [] => by simp [lexC]
  | [], _ :: _ => by simp [lexC]
  | _ :: _, [] => by simp [lexC]
  | x :: xs, y :: ys => by
    simp only [lexC]
    by_cases h : cmpI x y = 0
    · rw [if_pos h, lexC_zero xs ys]
      have := cmpI_zero.1 h
      simp [this]
    · rw [if_neg h]
      have : x ≠ y := fun e => h (cmpI_zero.2 e)
      simp [this, h]
theorem cmpL_zero (xs ys : List Int) : (cmpL xs ys == 0) = decide (xs = ys) := by
  unfold cmpL
  by_cases h : xs.length = ys.length
  · rw [if_pos h]
    by_cases e : xs = ys
    · rw [(lexC_zero xs ys).2 e]; simp [e]
    · have : lexC xs ys ≠ 0 := fun h => e ((lexC_zero xs ys).1 h)
      simp [e, this]
  · rw [if_neg h]
    have e : xs ≠ ys := fun e => h (by rw [e])
    have : cmpI (xs.length : Int) (ys.length : Int) ≠ 0 := fun q => h (by have := cmpI_zero.1 q; omega)
    simp [e, this]

set_option maxRecDepth 100000 in
set_option maxHeartbeats 1000000 in
theorem order_walk (A0 A1 A2 : Option Addr) (n0 c0 n1 c1 n2 c2 : Nat) (x y z : List Int) (w : World) (h0 : IntsAt w w.heap.size A0 n0 x) (h1 : IntsAt w w.heap.size A1 n1 y) (h2 : IntsAt w w.heap.size A2 n2 z) :
    Calls Try.prog 12 #[.agg #[.slice A0 n0 c0, .slice A1 n1 c1, .slice A2 n2 c2]] w fun e w' => e = .returned (.bool true) ∧ Below w.heap.size w w' := by
  obtain ⟨W2, hW2⟩ : ∃ W2, (w.alloc (.cells #[.slice A0 n0 c0, .slice A1 n1 c1, .slice A2 n2 c2] 40)).alloc (.cells #[.slice A0 n0 c0, .slice A1 n1 c1, .slice A2 n2 c2] 25) = W2 := ⟨_, rfl⟩
  have hB : Below w.heap.size w W2 := by rw [← hW2]; exact ((Below.refl _ w).alloc (Nat.le_refl _) _).alloc (by simp) _
  have hs : HdsAt W2 W2.heap.size (some ⟨w.heap.size + 1, 0, none⟩) 3 [(A0, n0, c0), (A1, n1, c1), (A2, n2, c2)] := by
    have := Blk.new (w.alloc (.cells #[.slice A0 n0 c0, .slice A1 n1 c1, .slice A2 n2 c2] 40)) 25 #[.slice A0 n0 c0, .slice A1 n1 c1, .slice A2 n2 c2]
    rw [World.size_alloc, hW2] at this
    exact HdsAt.of_blk _ this rfl rfl (by simp)
  have k0 := h0.below hB
  have k1 := h1.below hB
  have k2 := h2.below hB
  have HS := Lib.hid (fun (As : Option Addr) (ns cs : Nat) => small_any As _ ns cs 3 3 _ W2 _ hs)
  have bx : Blk W2 w.heap.size 40 #[.slice A0 n0 c0, .slice A1 n1 c1, .slice A2 n2 c2] := by
    rw [← hW2]; exact (Blk.new w _ _).alloc _
  have b0 : W2.cell? ⟨w.heap.size, 0, none⟩ = some (.slice A0 n0 c0) := bx.cell 0
  have b1 : W2.cell? ⟨w.heap.size, 1, none⟩ = some (.slice A1 n1 c1) := bx.cell 1
  have b2 : W2.cell? ⟨w.heap.size, 2, none⟩ = some (.slice A2 n2 c2) := bx.cell 2
  have HB := Lib.hid hB
  have K0 := Lib.hid k0
  have K1 := Lib.hid k1
  have K2 := Lib.hid k2
  clear h0 h1 h2 hB hs k0 k1 k2 bx
  cases hsm : smallOk 0 [(A0, n0, c0), (A1, n1, c1), (A2, n2, c2)]
  · have HSM := Lib.hid hsm
    have HW2 := Lib.hid hW2
    clear hsm hW2
    go_enter Try.func12, Try.ntmps12
    go_wp2_with fail
    rw [HW2.out]
    go_wp2_with (first
      | (go_at_call 13; refine (HS.out _ _ _).mono ?_; rintro e w' ⟨rfl, rfl⟩; rw [HSM.out])
      | (go_at_call 14; refine (awake_any _).mono ?_; rintro e w' ⟨rfl, hB'⟩; have HB' := Lib.hid hB'))
    go_ret
    exact ⟨rfl, HB.out.trans (HB'.out.mono HB.out.size)⟩
  · have HSM := Lib.hid hsm
    have HW2 := Lib.hid hW2
    have hz := cmpL_zero x y
    have hn := cmpL_neg x y
    obtain ⟨hl1, hl2⟩ := cmpL_bd x y
    have htr := cmpL_trans x y z
    have DX := Lib.hid (fun (nq : Nat) => (compare_any A0 A1 n0 c0 n1 c1 x y (W2.drewN nq) _ (K0.out.drewN nq) (K1.out.drewN nq)))
    have DY := Lib.hid (fun (nq : Nat) => (compare_any A1 A2 n1 c1 n2 c2 y z (W2.drewN nq) _ (K1.out.drewN nq) (K2.out.drewN nq)))
    have DZ := Lib.hid (fun (nq : Nat) => (compare_any A0 A2 n0 c0 n2 c2 x z (W2.drewN nq) _ (K0.out.drewN nq) (K2.out.drewN nq)))
    have DN := Lib.hid (fun (nq : Nat) => (compare_any A1 A0 n1 c1 n0 c0 y x (W2.drewN nq) _ (K1.out.drewN nq) (K0.out.drewN nq)))
    have RX := Lib.hid (fun (nq : Nat) => (refCompare_any A0 A1 n0 c0 n1 c1 x y (W2.drewN nq) _ (K0.out.drewN nq) (K1.out.drewN nq)))
    have RY := Lib.hid (fun (nq : Nat) => (refCompare_any A1 A2 n1 c1 n2 c2 y z (W2.drewN nq) _ (K1.out.drewN nq) (K2.out.drewN nq)))
    have RZ := Lib.hid (fun (nq : Nat) => (refCompare_any A0 A2 n0 c0 n2 c2 x z (W2.drewN nq) _ (K0.out.drewN nq) (K2.out.drewN nq)))
    have SX := Lib.hid (fun (nq : Nat) => (same_any A0 A1 n0 c0 n1 c1 x y (W2.drewN nq) _ (K0.out.drewN nq) (K1.out.drewN nq)))
    obtain ⟨a, ha⟩ : ∃ a, cmpL x y = a := ⟨_, rfl⟩
    obtain ⟨b, hb⟩ : ∃ b, cmpL y z = b := ⟨_, rfl⟩
    obtain ⟨c, hc⟩ : ∃ c, cmpL x z = c := ⟨_, rfl⟩
    obtain ⟨d, hd⟩ : ∃ d, decide (x = y) = d := ⟨_, rfl⟩
    rw [ha, hd] at hz
    rw [ha] at hn hl1 hl2
    rw [ha, hb, hc] at htr
    simp only [hn] at DN
    simp only [ha] at DX RX
    simp only [hb] at DY RY
    simp only [hc] at DZ RZ
    simp only [hd] at SX
    have hz2 : ((a == 0) == d) = true := by rw [hz]; simp
    have HZ := Lib.hid hz
    clear hsm hW2 hz hn ha hb hc hd
    go_enter Try.func12, Try.ntmps12
    go_wp2_with fail
    rw [HW2.out]
    go_wp2_with (go_at_call 13; refine (HS.out _ _ _).mono ?_; rintro e w' ⟨rfl, rfl⟩; rw [HSM.out])
    go_quiet ((first | (go_at_call 49; with_reducible exact quiet_left' (DX.out _)) | (go_at_call 49; with_reducible exact quiet_left' (DY.out _)) | (go_at_call 49; with_reducible exact quiet_left' (DZ.out _))))
    by_cases ha : 0 < a
    · clear htr
      go_wp2_with (first
        | (go_at_call 50; ((with_reducible refine (RX.out _).mono ?_); rintro e w' ⟨rfl, j1, rfl⟩))
        | (go_at_call 50; ((with_reducible refine (RY.out _).mono ?_); rintro e w' ⟨rfl, j2, rfl⟩))
        | (go_at_call 50; ((with_reducible refine (RZ.out _).mono ?_); rintro e w' ⟨rfl, j3, rfl⟩))
        | (go_at_call 49; ((with_reducible refine (DN.out _).mono ?_); rintro e w' ⟨rfl, rfl⟩))
        | (go_at_call 28; ((with_reducible refine (SX.out _).mono ?_); rintro e w' ⟨rfl, j4, rfl⟩))
        | (go_at_call 14; refine (awake_any _).mono ?_; rintro e w' ⟨rfl, hB'⟩; have HB' := Lib.hid hB'))
      go_ret
      exact ⟨rfl, (below_drewN HB.out _).trans (HB'.out.mono HB.out.size)⟩
    · by_cases hb : 0 < b
      · clear htr
        go_wp2_with (first
          | (go_at_call 50; ((with_reducible refine (RX.out _).mono ?_); rintro e w' ⟨rfl, j1, rfl⟩))
          | (go_at_call 50; ((with_reducible refine (RY.out _).mono ?_); rintro e w' ⟨rfl, j2, rfl⟩))
          | (go_at_call 50; ((with_reducible refine (RZ.out _).mono ?_); rintro e w' ⟨rfl, j3, rfl⟩))
          | (go_at_call 49; ((with_reducible refine (DN.out _).mono ?_); rintro e w' ⟨rfl, rfl⟩))
          | (go_at_call 28; ((with_reducible refine (SX.out _).mono ?_); rintro e w' ⟨rfl, j4, rfl⟩))
          | (go_at_call 14; refine (awake_any _).mono ?_; rintro e w' ⟨rfl, hB'⟩; have HB' := Lib.hid hB'))
        go_ret
        exact ⟨rfl, (below_drewN HB.out _).trans (HB'.out.mono HB.out.size)⟩
      · have hc : c ≤ 0 := htr (by omega) (by omega)
        have ha' : a ≤ 0 := by omega
        have hb' : b ≤ 0 := by omega
        clear htr
        go_wp2_with (first
          | (go_at_call 50; ((with_reducible refine (RX.out _).mono ?_); rintro e w' ⟨rfl, j1, rfl⟩))
          | (go_at_call 50; ((with_reducible refine (RY.out _).mono ?_); rintro e w' ⟨rfl, j2, rfl⟩))
          | (go_at_call 50; ((with_reducible refine (RZ.out _).mono ?_); rintro e w' ⟨rfl, j3, rfl⟩))
          | (go_at_call 49; ((with_reducible refine (DN.out _).mono ?_); rintro e w' ⟨rfl, rfl⟩))
          | (go_at_call 28; ((with_reducible refine (SX.out _).mono ?_); rintro e w' ⟨rfl, j4, rfl⟩))
          | (go_at_call 14; refine (awake_any _).mono ?_; rintro e w' ⟨rfl, hB'⟩; have HB' := Lib.hid hB'))
        go_ret
        exact ⟨rfl, (below_drewN HB.out _).trans (HB'.out.mono HB.out.size)⟩

end Go.Proofs.Ytpgoekaphofjkaa
