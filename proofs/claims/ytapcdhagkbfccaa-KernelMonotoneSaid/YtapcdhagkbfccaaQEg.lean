/- The walk of KernelMonotone. -/
import Derived.Test.YtapcdhagkbfccaaPOg
import Derived.Test.YtapcdhagkbfccaaPYg
import Derived.Test.YtapcdhagkbfccaaQBg
import Derived.Test.YtapcdhagkbfccaaQFg
import Derived.Test.YtapcdhagkbfccaaN24g
/- The walk of KernelMoves. -/
namespace Go.Proofs.Ytapcdhagkbfccaa
open Go.RowKit

set_option maxHeartbeats 400000 in
theorem light_any (A : Option Addr) (n c : Nat) (w : World) : Calls Try.prog 43 #[.slice A n c] w fun e w' => e = .returned (.bool (decide (n ≤ 100))) ∧ w = w' := by
  by_cases h : n ≤ 100
  · rw [decide_eq_true h]
    go_enter Try.func43, Try.ntmps43
    go_wp2
    go_ret
    simp; omega
  · rw [decide_eq_false h]
    go_enter Try.func43, Try.ntmps43
    go_wp2
    go_ret
    simp; omega

end Go.Proofs.Ytapcdhagkbfccaa

namespace Go.Proofs.Ytapcdhagkbfccaa
open Go.RowKit

theorem termc_at {w : World} {B n k : Nat} {A : Option Addr} {ls : List Hd} {tt : List (List Int)} (h : TermsAt w B A n ls tt) (hc : ∀ x ∈ ls, capOk x) (hk : k < n) :
    ∃ b off A' n' c' t, A = some ⟨b, off, none⟩ ∧ b < B ∧ w.cell? ⟨b, off + k, none⟩ = some (.slice A' n' c') ∧ tt[k]? = some t ∧ IntsAt w B A' n' t ∧ n' ≤ c' ∧ c' ≤ 9223372036854775807 := by
  obtain ⟨b, off, e, hb, hcl⟩ := h.hds.mem (by omega)
  have h1 : k < ls.length := by rw [← h.hds.len]; exact hk
  have h2 : k < tt.length := by rw [← h.len]; exact hk
  have hcap : capOk ls[k] := hc _ (List.getElem_mem h1)
  exact ⟨b, off, ls[k].1, ls[k].2.1, ls[k].2.2, tt[k], e, hb, hcl k h1, List.getElem?_eq_getElem h2, h.each k h1 h2, hcap.1, hcap.2⟩
/-- The first k terms are more general. -/
def GenK (ss : Sg) (aa bb : List (List Int)) (k : Nat) : Prop := ∀ (j : Nat) (a b : List Int), j < k → aa[j]? = some a → bb[j]? = some b → insB ss a b = true
theorem GenK.succ {ss : Sg} {aa bb : List (List Int)} {k : Nat} {a b : List Int} (h : GenK ss aa bb k) (ha : aa[k]? = some a) (hb : bb[k]? = some b) (hi : insB ss a b = true) : GenK ss aa bb (k + 1) := by
  intro j x y hj hx hy
  by_cases e : j = k
  · subst e
    rw [ha] at hx
    rw [hb] at hy
    cases hx
    cases hy
    exact hi
  · exact h j x y (by omega) hx hy

theorem run_len (ss : Sg) (gg : List (List Int)) (pp : List Stp) : (runZ ss gg pp).1.length ≤ pp.length := by
  unfold runZ
  split
  · have := runF_len ss gg pp pp.length 0
    omega
  · exact Nat.zero_le _

/-- What Run hands back, spelled out. -/
def RunIs (w : World) (l : List (List Int)) (i er : Int) (e : Ending) (w' : World) : Prop := ∃ A n c ls, e = .returned (.tuple #[.slice A n c, .int .i64 i, .int .i64 er]) ∧ TermsAt w' w'.heap.size A n ls l ∧ Below w.heap.size w w' ∧ ∀ x ∈ ls, capOk x
theorem run_is (As Ag Ap : Option Addr) (ns cs ng cg np cp : Nat) (ss : Sg) (lg : List Hd) (gg : List (List Int)) (pp : List Stp) (w : World) (hs : SigAt w w.heap.size As ns ss) (hg : TermsAt w w.heap.size Ag ng lg gg) (hp : StepsAt w w.heap.size Ap np pp) (hn : ng ≤ 1000000) {l : List (List Int)} {i er : Int} (h : runZ ss gg pp = (l, i, er)) :
    Calls Try.prog 44 #[.slice As ns cs, .slice Ag ng cg, .slice Ap np cp] w (RunIs w l i er) := by
  have hr := run_any As Ag Ap ns cs ng cg np cp ss lg gg pp w hs hg hp hn
  rw [h] at hr
  exact hr

set_option maxRecDepth 100000 in
set_option maxHeartbeats 4000000 in
theorem kt_old (As Ao An Ap : Option Addr) (ns cs no co nn cn np cp : Nat) (ss : Sg) (lo ln : List Hd) (go gn : List (List Int)) (pp : List Stp) (w : World) (_hs : SigAt w w.heap.size As ns ss) (ho : TermsAt w w.heap.size Ao no lo go) (hn : TermsAt w w.heap.size An nn ln gn) (_hp : StepsAt w w.heap.size Ap np pp) (_hco : ∀ x ∈ lo, capOk x) (h1 : (decide (no ≤ 80) && smallOk ns lo) = false) :
    Calls Try.prog 15 #[.slice As ns cs, .agg #[.slice Ao no co, .slice An nn cn], .slice Ap np cp] w fun e w' => e = .returned (.bool true) ∧ Below w.heap.size w w' := by
  obtain ⟨N, hN⟩ : ∃ N, w.heap.size = N := ⟨_, rfl⟩
  obtain ⟨W2, hW2⟩ : ∃ W2, w.alloc (.cells #[.slice Ao no co, .slice An nn cn] 78) = W2 := ⟨_, rfl⟩
  have hB : Below w.heap.size w W2 := by rw [← hW2]; exact (Below.refl _ w).alloc (Nat.le_refl _) _
  have hz : W2.heap.size = N + 1 := by rw [← hW2]; simp [hN]
  have bx : Blk W2 w.heap.size 78 #[.slice Ao no co, .slice An nn cn] := by
    rw [← hW2]; exact Blk.new w _ _
  rw [hN] at bx
  have b0 : W2.cell? ⟨N, 0, none⟩ = some (.slice Ao no co) := bx.cell 0
  have b1 : W2.cell? ⟨N, 1, none⟩ = some (.slice An nn cn) := bx.cell 1
  have hNlt : N < W2.heap.size := by omega
  have up : ∀ V, Below W2.heap.size W2 V → Below w.heap.size w V := fun V hb => hB.trans (hb.mono hB.size)
  have HCE := Lib.hid (fun V' (hb : Below W2.heap.size W2 V') => show V'.cell? ⟨N, 0, none⟩ = some (.slice Ao no co) ∧ V'.cell? ⟨N, 1, none⟩ = some (.slice An nn cn) from
    ⟨(hb.cell (p := ⟨N, 0, none⟩) hNlt).trans b0, (hb.cell (p := ⟨N, 1, none⟩) hNlt).trans b1⟩)
  have HUP := Lib.hid up
  have HW2 := Lib.hid hW2
  have HN := Lib.hid hN
  have HB0 := Lib.hid (Below.refl W2.heap.size W2)
  have HSO := Lib.hid (shelf_any As Ao ns cs no co lo W2 _ ((ho.up hB).hds))
  have HSN := Lib.hid (shelf_any As An ns cs nn cn ln W2 _ ((hn.up hB).hds))
  have HL := Lib.hid (light_any Ap np cp W2)
  rw [h1] at HSO
  clear bx hB up hz hW2 _hs ho hn _hp _hco h1 HSN HL
  rw [hN]
  clear hN
  go_enter Try.func15, Try.ntmps15
  go_wp2_with fail
  rw [HW2.out, HN.out]
  go_wp2_with (first
    | (go_at_call 42; ((with_reducible refine HSO.out.mono ?_); rintro e V1 ⟨rfl, rfl⟩))
    | (go_at_call 35; refine (awake4_any _).mono ?_; rintro e Vz ⟨rfl, hBz⟩; have HBz := Lib.hid (below_then HB0.out hBz); clear hBz))
  go_ret
  exact ⟨rfl, by rw [← HN.out]; exact HUP.out _ HBz.out⟩

set_option maxRecDepth 100000 in
set_option maxHeartbeats 4000000 in
theorem kt_new (As Ao An Ap : Option Addr) (ns cs no co nn cn np cp : Nat) (ss : Sg) (lo ln : List Hd) (go gn : List (List Int)) (pp : List Stp) (w : World) (_hs : SigAt w w.heap.size As ns ss) (ho : TermsAt w w.heap.size Ao no lo go) (hn : TermsAt w w.heap.size An nn ln gn) (_hp : StepsAt w w.heap.size Ap np pp) (_hco : ∀ x ∈ lo, capOk x) (h1 : (decide (no ≤ 80) && smallOk ns lo) = true) (h2 : (decide (nn ≤ 80) && smallOk ns ln) = false) :
    Calls Try.prog 15 #[.slice As ns cs, .agg #[.slice Ao no co, .slice An nn cn], .slice Ap np cp] w fun e w' => e = .returned (.bool true) ∧ Below w.heap.size w w' := by
  obtain ⟨N, hN⟩ : ∃ N, w.heap.size = N := ⟨_, rfl⟩
  obtain ⟨W2, hW2⟩ : ∃ W2, w.alloc (.cells #[.slice Ao no co, .slice An nn cn] 78) = W2 := ⟨_, rfl⟩
  have hB : Below w.heap.size w W2 := by rw [← hW2]; exact (Below.refl _ w).alloc (Nat.le_refl _) _
  have hz : W2.heap.size = N + 1 := by rw [← hW2]; simp [hN]
  have bx : Blk W2 w.heap.size 78 #[.slice Ao no co, .slice An nn cn] := by
    rw [← hW2]; exact Blk.new w _ _
  rw [hN] at bx
  have b0 : W2.cell? ⟨N, 0, none⟩ = some (.slice Ao no co) := bx.cell 0
  have b1 : W2.cell? ⟨N, 1, none⟩ = some (.slice An nn cn) := bx.cell 1
  have hNlt : N < W2.heap.size := by omega
  have up : ∀ V, Below W2.heap.size W2 V → Below w.heap.size w V := fun V hb => hB.trans (hb.mono hB.size)
  have HCE := Lib.hid (fun V' (hb : Below W2.heap.size W2 V') => show V'.cell? ⟨N, 0, none⟩ = some (.slice Ao no co) ∧ V'.cell? ⟨N, 1, none⟩ = some (.slice An nn cn) from
    ⟨(hb.cell (p := ⟨N, 0, none⟩) hNlt).trans b0, (hb.cell (p := ⟨N, 1, none⟩) hNlt).trans b1⟩)
  have HUP := Lib.hid up
  have HW2 := Lib.hid hW2
  have HN := Lib.hid hN
  have HB0 := Lib.hid (Below.refl W2.heap.size W2)
  have HSO := Lib.hid (shelf_any As Ao ns cs no co lo W2 _ ((ho.up hB).hds))
  have HSN := Lib.hid (shelf_any As An ns cs nn cn ln W2 _ ((hn.up hB).hds))
  have HL := Lib.hid (light_any Ap np cp W2)
  rw [h1] at HSO
  rw [h2] at HSN
  clear bx hB up hz hW2 _hs ho hn _hp _hco h1 h2 HL
  rw [hN]
  clear hN
  go_enter Try.func15, Try.ntmps15
  go_wp2_with fail
  rw [HW2.out, HN.out]
  go_wp2_with (first
    | (go_at_call 42; ((with_reducible refine HSO.out.mono ?_); rintro e V1 ⟨rfl, rfl⟩))
    | (go_at_call 42; ((with_reducible refine HSN.out.mono ?_); rintro e V1 ⟨rfl, rfl⟩))
    | (go_at_call 35; refine (awake4_any _).mono ?_; rintro e Vz ⟨rfl, hBz⟩; have HBz := Lib.hid (below_then HB0.out hBz); clear hBz))
  go_ret
  exact ⟨rfl, by rw [← HN.out]; exact HUP.out _ HBz.out⟩

set_option maxRecDepth 100000 in
set_option maxHeartbeats 4000000 in
theorem kt_light (As Ao An Ap : Option Addr) (ns cs no co nn cn np cp : Nat) (ss : Sg) (lo ln : List Hd) (go gn : List (List Int)) (pp : List Stp) (w : World) (_hs : SigAt w w.heap.size As ns ss) (ho : TermsAt w w.heap.size Ao no lo go) (hn : TermsAt w w.heap.size An nn ln gn) (_hp : StepsAt w w.heap.size Ap np pp) (_hco : ∀ x ∈ lo, capOk x) (h1 : (decide (no ≤ 80) && smallOk ns lo) = true) (h2 : (decide (nn ≤ 80) && smallOk ns ln) = true) (h3 : ¬ np ≤ 100) :
    Calls Try.prog 15 #[.slice As ns cs, .agg #[.slice Ao no co, .slice An nn cn], .slice Ap np cp] w fun e w' => e = .returned (.bool true) ∧ Below w.heap.size w w' := by
  obtain ⟨N, hN⟩ : ∃ N, w.heap.size = N := ⟨_, rfl⟩
  obtain ⟨W2, hW2⟩ : ∃ W2, w.alloc (.cells #[.slice Ao no co, .slice An nn cn] 78) = W2 := ⟨_, rfl⟩
  have hB : Below w.heap.size w W2 := by rw [← hW2]; exact (Below.refl _ w).alloc (Nat.le_refl _) _
  have hz : W2.heap.size = N + 1 := by rw [← hW2]; simp [hN]
  have bx : Blk W2 w.heap.size 78 #[.slice Ao no co, .slice An nn cn] := by
    rw [← hW2]; exact Blk.new w _ _
  rw [hN] at bx
  have b0 : W2.cell? ⟨N, 0, none⟩ = some (.slice Ao no co) := bx.cell 0
  have b1 : W2.cell? ⟨N, 1, none⟩ = some (.slice An nn cn) := bx.cell 1
  have hNlt : N < W2.heap.size := by omega
  have up : ∀ V, Below W2.heap.size W2 V → Below w.heap.size w V := fun V hb => hB.trans (hb.mono hB.size)
  have HCE := Lib.hid (fun V' (hb : Below W2.heap.size W2 V') => show V'.cell? ⟨N, 0, none⟩ = some (.slice Ao no co) ∧ V'.cell? ⟨N, 1, none⟩ = some (.slice An nn cn) from
    ⟨(hb.cell (p := ⟨N, 0, none⟩) hNlt).trans b0, (hb.cell (p := ⟨N, 1, none⟩) hNlt).trans b1⟩)
  have HUP := Lib.hid up
  have HW2 := Lib.hid hW2
  have HN := Lib.hid hN
  have HB0 := Lib.hid (Below.refl W2.heap.size W2)
  have HSO := Lib.hid (shelf_any As Ao ns cs no co lo W2 _ ((ho.up hB).hds))
  have HSN := Lib.hid (shelf_any As An ns cs nn cn ln W2 _ ((hn.up hB).hds))
  have HL := Lib.hid (light_any Ap np cp W2)
  rw [h1] at HSO
  rw [h2] at HSN
  rw [decide_eq_false h3] at HL
  clear bx hB up hz hW2 _hs ho hn _hp _hco h1 h2 h3
  rw [hN]
  clear hN
  go_enter Try.func15, Try.ntmps15
  go_wp2_with fail
  rw [HW2.out, HN.out]
  go_wp2_with (first
    | (go_at_call 42; ((with_reducible refine HSO.out.mono ?_); rintro e V1 ⟨rfl, rfl⟩))
    | (go_at_call 42; ((with_reducible refine HSN.out.mono ?_); rintro e V1 ⟨rfl, rfl⟩))
    | (go_at_call 43; ((with_reducible refine HL.out.mono ?_); rintro e V1 ⟨rfl, rfl⟩))
    | (go_at_call 35; refine (awake4_any _).mono ?_; rintro e Vz ⟨rfl, hBz⟩; have HBz := Lib.hid (below_then HB0.out hBz); clear hBz))
  go_ret
  exact ⟨rfl, by rw [← HN.out]; exact HUP.out _ HBz.out⟩

set_option maxRecDepth 100000 in
set_option maxHeartbeats 4000000 in
theorem kt_len (As Ao An Ap : Option Addr) (ns cs no co nn cn np cp : Nat) (ss : Sg) (lo ln : List Hd) (go gn : List (List Int)) (pp : List Stp) (w : World) (_hs : SigAt w w.heap.size As ns ss) (ho : TermsAt w w.heap.size Ao no lo go) (hn : TermsAt w w.heap.size An nn ln gn) (_hp : StepsAt w w.heap.size Ap np pp) (_hco : ∀ x ∈ lo, capOk x) (h1 : (decide (no ≤ 80) && smallOk ns lo) = true) (h2 : (decide (nn ≤ 80) && smallOk ns ln) = true) (h3 : np ≤ 100) (h4 : no ≠ nn) :
    Calls Try.prog 15 #[.slice As ns cs, .agg #[.slice Ao no co, .slice An nn cn], .slice Ap np cp] w fun e w' => e = .returned (.bool true) ∧ Below w.heap.size w w' := by
  obtain ⟨N, hN⟩ : ∃ N, w.heap.size = N := ⟨_, rfl⟩
  obtain ⟨W2, hW2⟩ : ∃ W2, w.alloc (.cells #[.slice Ao no co, .slice An nn cn] 78) = W2 := ⟨_, rfl⟩
  have hB : Below w.heap.size w W2 := by rw [← hW2]; exact (Below.refl _ w).alloc (Nat.le_refl _) _
  have hz : W2.heap.size = N + 1 := by rw [← hW2]; simp [hN]
  have bx : Blk W2 w.heap.size 78 #[.slice Ao no co, .slice An nn cn] := by
    rw [← hW2]; exact Blk.new w _ _
  rw [hN] at bx
  have b0 : W2.cell? ⟨N, 0, none⟩ = some (.slice Ao no co) := bx.cell 0
  have b1 : W2.cell? ⟨N, 1, none⟩ = some (.slice An nn cn) := bx.cell 1
  have hNlt : N < W2.heap.size := by omega
  have up : ∀ V, Below W2.heap.size W2 V → Below w.heap.size w V := fun V hb => hB.trans (hb.mono hB.size)
  have HCE := Lib.hid (fun V' (hb : Below W2.heap.size W2 V') => show V'.cell? ⟨N, 0, none⟩ = some (.slice Ao no co) ∧ V'.cell? ⟨N, 1, none⟩ = some (.slice An nn cn) from
    ⟨(hb.cell (p := ⟨N, 0, none⟩) hNlt).trans b0, (hb.cell (p := ⟨N, 1, none⟩) hNlt).trans b1⟩)
  have HUP := Lib.hid up
  have HW2 := Lib.hid hW2
  have HN := Lib.hid hN
  have HB0 := Lib.hid (Below.refl W2.heap.size W2)
  have HSO := Lib.hid (shelf_any As Ao ns cs no co lo W2 _ ((ho.up hB).hds))
  have HSN := Lib.hid (shelf_any As An ns cs nn cn ln W2 _ ((hn.up hB).hds))
  have HL := Lib.hid (light_any Ap np cp W2)
  rw [h1] at HSO
  rw [h2] at HSN
  rw [decide_eq_true h3] at HL
  have h4' : ((no : Int) != (nn : Int)) = true := by simp; omega
  have h5' : ((no : Int) == (nn : Int)) = false := by simp; omega
  clear bx hB up hz hW2 _hs ho hn _hp _hco h1 h2 h3 h4
  rw [hN]
  clear hN
  go_enter Try.func15, Try.ntmps15
  go_wp2_with fail
  rw [HW2.out, HN.out]
  go_wp2_with (first
    | (go_at_call 42; ((with_reducible refine HSO.out.mono ?_); rintro e V1 ⟨rfl, rfl⟩))
    | (go_at_call 42; ((with_reducible refine HSN.out.mono ?_); rintro e V1 ⟨rfl, rfl⟩))
    | (go_at_call 43; ((with_reducible refine HL.out.mono ?_); rintro e V1 ⟨rfl, rfl⟩))
    | (go_at_call 35; refine (awake4_any _).mono ?_; rintro e Vz ⟨rfl, hBz⟩; have HBz := Lib.hid (below_then HB0.out hBz); clear hBz))
  go_ret
  exact ⟨rfl, by rw [← HN.out]; exact HUP.out _ HBz.out⟩

set_option maxRecDepth 100000 in
set_option maxHeartbeats 4000000 in
theorem kt_good (As Ao An Ap : Option Addr) (ns cs no co cn np cp : Nat) (ss : Sg) (lo ln : List Hd) (go gn : List (List Int)) (pp : List Stp) (w : World) (hs : SigAt w w.heap.size As ns ss) (ho : TermsAt w w.heap.size Ao no lo go) (hn : TermsAt w w.heap.size An no ln gn) (hp : StepsAt w w.heap.size Ap np pp) (hco : ∀ x ∈ lo, capOk x) (hcnw : ∀ x ∈ ln, capOk x) (h1 : (decide (no ≤ 80) && smallOk ns lo) = true) (h2 : (decide (no ≤ 80) && smallOk ns ln) = true) (h3 : np ≤ 100) :
    Calls Try.prog 15 #[.slice As ns cs, .agg #[.slice Ao no co, .slice An no cn], .slice Ap np cp] w fun e w' => e = .returned (.bool true) ∧ Below w.heap.size w w' := by
  obtain ⟨N, hN⟩ : ∃ N, w.heap.size = N := ⟨_, rfl⟩
  obtain ⟨W2, hW2⟩ : ∃ W2, w.alloc (.cells #[.slice Ao no co, .slice An no cn] 78) = W2 := ⟨_, rfl⟩
  have hB : Below w.heap.size w W2 := by rw [← hW2]; exact (Below.refl _ w).alloc (Nat.le_refl _) _
  have hz : W2.heap.size = N + 1 := by rw [← hW2]; simp [hN]
  have bx : Blk W2 w.heap.size 78 #[.slice Ao no co, .slice An no cn] := by
    rw [← hW2]; exact Blk.new w _ _
  rw [hN] at bx
  have b0 : W2.cell? ⟨N, 0, none⟩ = some (.slice Ao no co) := bx.cell 0
  have b1 : W2.cell? ⟨N, 1, none⟩ = some (.slice An no cn) := bx.cell 1
  have hNlt : N < W2.heap.size := by omega
  have up : ∀ V, Below W2.heap.size W2 V → Below w.heap.size w V := fun V hb => hB.trans (hb.mono hB.size)
  have HCE := Lib.hid (fun V' (hb : Below W2.heap.size W2 V') => show V'.cell? ⟨N, 0, none⟩ = some (.slice Ao no co) ∧ V'.cell? ⟨N, 1, none⟩ = some (.slice An no cn) from
    ⟨(hb.cell (p := ⟨N, 0, none⟩) hNlt).trans b0, (hb.cell (p := ⟨N, 1, none⟩) hNlt).trans b1⟩)
  have HUP := Lib.hid up
  have HW2 := Lib.hid hW2
  have HN := Lib.hid hN
  have HB0 := Lib.hid (Below.refl W2.heap.size W2)
  have HSO := Lib.hid (shelf_any As Ao ns cs no co lo W2 _ ((ho.up hB).hds))
  have HSN := Lib.hid (shelf_any As An ns cs no cn ln W2 _ ((hn.up hB).hds))
  have HL := Lib.hid (light_any Ap np cp W2)
  have HS := Lib.hid (hs.up hB)
  have HO := Lib.hid (ho.up hB)
  have HGN := Lib.hid (hn.up hB)
  have HP := Lib.hid (hp.up hB)
  have HCO := Lib.hid hco
  have hno : no ≤ 80 := by simp only [Bool.and_eq_true, decide_eq_true_iff] at h1; exact h1.1
  rw [h1] at HSO
  rw [h2] at HSN
  rw [decide_eq_true h3] at HL
  have hcn := Lib.hid hcnw
  have hnp := h3
  have heq : ((no : Int) != (no : Int)) = false := by simp
  have heq2 : ((no : Int) == (no : Int)) = true := by simp
  have HLO := Lib.hid ho.len
  have HLN := Lib.hid hn.len
  have HNO := Lib.hid hno
  clear bx hB up hz hW2 hs ho hn hp hco h1 h2 h3 hno hcnw
  rw [hN]
  clear hN
  go_enter Try.func15, Try.ntmps15
  go_wp2_with fail
  rw [HW2.out, HN.out]
  go_wp2_with (first
    | (go_at_call 42; ((with_reducible refine HSO.out.mono ?_); rintro e V1 ⟨rfl, rfl⟩))
    | (go_at_call 42; ((with_reducible refine HSN.out.mono ?_); rintro e V1 ⟨rfl, rfl⟩))
    | (go_at_call 43; ((with_reducible refine HL.out.mono ?_); rintro e V1 ⟨rfl, rfl⟩)))
  go_loopw [7] (fun i wr => ∃ k : Nat, k ≤ no ∧ i = .int .i64 k ∧ GenK ss gn go k ∧ Below W2.heap.size W2 wr) (fun i _ => no - (intOf i).toNat)
  case atStart => exact ⟨0, Nat.zero_le _, rfl, fun j a b h => absurd h (by omega), HB0.out⟩
  case round =>
    obtain ⟨k, hk, rfl, hok, hBw⟩ := hrel
    have HBW := Lib.hid hBw
    obtain ⟨x0, x1⟩ := HCE.out _ hBw
    have hno := HNO.out
    by_cases hlt : k < no
    · obtain ⟨bo, oo, A1, n1, c1, t1, rfl, hbo, q1, q2, hI1, g1, g2⟩ := termc_at HO.out HCO.out hlt
      obtain ⟨bn, on, A2, n2, c2, t2, rfl, hbn, p1, p2, hI2, _, _⟩ := termc_at HGN.out hcn.out hlt
      have hk0 : (0 : Int) ≤ (k : Int) := by omega
      have hk1 : (k : Int) < (no : Int) := by omega
      have u1 := (hBw.cell (p := ⟨bo, oo + k, none⟩) hbo).trans q1
      have u2 := (hBw.cell (p := ⟨bn, on + k, none⟩) hbn).trans p1
      have CI := Lib.hid (fun (V : World) (hb : Below wr.heap.size wr V) => instance_any As A2 A1 ns cs n2 c2 n1 c1 ss t2 t1 V (HS.out.up (below_then hBw hb)) ((hI2.below (below_then hBw hb)).more (below_then hBw hb).size) ((hI1.below (below_then hBw hb)).more (below_then hBw hb).size) g1 g2)
      have HRK := Lib.hid (fun (V : World) (h : Below wr.heap.size wr V) => show V.cell? ⟨N, 0, none⟩ = some (.slice (some ⟨bo, oo, none⟩) no co) ∧ V.cell? ⟨N, 1, none⟩ = some (.slice (some ⟨bn, on, none⟩) no cn) ∧ V.cell? ⟨bo, oo + k, none⟩ = some (.slice A1 n1 c1) ∧ V.cell? ⟨bn, on + k, none⟩ = some (.slice A2 n2 c2) from
        ⟨(HCE.out V (below_then hBw h)).1, (HCE.out V (below_then hBw h)).2, (h.cell (p := ⟨bo, oo + k, none⟩) (Nat.lt_of_lt_of_le hbo hBw.size)).trans u1, (h.cell (p := ⟨bn, on + k, none⟩) (Nat.lt_of_lt_of_le hbn hBw.size)).trans u2⟩)
      cases hq : insB ss t2 t1
      · rw [hq] at CI
        clear q1 q2 p1 p2 hI1 hI2 g1 g2 hok hBw hq
        go_wp2_with fail
        go_region_held3 (fun w' => w'.cell? ⟨N, 0, none⟩ = some (.slice (some ⟨bo, oo, none⟩) no co) ∧ w'.cell? ⟨N, 1, none⟩ = some (.slice (some ⟨bn, on, none⟩) no cn) ∧ w'.cell? ⟨bo, oo + k, none⟩ = some (.slice A1 n1 c1) ∧ w'.cell? ⟨bn, on + k, none⟩ = some (.slice A2 n2 c2))
          (first | exact RK5.out | exact ⟨x0, x1, u1, u2⟩ | go_keep)
          ((go_at_call 21; refine (CI.out _ ((Below.refl _ _).drew)).mono ?_; rintro e w5 ⟨rfl, hB5⟩; have hB6 : Below wr.heap.size wr w5 := ((Below.refl _ wr).drew).trans hB5; have RK5 := Lib.hid (HRK.out w5 hB6); have HB5 := Lib.hid (below_then HBW.out hB6); clear hB5 hB6))
        go_wp2_with (go_at_call 35; refine (awake4_any _).mono ?_; rintro e Vz ⟨rfl, hBz⟩; have HBz := Lib.hid (below_then HB5.out hBz); clear hBz)
        go_ret
        exact ⟨rfl, by rw [← HN.out]; exact HUP.out _ HBz.out⟩
      · have H := Lib.hid (hok.succ p2 q2 hq)
        rw [hq] at CI
        clear q1 q2 p1 p2 hI1 hI2 g1 g2 hok hBw hq
        go_wp2_with fail
        go_region_held3 (fun w' => w'.cell? ⟨N, 0, none⟩ = some (.slice (some ⟨bo, oo, none⟩) no co) ∧ w'.cell? ⟨N, 1, none⟩ = some (.slice (some ⟨bn, on, none⟩) no cn) ∧ w'.cell? ⟨bo, oo + k, none⟩ = some (.slice A1 n1 c1) ∧ w'.cell? ⟨bn, on + k, none⟩ = some (.slice A2 n2 c2))
          (first | exact RK5.out | exact ⟨x0, x1, u1, u2⟩ | go_keep)
          ((go_at_call 21; refine (CI.out _ ((Below.refl _ _).drew)).mono ?_; rintro e w5 ⟨rfl, hB5⟩; have hB6 : Below wr.heap.size wr w5 := ((Below.refl _ wr).drew).trans hB5; have RK5 := Lib.hid (HRK.out w5 hB6); have HB5 := Lib.hid (below_then HBW.out hB6); clear hB5 hB6))
        go_wp2_with fail
        go_roundw
        case rel => exact ⟨k + 1, by omega, by go_num, H.out, HB5.out⟩
        case measure => simp [intOf]; omega
    · obtain rfl : no = k := by omega
      have hG : GenTo ss gn go := ⟨by rw [← HLO.out, ← HLN.out], fun j a b ha hb => hok j a b (by have := (List.getElem?_eq_some_iff.1 ha).1; have := HLN.out; omega) ha hb⟩
      obtain ⟨W5, hW5⟩ : ∃ W5, W5 = wr := ⟨_, rfl⟩
      subst hW5
      have HGEN := Lib.hid (fun (h0 : (runZ ss go pp).2.2 = 0) h4 h10 => run_gen (ss := ss) (pp := pp) hG h0 h4 h10)
      have HAOL := Lib.hid (run_len ss go pp)
      have HNP := Lib.hid hnp
      obtain ⟨Zo, hZo⟩ : ∃ Z, runZ ss go pp = Z := ⟨_, rfl⟩
      obtain ⟨Zn, hZn⟩ : ∃ Z, runZ ss gn pp = Z := ⟨_, rfl⟩
      rw [hZo] at HAOL
      rw [hZo, hZn] at HGEN
      obtain ⟨ao, io, eo⟩ := Zo
      obtain ⟨an, jn, en⟩ := Zn
      simp only at HGEN HAOL
      have HR1 := Lib.hid (run_is As Ao Ap ns cs no co np cp ss lo go pp W5 (HS.out.up HBW.out) (HO.out.up HBW.out) (HP.out.up HBW.out) (by have := HNO.out; omega) hZo)
      have HR2 := Lib.hid (fun (V : World) (hb : Below W2.heap.size W2 V) => run_is As An Ap ns cs no cn np cp ss ln gn pp V (HS.out.up hb) (HGN.out.up hb) (HP.out.up hb) (by have := HNO.out; omega) hZn)
      have HAO := Lib.hid (show ao.length ≤ 1000 from by have h1 := HAOL.out; have h2 := HNP.out; have h5 := HP.out.len; omega)
      clear hok hBw hG hZo hZn
      by_cases he : eo = 0
      · subst he
        by_cases h4 : en = 4
        · subst h4
          clear HGEN
          go_wp2_with (first
            | (go_at_call 44
               (with_reducible refine (HR2.out _ HB2.out).mono ?_)
               rintro e V3 ⟨A8, n8, c8, l8, rfl, hT8, hB3, hc8⟩
               have HT8 := Lib.hid hT8
               have HC8 := Lib.hid hc8
               have HT78 := Lib.hid (HT7.out.up hB3)
               have HB3 := Lib.hid (below_then HB2.out hB3)
               clear hT8 hc8 hB3)
            | (go_at_call 44
               (with_reducible refine HR1.out.mono ?_)
               rintro e V2 ⟨A7, n7, c7, l7, rfl, hT7, hB2, hc7⟩
               have HT7 := Lib.hid hT7
               have HC7 := Lib.hid hc7
               have HB2 := Lib.hid (below_then HBW.out hB2)
               obtain ⟨y0, y1⟩ := HCE.out _ HB2.out
               clear hT7 hc7 hB2)
            | (go_at_call 35; refine (awake4_any _).mono ?_; rintro e Vz ⟨rfl, hBz⟩; have HBz := Lib.hid (below_then HB3.out hBz); clear hBz))
          go_ret
          exact ⟨rfl, by rw [← HN.out]; exact HUP.out _ HBz.out⟩
        · by_cases h10 : en = 10
          · subst h10
            clear HGEN h4
            go_wp2_with (first
              | (go_at_call 44
                 (with_reducible refine (HR2.out _ HB2.out).mono ?_)
                 rintro e V3 ⟨A8, n8, c8, l8, rfl, hT8, hB3, hc8⟩
                 have HT8 := Lib.hid hT8
                 have HC8 := Lib.hid hc8
                 have HT78 := Lib.hid (HT7.out.up hB3)
                 have HB3 := Lib.hid (below_then HB2.out hB3)
                 clear hT8 hc8 hB3)
              | (go_at_call 44
                 (with_reducible refine HR1.out.mono ?_)
                 rintro e V2 ⟨A7, n7, c7, l7, rfl, hT7, hB2, hc7⟩
                 have HT7 := Lib.hid hT7
                 have HC7 := Lib.hid hc7
                 have HB2 := Lib.hid (below_then HBW.out hB2)
                 obtain ⟨y0, y1⟩ := HCE.out _ HB2.out
                 clear hT7 hc7 hB2)
              | (go_at_call 35; refine (awake4_any _).mono ?_; rintro e Vz ⟨rfl, hBz⟩; have HBz := Lib.hid (below_then HB3.out hBz); clear hBz))
            go_ret
            exact ⟨rfl, by rw [← HN.out]; exact HUP.out _ HBz.out⟩
          · obtain ⟨hen, hGG⟩ := HGEN.out rfl h4 h10
            have hen' : en = 0 := hen
            subst hen'
            have hGG' : GenTo ss an ao := hGG
            have HGG := Lib.hid hGG'
            clear hen hGG hGG' h4 h10 HGEN
            go_wp2_with (first
              | (go_at_call 44
                 (with_reducible refine (HR2.out _ HB2.out).mono ?_)
                 rintro e V3 ⟨A8, n8, c8, l8, rfl, hT8, hB3, hc8⟩
                 have HT8 := Lib.hid hT8
                 have HC8 := Lib.hid hc8
                 have HT78 := Lib.hid (HT7.out.up hB3)
                 have HB3 := Lib.hid (below_then HB2.out hB3)
                 obtain rfl : n7 = n8 := by have h7 := hT8.len; have h8 := HT7.out.len; have h9 := HGG.out.1; omega
                 have hneq : ((n7 : Int) != (n7 : Int)) = false := by simp
                 have HN7 := Lib.hid (show n7 ≤ 1000000 from by have h8 := HT7.out.len; have h9 := HAO.out; omega)
                 clear hT8 hc8 hB3)
              | (go_at_call 44
                 (with_reducible refine HR1.out.mono ?_)
                 rintro e V2 ⟨A7, n7, c7, l7, rfl, hT7, hB2, hc7⟩
                 have HT7 := Lib.hid hT7
                 have HC7 := Lib.hid hc7
                 have HB2 := Lib.hid (below_then HBW.out hB2)
                 obtain ⟨y0, y1⟩ := HCE.out _ HB2.out
                 clear hT7 hc7 hB2))
            go_loopw [14] (fun i wr => ∃ k : Nat, k ≤ n7 ∧ i = .int .i64 k ∧ Below V3.heap.size V3 wr) (fun i _ => n7 - (intOf i).toNat)
            case atStart => exact ⟨0, Nat.zero_le _, rfl, Below.refl _ _⟩
            case round =>
              obtain ⟨k, hk, rfl, hBr⟩ := hrel
              have HBR := Lib.hid hBr
              have hn7 := HN7.out
              by_cases hlt : k < n7
              · obtain ⟨ba, oa, A1, n1, c1, t1, rfl, hba, q1, q2, hI1, g1, g2⟩ := termc_at HT78.out HC7.out hlt
                obtain ⟨bb, ob, A2, n2, c2, t2, rfl, hbb, p1, p2, hI2, _, _⟩ := termc_at HT8.out HC8.out hlt
                have hk0 : (0 : Int) ≤ (k : Int) := by omega
                have hk1 : (k : Int) < (n7 : Int) := by omega
                have u1 := (hBr.cell (p := ⟨ba, oa + k, none⟩) hba).trans q1
                have u2 := (hBr.cell (p := ⟨bb, ob + k, none⟩) hbb).trans p1
                have hq : insB ss t2 t1 = true := HGG.out.2 k t2 t1 p2 q2
                have CI := Lib.hid (fun (V : World) (hb : Below wr.heap.size wr V) => instance_any As A2 A1 ns cs n2 c2 n1 c1 ss t2 t1 V (HS.out.up (below_then HB3.out (below_then hBr hb))) ((hI2.below (below_then hBr hb)).more (below_then hBr hb).size) ((hI1.below (below_then hBr hb)).more (below_then hBr hb).size) g1 g2)
                rw [hq] at CI
                have HRK := Lib.hid (fun (V : World) (h : Below wr.heap.size wr V) => show V.cell? ⟨ba, oa + k, none⟩ = some (.slice A1 n1 c1) ∧ V.cell? ⟨bb, ob + k, none⟩ = some (.slice A2 n2 c2) from
                  ⟨(h.cell (p := ⟨ba, oa + k, none⟩) (Nat.lt_of_lt_of_le hba hBr.size)).trans u1, (h.cell (p := ⟨bb, ob + k, none⟩) (Nat.lt_of_lt_of_le hbb hBr.size)).trans u2⟩)
                clear q1 q2 p1 p2 hI1 hI2 g1 g2 hBr hq
                go_wp2_with fail
                go_region_held3 (fun w' => w'.cell? ⟨ba, oa + k, none⟩ = some (.slice A1 n1 c1) ∧ w'.cell? ⟨bb, ob + k, none⟩ = some (.slice A2 n2 c2))
                  (first | exact RK5.out | exact ⟨u1, u2⟩ | go_keep)
                  ((go_at_call 21; refine (CI.out _ ((Below.refl _ _).drew)).mono ?_; rintro e w5 ⟨rfl, hB5⟩; have hB6 : Below wr.heap.size wr w5 := ((Below.refl _ wr).drew).trans hB5; have RK5 := Lib.hid (HRK.out w5 hB6); have HB5 := Lib.hid (below_then HBR.out hB6); clear hB5 hB6))
                go_wp2_with fail
                go_roundw
                case rel => exact ⟨k + 1, by omega, by go_num, HB5.out⟩
                case measure => simp [intOf]; omega
              · obtain rfl : n7 = k := by omega
                have HB9 := Lib.hid (below_then HB3.out hBr)
                clear hBr
                go_wp2_with (go_at_call 35; refine (awake4_any _).mono ?_; rintro e Vz ⟨rfl, hBz⟩; have HBz := Lib.hid (below_then HB9.out hBz); clear hBz)
                go_ret
                exact ⟨rfl, by rw [← HN.out]; exact HUP.out _ HBz.out⟩
      · have he' : (eo != 0) = true := by simpa using he
        have he2 : (eo == 0) = false := by simpa using he
        clear HGEN he
        go_wp2_with (first
          | (go_at_call 44
             (with_reducible refine (HR2.out _ HB2.out).mono ?_)
             rintro e V3 ⟨A8, n8, c8, l8, rfl, hT8, hB3, hc8⟩
             have HT8 := Lib.hid hT8
             have HC8 := Lib.hid hc8
             have HT78 := Lib.hid (HT7.out.up hB3)
             have HB3 := Lib.hid (below_then HB2.out hB3)
             clear hT8 hc8 hB3)
          | (go_at_call 44
             (with_reducible refine HR1.out.mono ?_)
             rintro e V2 ⟨A7, n7, c7, l7, rfl, hT7, hB2, hc7⟩
             have HT7 := Lib.hid hT7
             have HC7 := Lib.hid hc7
             have HB2 := Lib.hid (below_then HBW.out hB2)
             obtain ⟨y0, y1⟩ := HCE.out _ HB2.out
             clear hT7 hc7 hB2)
          | (go_at_call 35; refine (awake4_any _).mono ?_; rintro e Vz ⟨rfl, hBz⟩; have HBz := Lib.hid (below_then HB3.out hBz); clear hBz))
        go_ret
        exact ⟨rfl, by rw [← HN.out]; exact HUP.out _ HBz.out⟩

theorem kt_walk (As Ao An Ap : Option Addr) (ns cs no co nn cn np cp : Nat) (ss : Sg) (lo ln : List Hd) (go gn : List (List Int)) (pp : List Stp) (w : World) (hs : SigAt w w.heap.size As ns ss) (ho : TermsAt w w.heap.size Ao no lo go) (hn : TermsAt w w.heap.size An nn ln gn) (hp : StepsAt w w.heap.size Ap np pp) (hco : ∀ x ∈ lo, capOk x) (hcnw : ∀ x ∈ ln, capOk x) :
    Calls Try.prog 15 #[.slice As ns cs, .agg #[.slice Ao no co, .slice An nn cn], .slice Ap np cp] w fun e w' => e = .returned (.bool true) ∧ Below w.heap.size w w' := by
  cases h1 : (decide (no ≤ 80) && smallOk ns lo)
  · exact kt_old As Ao An Ap ns cs no co nn cn np cp ss lo ln go gn pp w hs ho hn hp hco h1
  · cases h2 : (decide (nn ≤ 80) && smallOk ns ln)
    · exact kt_new As Ao An Ap ns cs no co nn cn np cp ss lo ln go gn pp w hs ho hn hp hco h1 h2
    · by_cases h3 : np ≤ 100
      · by_cases h4 : no = nn
        · subst h4
          exact kt_good As Ao An Ap ns cs no co cn np cp ss lo ln go gn pp w hs ho hn hp hco hcnw h1 h2 h3
        · exact kt_len As Ao An Ap ns cs no co nn cn np cp ss lo ln go gn pp w hs ho hn hp hco h1 h2 h3 h4
      · exact kt_light As Ao An Ap ns cs no co nn cn np cp ss lo ln go gn pp w hs ho hn hp hco h1 h2 h3

end Go.Proofs.Ytapcdhagkbfccaa
