/- Contracts: SameProof and SameInts of the sixth reference. -/
import Derived.Test.YtojofbmpknpggaaVKg
import Derived.Test.YtojofbmpknpggaaPUg
import Derived.Test.YtojofbmpknpggaaG3g
import Derived.Test.YtojofbmpknpggaaG1g
/- Contract: Cut. -/
namespace Go.Proofs.Ytojofbmpknpggaa
open Go.RowKit Go.Shelf

theorem flatS_put : ∀ (pp : List Stp) (k : Nat) (x : Stp), k < pp.length → (((flatS pp).set (k * 3) (.int .i64 x.1)).set (k * 3 + 1) (.int .i64 x.2.1)).set (k * 3 + 2) (.int .i64 x.2.2) = flatS (pp.set k x)
  | [], _, _, h => by simp at h
  | y :: pp, 0, x, _ => rfl
  | y :: pp, k + 1, x, h => by
    have := flatS_put pp k x (by simpa using h)
    rw [show (k + 1) * 3 = k * 3 + 1 + 1 + 1 by omega]
    simp only [flatS, List.set_cons_succ]
    rw [this]
theorem stepOk_up {g i : Int} {x : Stp} (h : stepOk g i x = true) : stepOk (g + 1) i x = true := by
  rcases stepOk_num h with ⟨a1, a2, a3, a4⟩ | ⟨a1, a2, a3, a4, a5⟩
  · unfold stepOk
    rw [if_pos a1, decide_eq_true (show 0 ≤ x.2.1 ∧ x.2.1 < g + 1 by omega), decide_eq_true a4]
    rfl
  · unfold stepOk
    rw [if_neg (by omega), if_pos a1, decide_eq_true (show 0 ≤ x.2.1 ∧ x.2.1 < i by omega), decide_eq_true (show 0 ≤ x.2.2 ∧ x.2.2 < i by omega)]
    rfl
theorem cut_rest {g : Int} {pp : List Stp} {i : Nat} (h : proofOk g pp = true) (hg : g ≠ 60) (hi : i < pp.length) : proofOk (g + 1) (pp.set i (1, g, 0)) = true := by
  obtain ⟨hg0, hl, hp⟩ := proofOk_to h
  refine proofOk_all (by omega) (by rw [List.length_set]; omega) fun j hj x hx => ?_
  rw [List.length_set] at hj
  rw [List.getElem?_set] at hx
  by_cases e : i = j
  · rw [if_pos e, if_pos hi] at hx
    cases hx
    unfold stepOk
    rw [if_pos rfl, decide_eq_true (show 0 ≤ g ∧ g < g + 1 by omega)]
    rfl
  · rw [if_neg e] at hx
    exact stepOk_up (hp j hj x hx)
theorem cut_lemma {g : Int} {pp : List Stp} {i : Nat} (h : proofOk g pp = true) (hi : i < pp.length) : proofOk g (pp.take (i + 1)) = true := by
  obtain ⟨hg0, hl, hp⟩ := proofOk_to h
  have hlen : (pp.take (i + 1)).length = i + 1 := by rw [List.length_take]; omega
  refine proofOk_all hg0 (by omega) fun j hj x hx => ?_
  rw [List.getElem?_take, if_pos (by omega)] at hx
  exact hp j (by omega) x hx
theorem StepsAt.take {w : World} {B n k : Nat} {A : Option Addr} {pp : List Stp} (h : StepsAt w B A n pp) (hk : k ≤ n) : StepsAt w B A k (pp.take k) := by
  have hl := h.len
  have hm := h.max
  refine ⟨by rw [List.length_take]; omega, by omega, fun h0 => ?_⟩
  obtain ⟨b, off, e, hb, hc⟩ := h.mem (by omega)
  refine ⟨b, off, e, hb, fun j hj => ?_⟩
  rw [List.length_take] at hj
  have := hc j (by omega)
  rw [List.getElem_take]
  exact this

/-- What Cut hands back. -/
def cutZ (g : Int) (pp : List Stp) (i : Int) : List Stp × List Stp × Int :=
  if proofOk g pp = true then
    (if 0 ≤ i ∧ i < (pp.length : Int) then
      (if i = (pp.length : Int) - 1 ∨ (needB pp).getD i.toNat false = false then ([], [], 10) else if g = 60 then ([], [], 4) else (trimF (pp.take (i.toNat + 1)), trimF (pp.set i.toNat (1, g, 0)), 0))
    else ([], [], 7))
  else ([], [], 1)
def RetCut (w : World) (Z : List Stp × List Stp × Int) (e : Ending) (w' : World) : Prop :=
  ∃ A n c A2 n2 c2, e = .returned (.tuple #[.slice A n c, .slice A2 n2 c2, .int .i64 Z.2.2]) ∧ StepsAt w' w'.heap.size A n Z.1 ∧ n ≤ c ∧ c ≤ 9223372036854775807 ∧ StepsAt w' w'.heap.size A2 n2 Z.2.1 ∧ n2 ≤ c2 ∧ c2 ≤ 9223372036854775807 ∧ Below w.heap.size w w'
theorem retCut_none (w w' : World) (er : Int) (h : Below w.heap.size w w') : RetCut w ([], [], er) (.returned (.tuple #[.slice none 0 0, .slice none 0 0, .int .i64 er])) w' :=
  ⟨none, 0, 0, none, 0, 0, rfl, StepsAt.nil _ _ _, by omega, by omega, StepsAt.nil _ _ _, by omega, by omega, h⟩
theorem info_step7 : (Try.prog.info? 33).map (·.size) = some 3 := by kernel_rfl
theorem scite_any (g : Int) (w : World) : Calls Try.prog 37 #[.int .i64 g] w fun e w' => e = .returned (.agg #[.int .i64 1, .int .i64 g, .int .i64 0]) ∧ Below w.heap.size w w' := by
  go_enter Try.func37, Try.ntmps37
  go_wp2
  exact bodyPost_ret (v := .agg #[.int .i64 1, .int .i64 g, .int .i64 0]) (results_cell_row (p := 2) rfl _ _ w.heap.size _ _ _ _ rfl (heap_alloc_new w _) Try.underlying33 rfl info_step7) rfl ⟨rfl, bel_al0 _ _⟩
theorem isStep_any (A : Option Addr) (n c : Nat) (i : Int) (w : World) (_hn : n ≤ 1000) : Calls Try.prog 29 #[.slice A n c, .int .i64 i] w fun e w' => e = .returned (.bool (decide (0 ≤ i ∧ i < (n : Int)))) ∧ w = w' := by
  by_cases h0 : 0 ≤ i
  · by_cases h1 : i < (n : Int)
    · rw [decide_eq_true (show 0 ≤ i ∧ i < (n : Int) from ⟨h0, h1⟩)]
      go_enter Try.func29, Try.ntmps29
      go_wp2
      go_ret
      exact ⟨rfl, rfl⟩
    · rw [decide_eq_false (show ¬ (0 ≤ i ∧ i < (n : Int)) from fun h => h1 h.2)]
      go_enter Try.func29, Try.ntmps29
      go_wp2
      go_ret
      exact ⟨rfl, rfl⟩
  · rw [decide_eq_false (show ¬ (0 ≤ i ∧ i < (n : Int)) from fun h => h0 h.1)]
    go_enter Try.func29, Try.ntmps29
    go_wp2
    go_ret
    exact ⟨rfl, rfl⟩

set_option maxRecDepth 100000 in
set_option maxHeartbeats 4000000 in
theorem cut_any (g : Int) (A : Option Addr) (n c : Nat) (pp : List Stp) (i : Int) (w : World) (hp : StepsAt w w.heap.size A n pp) (hnc : n ≤ c) (hc9 : c ≤ 9223372036854775807) (hn9 : n ≤ 1000) :
    Calls Try.prog 23 #[.int .i64 g, .slice A n c, .int .i64 i] w (RetCut w (cutZ g pp i)) := by
  have CN := Lib.hid (knNeeded_any g A n c pp w hp)
  have CI := Lib.hid (fun V => isStep_any A n c i V hn9)
  have hlp := hp.len
  cases hv : proofOk g pp
  · rw [show neeZ g pp = ([], 1) from by unfold neeZ; rw [hv]; rfl] at CN
    rw [show cutZ g pp i = ([], [], 1) from by unfold cutZ; rw [hv]; rfl]
    clear hv hp hlp
    go_enter Try.func23, Try.ntmps23
    go_wp2_with (go_at_call 47; ((with_reducible refine CN.out.mono ?_); rintro e w2 ⟨A2, n2, c2, rfl, _, hB2⟩; have HB2 := Lib.hid hB2; clear hB2))
    go_ret3
    exact retCut_none _ _ _ HB2.out
  · obtain ⟨hg0, hl60, hto⟩ := proofOk_to hv
    rw [show neeZ g pp = (idxT (needB pp) n, 0) from by unfold neeZ; rw [if_pos hv, hlp]] at CN
    by_cases h1 : 0 ≤ i ∧ i < (n : Int)
    · obtain ⟨k, rfl⟩ := Int.eq_ofNat_of_zero_le h1.1
      have hkn : k < n := by omega
      simp only [decide_eq_true h1] at CI
      have CC := Lib.hid (fun (V : World) (A2 : Option Addr) (n2 c2 : Nat) (hI : IntsAt V V.heap.size A2 n2 (idxT (needB pp) n)) => contains_any A2 n2 c2 (idxT (needB pp) n) (k : Int) V V.heap.size hI)
      simp only [idxT_has hkn] at CC
      by_cases h2 : k + 1 = n
      · rw [show cutZ g pp (k : Int) = ([], [], 10) from by unfold cutZ; rw [if_pos hv, if_pos (by omega), if_pos (.inl (by omega))]]
        obtain rfl : n = k + 1 := by omega
        clear hv hp hlp hg0 hl60 hto h1 h2 CC
        go_enter Try.func23, Try.ntmps23
        go_wp2_with (first
          | (go_at_call 47; ((with_reducible refine CN.out.mono ?_); rintro e w2 ⟨A2, n2, c2, rfl, hI2, hB2⟩; have HI2 := Lib.hid hI2; have HB2 := Lib.hid hB2; clear hB2 hI2))
          | (go_at_call 29; ((with_reducible refine (CI.out _).mono ?_); rintro e w3 ⟨rfl, rfl⟩)))
        go_ret3
        exact retCut_none _ _ _ HB2.out
      · have hne : ¬ (k : Int) = (n : Int) - 1 := by omega
        cases hq : (needB pp).getD k false
        · rw [show cutZ g pp (k : Int) = ([], [], 10) from by unfold cutZ; rw [if_pos hv, if_pos (by omega), if_pos (.inr (by rw [Int.toNat_natCast]; exact hq))]]
          rw [hq] at CC
          clear hv hp hlp hg0 hl60 hto h1 h2 hq
          go_enter Try.func23, Try.ntmps23
          go_wp2_with (first
            | (go_at_call 47; ((with_reducible refine CN.out.mono ?_); rintro e w2 ⟨A2, n2, c2, rfl, hI2, hB2⟩; have HI2 := Lib.hid hI2; have HB2 := Lib.hid hB2; clear hB2 hI2))
            | (go_at_call 29; ((with_reducible refine (CI.out _).mono ?_); rintro e w3 ⟨rfl, rfl⟩))
            | (go_at_call 48; ((with_reducible refine (CC.out _ A2 n2 c2 HI2.out).mono ?_); rintro e w4 ⟨rfl, rfl⟩)))
          go_ret3
          exact retCut_none _ _ _ HB2.out
        · rw [hq] at CC
          by_cases hg : g = 60
          · rw [show cutZ g pp (k : Int) = ([], [], 4) from by unfold cutZ; rw [if_pos hv, if_pos (by omega), if_neg (by rw [Int.toNat_natCast, hq]; rintro (h | h); omega; cases h), if_pos hg]]
            subst hg
            clear hv hp hlp hg0 hl60 hto h1 h2 hq
            go_enter Try.func23, Try.ntmps23
            go_wp2_with (first
              | (go_at_call 47; ((with_reducible refine CN.out.mono ?_); rintro e w2 ⟨A2, n2, c2, rfl, hI2, hB2⟩; have HI2 := Lib.hid hI2; have HB2 := Lib.hid hB2; clear hB2 hI2))
              | (go_at_call 29; ((with_reducible refine (CI.out _).mono ?_); rintro e w3 ⟨rfl, rfl⟩))
              | (go_at_call 48; ((with_reducible refine (CC.out _ A2 n2 c2 HI2.out).mono ?_); rintro e w4 ⟨rfl, rfl⟩)))
            go_ret3
            exact retCut_none _ _ _ HB2.out
          · rw [show cutZ g pp (k : Int) = (trimF (pp.take (k + 1)), trimF (pp.set k (1, g, 0)), 0) from by unfold cutZ; rw [if_pos hv, if_pos (by omega), if_neg (by rw [Int.toNat_natCast, hq]; rintro (h | h); omega; cases h), if_neg hg, Int.toNat_natCast]]
            have hkl : k < pp.length := by omega
            have z1 : trimZ g (pp.take (k + 1)) = (trimF (pp.take (k + 1)), 0) := by unfold trimZ; rw [if_pos (cut_lemma hv hkl)]
            have z2 : trimZ (g + 1) (pp.set k (1, g, 0)) = (trimF (pp.set k (1, g, 0)), 0) := by unfold trimZ; rw [if_pos (cut_rest hv hg hkl)]
            obtain ⟨b, off, rfl, hb, _⟩ := hp.mem (by omega)
            have CL := Lib.hid (fun (V : World) (hV : Below w.heap.size w V) => cloneS_any V b off n c pp (by omega) (by omega) (hp.up hV))
            have CT1 := Lib.hid (fun (V : World) (hV : Below w.heap.size w V) => trimmed_any g (some ⟨b, off, none⟩) (k + 1) c (pp.take (k + 1)) V ((hp.up hV).take (by omega)) (by omega) hc9)
            have CT2 := Lib.hid (fun (V : World) (A2 : Option Addr) (n2 c2 : Nat) (hq : StepsAt V V.heap.size A2 n2 (pp.set k (1, g, 0))) (h1 : n2 ≤ c2) (h2 : c2 ≤ 9223372036854775807) => trimmed_any (g + 1) A2 n2 c2 (pp.set k (1, g, 0)) V hq h1 h2)
            rw [z1] at CT1
            rw [z2] at CT2
            have HLP := Lib.hid hlp
            have HKL := Lib.hid hkl
            have hk2 : (k : Int) + 1 ≤ (c : Int) := by omega
            have hg1 : -1 ≤ g := by omega
            have hg2 : g ≤ 60 := by omega
            have hk0 : (0 : Int) ≤ (k : Int) := by omega
            have hk1 : (k : Int) < (n : Int) := by omega
            have hgb : (g == 60) = false := by simpa using hg
            clear hv hp hlp hg0 hl60 hto h1 h2 hq z1 z2 hb hkl
            go_enter Try.func23, Try.ntmps23
            go_wp2_with (first
              | (go_at_call 47; ((with_reducible refine CN.out.mono ?_); rintro e w2 ⟨A2, n2, c2, rfl, hI2, hB2⟩; have HI2 := Lib.hid hI2; have HB2 := Lib.hid hB2; clear hB2 hI2))
              | (go_at_call 29; ((with_reducible refine (CI.out _).mono ?_); rintro e w3 ⟨rfl, rfl⟩))
              | (go_at_call 48; ((with_reducible refine (CC.out _ A2 n2 c2 HI2.out).mono ?_); rintro e w4 ⟨rfl, rfl⟩))
              | (go_at_call 42
                 (with_reducible refine (CL.out _ HB2.out).mono ?_)
                 rintro e w4 ⟨v4, rfl, hrow, hB4⟩
                 rw [← HLP.out] at hrow
                 obtain ⟨gb, cap, rfl, hgb⟩ := World.ownsRow.form hrow (by omega)
                 have HROW := Lib.hid hrow
                 have HB4 := Lib.hid (below_then HB2.out hB4)
                 clear hrow hB4)
              | (go_at_call 37
                 (with_reducible refine (scite_any g _).mono ?_)
                 rintro e w5 ⟨rfl, hB5⟩
                 have h5 := row_below HROW.out hB5
                 have l3 : (flatS pp).length = n * 3 := by rw [flatS_len, ← HLP.out]
                 obtain ⟨u0, e0⟩ : ∃ u, (flatS pp)[k * 3]? = some u := ⟨_, List.getElem?_eq_getElem (by omega)⟩
                 have c0 := (h5.cellAt (k * 3) (by omega)).trans e0
                 have f0 := h5.frozenAt (k * 3)
                 have h6 := (h5.stored (k * 3) (.int .i64 1)).1
                 obtain ⟨u1, e1⟩ : ∃ u, ((flatS pp).set (k * 3) (.int .i64 1))[k * 3 + 1]? = some u := ⟨_, List.getElem?_eq_getElem (by rw [List.length_set]; omega)⟩
                 have c1 := (h6.cellAt (k * 3 + 1) (by omega)).trans e1
                 have f1 := h6.frozenAt (k * 3 + 1)
                 have h7 := (h6.stored (k * 3 + 1) (.int .i64 g)).1
                 obtain ⟨u2, e2⟩ : ∃ u, (((flatS pp).set (k * 3) (.int .i64 1)).set (k * 3 + 1) (.int .i64 g))[k * 3 + 2]? = some u := ⟨_, List.getElem?_eq_getElem (by rw [List.length_set, List.length_set]; omega)⟩
                 have c2 := (h7.cellAt (k * 3 + 2) (by omega)).trans e2
                 have f2 := h7.frozenAt (k * 3 + 2)
                 have h8 := (h7.stored (k * 3 + 2) (.int .i64 0)).1
                 have h9 := flatS_put pp k (1, g, 0) HKL.out
                 simp only at h9
                 rw [h9] at h8
                 have hbase := (h5.lt gb rfl).1
                 have hb6 : Below w.heap.size w (((w5.setCell ⟨gb, k * 3, none⟩ (.int .i64 1)).setCell ⟨gb, k * 3 + 1, none⟩ (.int .i64 g)).setCell ⟨gb, k * 3 + 2, none⟩ (.int .i64 0)) :=
                   (((below_then HB4.out hB5).setCell (p := ⟨gb, k * 3, none⟩) (Nat.le_trans HB2.out.size hbase) _).setCell (p := ⟨gb, k * 3 + 1, none⟩) (Nat.le_trans HB2.out.size hbase) _).setCell (p := ⟨gb, k * 3 + 2, none⟩) (Nat.le_trans HB2.out.size hbase) _
                 obtain ⟨W6, hW6⟩ : ∃ W6, ((w5.setCell ⟨gb, k * 3, none⟩ (.int .i64 1)).setCell ⟨gb, k * 3 + 1, none⟩ (.int .i64 g)).setCell ⟨gb, k * 3 + 2, none⟩ (.int .i64 0) = W6 := ⟨_, rfl⟩
                 rw [hW6] at h8 hb6
                 obtain ⟨A6, cc6, he6, hs6, hca, hcb⟩ := row_steps h8 (by omega)
                 cases he6
                 have HS6 := Lib.hid hs6
                 have HCA := Lib.hid hca
                 have HCB := Lib.hid hcb
                 have HB6 := Lib.hid hb6
                 clear hB5 h5 h6 h7 h8 h9 e0 e1 e2 l3 hb6 hs6 hbase hca hcb)
              | (go_at_call 49
                 (with_reducible refine (CT2.out _ (some ⟨gb, 0, none⟩) n cap HS67.out HCA.out HCB.out).mono ?_)
                 rintro e w8 ⟨A8, n8, c8, rfl, hS8, h81, h82, hB8⟩
                 have HS78 := Lib.hid (HS7.out.up hB8)
                 have HS8 := Lib.hid hS8
                 have HC8 := Lib.hid (And.intro h81 h82)
                 have HB8 := Lib.hid (below_then HB7.out hB8)
                 clear hS8 hB8 h81 h82)
              | (go_at_call 49
                 (with_reducible refine (CT1.out _ HB6.out).mono ?_)
                 rintro e w7 ⟨A7, n7, c7, rfl, hS7, h71, h72, hB7⟩
                 have HS67 := Lib.hid (HS6.out.up hB7)
                 have HS7 := Lib.hid hS7
                 have HC7 := Lib.hid (And.intro h71 h72)
                 have HB7 := Lib.hid (below_then HB6.out hB7)
                 clear hS7 hB7 h71 h72))
            go_ret3
            exact ⟨A7, n7, c7, A8, n8, c8, rfl, HS78.out, HC7.out.1, HC7.out.2, HS8.out, HC8.out.1, HC8.out.2, HB8.out⟩
    · rw [show cutZ g pp i = ([], [], 7) from by unfold cutZ; rw [if_pos hv, if_neg (by omega)]]
      simp only [decide_eq_false h1] at CI
      clear hv hp hlp hg0 hl60 hto h1
      go_enter Try.func23, Try.ntmps23
      go_wp2_with (first
        | (go_at_call 47; ((with_reducible refine CN.out.mono ?_); rintro e w2 ⟨A2, n2, c2, rfl, _, hB2⟩; have HB2 := Lib.hid hB2; clear hB2))
        | (go_at_call 29; ((with_reducible refine (CI.out _).mono ?_); rintro e w3 ⟨rfl, rfl⟩)))
      go_ret3
      exact retCut_none _ _ _ HB2.out

end Go.Proofs.Ytojofbmpknpggaa

namespace Go.Proofs.Ytojofbmpknpggaa
open Go.RowKit

set_option maxRecDepth 100000 in
set_option maxHeartbeats 1000000 in
theorem sameProof_self (A A2 : Option Addr) (n c n2 c2 : Nat) (pp : List Stp) (w : World) (B : Nat) (hx : StepsAt w B A n pp) (hy : StepsAt w B A2 n2 pp) :
    Calls Try.prog 18 #[.slice A n c, .slice A2 n2 c2] w fun e w' => e = .returned (.bool true) ∧ ∃ k, w' = w.drewN k := by
  have hlx := hx.len
  have hly := hy.len
  have hmx := hx.max
  obtain rfl : n = n2 := by omega
  have HX := Lib.hid hx
  have HY := Lib.hid hy
  have NS := Lib.hid neq_step
  clear hx hy hlx hly
  go_enter Try.func18, Try.ntmps18
  go_wp2
  go_loopw [5] (fun i wr => ∃ k : Nat, k ≤ n ∧ i = .int .i64 k ∧ ∃ m, wr = w.drewN m) (fun i _ => n - (intOf i).toNat)
  case atStart => exact ⟨0, Nat.zero_le _, rfl, 0, rfl⟩
  case round =>
    obtain ⟨k, hk, rfl, m, rfl⟩ := hrel
    by_cases hlt : k < n
    · obtain ⟨b, off, x, y, z, rfl, hb, q1, q2, q3, q4⟩ := HX.out.cellAt hlt
      obtain ⟨b2, off2, x2, y2, z2, rfl, hb2, p1, p2, p3, p4⟩ := HY.out.cellAt hlt
      rw [q4] at p4
      cases p4
      have hk0 : (0 : Int) ≤ (k : Int) := by omega
      have hk1 : (k : Int) < (n : Int) := by omega
      have ne : ∀ W : World, (binOp .neq 33 (.agg #[.int .i64 x, .int .i64 y, .int .i64 z]) (.agg #[.int .i64 x, .int .i64 y, .int .i64 z])).run Try.prog W = .ok (.bool false) W := fun W => NS.out W x y z
      clear q4
      go_wp2_with fail
      go_quiet (fail)
      go_wp2
      go_roundw
      case rel => exact ⟨k + 1, by omega, by go_num, _, rfl⟩
      case measure => simp [intOf]; omega
    · obtain rfl : k = n := by omega
      go_wp2
      go_ret
      exact ⟨rfl, _, rfl⟩

set_option maxRecDepth 100000 in
set_option maxHeartbeats 1000000 in
theorem sameInts6_any (A A2 : Option Addr) (n c n2 c2 : Nat) (xs ys : List Int) (w : World) (B : Nat) (hx : IntsAt w B A n xs) (hy : IntsAt w B A2 n2 ys) :
    Calls Try.prog 12 #[.slice A n c, .slice A2 n2 c2] w fun e w' => e = .returned (.bool (decide (xs = ys))) ∧ ∃ k, w' = w.drewN k := by
  have hlx := hx.len
  have hly := hy.len
  have hmx := hx.max
  by_cases hne : n = n2
  · have HL := Lib.hid (show xs.length = ys.length by omega)
    have HX := Lib.hid hx
    have HY := Lib.hid hy
    have HLX := Lib.hid hlx
    subst hne
    have hb : ((n : Int) != (n : Int)) = false := by simp
    clear hx hy hlx hly
    go_enter Try.func12, Try.ntmps12
    go_wp2
    go_loopw [5] (fun i wr => ∃ k : Nat, k ≤ n ∧ i = .int .i64 k ∧ Agree xs ys k ∧ ∃ m, wr = w.drewN m) (fun i _ => n - (intOf i).toNat)
    case atStart => exact ⟨0, Nat.zero_le _, rfl, Agree.zero _ _, 0, rfl⟩
    case round =>
      obtain ⟨k, hk, rfl, hA, m, rfl⟩ := hrel
      by_cases hlt : k < n
      · obtain ⟨b, off, z, rfl, c1, k1, e1⟩ := HX.out.cellAt hlt
        obtain ⟨b2, off2, y, rfl, c2, k2, e2⟩ := HY.out.cellAt hlt
        have hk0 : (0 : Int) ≤ (k : Int) := by omega
        have hk1 : (k : Int) < (n : Int) := by omega
        by_cases e : z = y
        · have H := Lib.hid (hA.succ k1 k2 (by rw [e1, e2, e]))
          have he : (z != y) = false := by simp [e]
          have he2 : (z == y) = true := by simp [e]
          clear e e1 e2 hA
          go_wp2_with fail
          go_quiet (fail)
          go_wp2
          go_roundw
          case rel => exact ⟨k + 1, by omega, by go_num, H.out, _, rfl⟩
          case measure => simp [intOf]; omega
        · have H := Lib.hid (Agree.bad k1 k2 (by rw [e1, e2]; exact e))
          have he : (z != y) = true := by simp [e]
          clear e e1 e2 hA
          go_wp2_with fail
          go_quiet (fail)
          go_wp2
          go_ret
          exact ⟨ret_b H.out.symm, _, World.drewN_drewN ..⟩
      · obtain rfl : k = n := by omega
        have H := Lib.hid (Agree.good (by rw [← HLX.out]; exact hA) HL.out)
        clear hA
        go_wp2
        go_ret
        exact ⟨ret_b H.out.symm, _, rfl⟩
  · have H := Lib.hid (len_ne (xs := xs) (ys := ys) (by omega))
    have hb : ((n : Int) != (n2 : Int)) = true := by simp; omega
    clear hx hy hlx hly hne
    go_enter Try.func12, Try.ntmps12
    go_wp2
    go_ret
    exact ⟨ret_b H.out.symm, 0, rfl⟩

end Go.Proofs.Ytojofbmpknpggaa
