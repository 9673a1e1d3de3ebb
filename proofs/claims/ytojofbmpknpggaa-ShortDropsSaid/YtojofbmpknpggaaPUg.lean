/- Arguments opened: proofs; a proof with a list of numbers and a number. -/
import Derived.Test.YtojofbmpknpggaaPJg
import Derived.Test.YtojofbmpknpggaaK8g
import Derived.Test.YtojofbmpknpggaaPFg
import Derived.Laws.StructEq
/- Contracts: the reference's within, isCount, stepRight, ValidProof, SameSteps (layer 4). A proof read as an argument. -/
namespace Go.Proofs.Ytojofbmpknpggaa
open Go.RowKit

def wit4 (n lo hi : Int) : Bool := decide (lo ≤ n) && decide (n ≤ hi)
set_option maxHeartbeats 400000 in
theorem within4_any (n lo hi : Int) (w : World) : Calls Try.prog 64 #[.int .i64 n, .int .i64 lo, .int .i64 hi] w fun e w' => e = .returned (.bool (wit4 n lo hi)) ∧ w = w' := by
  unfold wit4
  by_cases h1 : lo ≤ n <;> by_cases h2 : n ≤ hi
  all_goals
    go_enter Try.func64, Try.ntmps64
    go_wp2
    go_ret
    simp [*]
theorem isCount4_any (n : Int) (w : World) : Calls Try.prog 63 #[.int .i64 n] w fun e w' => e = .returned (.bool (decide (0 ≤ n ∧ n ≤ 60))) ∧ w = w' := by
  rw [show decide (0 ≤ n ∧ n ≤ 60) = (decide (0 ≤ n) && decide (n ≤ 60)) from by simp]
  go_enter Try.func63, Try.ntmps63
  go_wp2_with (go_at_call 64; ((with_reducible refine (within4_any _ _ _ _).mono ?_); rintro e w1 ⟨rfl, rfl⟩))
  go_ret
  exact ⟨rfl, rfl⟩

theorem wit_btw (y g : Int) : wit4 y 0 (g - 1) = btw g y := by
  unfold wit4 btw
  by_cases h1 : 0 ≤ y
  · by_cases h2 : y < g
    · rw [decide_eq_true h1, decide_eq_true (by omega), decide_eq_true ⟨h1, h2⟩]
      rfl
    · rw [decide_eq_true h1, decide_eq_false (by omega), decide_eq_false (by omega)]
      rfl
  · rw [decide_eq_false h1, decide_eq_false (p := 0 ≤ y ∧ y < g) (by omega), Bool.false_and]

set_option maxRecDepth 100000 in
set_option maxHeartbeats 1000000 in
theorem stepRight_any (g i x y z : Int) (w : World) (hg : 0 ≤ g) (hi : 0 ≤ i) (hg1 : g ≤ 1000000) (hi1 : i ≤ 1000000) :
    Calls Try.prog 65 #[.int .i64 g, .agg #[.int .i64 x, .int .i64 y, .int .i64 z], .int .i64 i] w fun e w' => e = .returned (.bool (stepOk g i (x, y, z))) ∧ Below w.heap.size w w' := by
  have CG := Lib.hid (fun (V : World) => within4_any y 0 (g - 1) V)
  have CI := Lib.hid (fun (V : World) => within4_any y 0 (i - 1) V)
  have CJ := Lib.hid (fun (V : World) => within4_any z 0 (i - 1) V)
  rw [wit_btw] at CG CI CJ
  by_cases h1 : x = 1
  · subst h1
    rw [stepOk_cite]
    obtain ⟨q, hq⟩ : ∃ q, btw g y = q := ⟨_, rfl⟩
    rw [hq] at CG ⊢
    clear hq CI CJ
    cases q with
    | false =>
      go_enter Try.func65, Try.ntmps65
      go_wp2_with (go_at_call 64; ((with_reducible refine (CG.out _).mono ?_); rintro e w1 ⟨rfl, rfl⟩))
      go_ret
      exact ⟨rfl, bel_al (Below.refl _ w) _⟩
    | true =>
      by_cases hz : z = 0
      · subst hz
        go_enter Try.func65, Try.ntmps65
        go_wp2_with (go_at_call 64; ((with_reducible refine (CG.out _).mono ?_); rintro e w1 ⟨rfl, rfl⟩))
        go_ret
        exact ⟨rfl, bel_al (Below.refl _ w) _⟩
      · have hz' : (z == 0) = false := by simpa using hz
        rw [decide_eq_false hz]
        go_enter Try.func65, Try.ntmps65
        go_wp2_with (go_at_call 64; ((with_reducible refine (CG.out _).mono ?_); rintro e w1 ⟨rfl, rfl⟩))
        go_ret
        exact ⟨rfl, bel_al (Below.refl _ w) _⟩
  · have h1' : (x == 1) = false := by simpa using h1
    by_cases h2 : x = 2
    · subst h2
      rw [stepOk_det]
      obtain ⟨q, hq⟩ : ∃ q, btw i y = q := ⟨_, rfl⟩
      rw [hq] at CI ⊢
      obtain ⟨r, hr⟩ : ∃ r, btw i z = r := ⟨_, rfl⟩
      rw [hr] at CJ ⊢
      clear hq hr CG
      cases q with
      | false =>
        clear CJ
        go_enter Try.func65, Try.ntmps65
        go_wp2_with (go_at_call 64; ((with_reducible refine (CI.out _).mono ?_); rintro e w1 ⟨rfl, rfl⟩))
        go_ret
        exact ⟨rfl, bel_al (Below.refl _ w) _⟩
      | true =>
        go_enter Try.func65, Try.ntmps65
        go_wp2_with (first
          | (go_at_call 64; ((with_reducible refine (CI.out _).mono ?_); rintro e w1 ⟨rfl, rfl⟩))
          | (go_at_call 64; ((with_reducible refine (CJ.out _).mono ?_); rintro e w2 ⟨rfl, rfl⟩)))
        go_ret
        exact ⟨rfl, bel_al (Below.refl _ w) _⟩
    · have h2' : (x == 2) = false := by simpa using h2
      rw [stepOk_odd h1 h2]
      clear CG CI CJ
      go_enter Try.func65, Try.ntmps65
      go_wp2
      go_ret
      exact ⟨rfl, bel_al (Below.refl _ w) _⟩

set_option maxRecDepth 100000 in
set_option maxHeartbeats 1000000 in
theorem refValidProof_any (g : Int) (A : Option Addr) (n c : Nat) (pp : List Stp) (w : World) (hp : StepsAt w w.heap.size A n pp) :
    Calls Try.prog 52 #[.int .i64 g, .slice A n c] w fun e w' => e = .returned (.bool (proofOk g pp)) ∧ Below w.heap.size w w' := by
  have hl := hp.len
  have hm := hp.max
  have CN := Lib.hid (isCount4_any g w)
  have CW := Lib.hid (within4_any (n : Int) 1 60 w)
  by_cases h1 : 0 ≤ g ∧ g ≤ 60
  · rw [decide_eq_true h1] at CN
    by_cases h2 : n < 1 ∨ 60 < n
    · rw [proofOk_len (by omega)]
      rw [show wit4 (n : Int) 1 60 = false from by unfold wit4; rcases h2 with h2 | h2 <;> simp <;> omega] at CW
      clear hp hl h2
      go_enter Try.func52, Try.ntmps52
      go_wp2_with (first
        | (go_at_call 63; ((with_reducible refine CN.out.mono ?_); rintro e w1 ⟨rfl, rfl⟩))
        | (go_at_call 64; ((with_reducible refine CW.out.mono ?_); rintro e w1 ⟨rfl, rfl⟩)))
      go_ret
      exact ⟨rfl, Below.refl _ _⟩
    · rw [show wit4 (n : Int) 1 60 = true from by unfold wit4; simp; omega] at CW
      obtain ⟨R, hR⟩ : ∃ R, proofOk g pp = R := ⟨_, rfl⟩
      have HALL := Lib.hid (fun (h : stepsTo g pp n) => show proofOk g pp = true from proofOk_all h1 (by omega) (by rw [← hl]; exact h))
      have HBAD := Lib.hid (fun (k : Nat) (x : Stp) (hx : pp[k]? = some x) (e : stepOk g k x = false) => show proofOk g pp = false from proofOk_bad hx e)
      rw [hR] at HALL HBAD ⊢
      have CS := Lib.hid (fun (k : Nat) (hk : k < n) (x y z : Int) (V : World) => stepRight_any g (k : Int) x y z V h1.1 (by omega) (by omega) (by omega))
      have HP := Lib.hid hp
      have hn1 : 1 ≤ n := by omega
      have hn60 : n ≤ 60 := by omega
      clear hp hR h2 hl h1 hm
      go_enter Try.func52, Try.ntmps52
      go_wp2_with (first
        | (go_at_call 63; ((with_reducible refine CN.out.mono ?_); rintro e w1 ⟨rfl, rfl⟩))
        | (go_at_call 64; ((with_reducible refine CW.out.mono ?_); rintro e w1 ⟨rfl, rfl⟩)))
      clear CN CW
      go_loopw [5] (fun i wr => ∃ k : Nat, k ≤ n ∧ i = .int .i64 k ∧ stepsTo g pp k ∧ Below w.heap.size w wr) (fun i _ => n - (intOf i).toNat)
      case atStart => exact ⟨0, Nat.zero_le _, rfl, stepsTo_zero _ _, Below.refl _ _⟩
      case round =>
        obtain ⟨k, hk, rfl, hok, hB⟩ := hrel
        have HB := Lib.hid hB
        by_cases hlt : k < n
        · obtain ⟨b, off, x, y, z, rfl, hb, q1, q2, q3, q4⟩ := HP.out.cellAt hlt
          have r1 := (hB.cell (p := ⟨b, off + k * 3, none⟩) hb).trans q1
          have r2 := (hB.cell (p := ⟨b, off + k * 3 + 1, none⟩) hb).trans q2
          have r3 := (hB.cell (p := ⟨b, off + k * 3 + 2, none⟩) hb).trans q3
          have hk0 : (0 : Int) ≤ (k : Int) := by omega
          have hk1 : (k : Int) < (n : Int) := by omega
          have C := Lib.hid (CS.out k hlt x y z wr)
          cases hso : stepOk g k (x, y, z)
          · have H := Lib.hid (HBAD.out k _ q4 hso)
            rw [hso] at C
            clear q1 q2 q3 q4 hso hok hB
            go_wp2_with (go_at_call 65; refine C.out.mono ?_; rintro e w3 ⟨rfl, hB3⟩; have HB3 := Lib.hid (below_then HB.out hB3); clear hB3)
            go_ret
            exact ⟨ret_b H.out.symm, HB3.out⟩
          · have H := Lib.hid (stepsTo_succ hok q4 hso)
            rw [hso] at C
            clear q1 q2 q3 q4 hso hok hB
            go_wp2_with (go_at_call 65; refine C.out.mono ?_; rintro e w3 ⟨rfl, hB3⟩; have HB3 := Lib.hid (below_then HB.out hB3); clear hB3)
            go_roundw
            case rel => exact ⟨k + 1, by omega, by go_num, H.out, HB3.out⟩
            case measure => simp [intOf]; omega
        · obtain rfl : k = n := by omega
          have H := Lib.hid (HALL.out hok)
          clear hok hB
          go_wp2
          go_ret
          exact ⟨ret_b H.out.symm, HB.out⟩
  · rw [decide_eq_false h1] at CN
    rw [proofOk_num h1]
    clear hp hl CW
    go_enter Try.func52, Try.ntmps52
    go_wp2_with (go_at_call 63; ((with_reducible refine CN.out.mono ?_); rintro e w1 ⟨rfl, rfl⟩))
    go_ret
    exact ⟨rfl, Below.refl _ _⟩

end Go.Proofs.Ytojofbmpknpggaa

/- Moved: what it hands back; slices.Clone at []api.Step. -/
namespace Go.Proofs.Ytojofbmpknpggaa
open Go.RowKit

/-- A step whose citation is moved. -/
def movAt (xs : List Int) (x : Stp) : Stp := if x.1 = 1 then (x.1, xs.getD x.2.1.toNat 0, x.2.2) else x
/-- The proof whose first k steps are moved. -/
def movTo (xs : List Int) (pp : List Stp) (k : Nat) : List Stp := (pp.take k).map (movAt xs) ++ pp.drop k
theorem movTo_zero (xs : List Int) (pp : List Stp) : movTo xs pp 0 = pp := by simp [movTo]
theorem movTo_len (xs : List Int) (pp : List Stp) (k : Nat) : (movTo xs pp k).length = pp.length := by
  unfold movTo
  rw [List.length_append, List.length_map, List.length_take, List.length_drop]
  omega
theorem movTo_all (xs : List Int) (pp : List Stp) : movTo xs pp pp.length = pp.map (movAt xs) := by simp [movTo]
theorem movTo_at {xs : List Int} {pp : List Stp} {k : Nat} {x : Stp} (hx : pp[k]? = some x) : (movTo xs pp k)[k]? = some x := by
  obtain ⟨hk, rfl⟩ := List.getElem?_eq_some_iff.1 hx
  unfold movTo
  rw [List.getElem?_append_right (by simp; omega)]
  simp only [List.length_map, List.length_take, List.getElem?_drop]
  rw [show k + (k - min k pp.length) = k from by omega, hx]
theorem movTo_succ {xs : List Int} {pp : List Stp} {k : Nat} {x : Stp} (hx : pp[k]? = some x) : movTo xs pp (k + 1) = (movTo xs pp k).set k (movAt xs x) := by
  obtain ⟨hk, rfl⟩ := List.getElem?_eq_some_iff.1 hx
  unfold movTo
  rw [List.take_succ_eq_append_getElem hk, List.map_append, List.drop_eq_getElem_cons hk, List.set_append_right _ _ (by simp; omega)]
  simp only [List.length_map, List.length_take, List.map_cons, List.map_nil, List.append_assoc, List.cons_append, List.nil_append]
  rw [show k - min k pp.length = 0 from by omega, List.set_cons_zero]
theorem movTo_stay {xs : List Int} {pp : List Stp} {k : Nat} {x : Stp} (hx : pp[k]? = some x) (h : x.1 ≠ 1) : movTo xs pp (k + 1) = movTo xs pp k := by
  rw [movTo_succ hx]
  unfold movAt
  rw [if_neg h]
  apply List.ext_getElem?
  intro j
  rw [List.getElem?_set]
  split
  · rename_i e
    subst e
    rw [movTo_at hx, movTo_len]
    obtain ⟨hk, _⟩ := List.getElem?_eq_some_iff.1 hx
    rw [if_pos hk]
  · rfl
theorem flatS_set : ∀ (pp : List Stp) (k : Nat) (x : Stp) (z : Int), pp[k]? = some x → (flatS pp).set (k * 3 + 1) (.int .i64 z) = flatS (pp.set k (x.1, z, x.2.2))
  | [], k, x, z, h => by simp at h
  | y :: pp, 0, x, z, h => by
    simp only [List.getElem?_cons_zero, Option.some.injEq] at h
    subst h
    rfl
  | y :: pp, k + 1, x, z, h => by
    have := flatS_set pp k x z (by simpa using h)
    rw [show (k + 1) * 3 + 1 = k * 3 + 1 + 1 + 1 + 1 from by omega]
    simp only [flatS, List.set_cons_succ]
    rw [this]
theorem flatS_cells {w : World} {B n : Nat} {b off : Nat} {pp : List Stp} (h : StepsAt w B (some ⟨b, off, none⟩) n pp) (j : Nat) (u : Value) (hu : (flatS pp)[j]? = some u) : w.cell? ⟨b, off + j, none⟩ = some u := by
  have hj := (List.getElem?_eq_some_iff.1 hu).1
  rw [flatS_len] at hj
  have hl := h.len
  obtain ⟨b', off', e, _, hc⟩ := h.mem (by omega)
  cases e
  have hk : j / 3 < pp.length := by omega
  obtain ⟨c1, c2, c3⟩ := hc (j / 3) hk
  obtain ⟨f1, f2, f3⟩ := flatS_get pp (j / 3) hk
  have hr : j % 3 < 3 := Nat.mod_lt _ (by omega)
  rcases (show j % 3 = 0 ∨ j % 3 = 1 ∨ j % 3 = 2 by omega) with h0 | h0 | h0
  · have e : j = j / 3 * 3 := by omega
    rw [← e] at c1 f1
    rw [c1, ← f1, hu]
  · have e : j = j / 3 * 3 + 1 := by omega
    rw [Nat.add_assoc, ← e] at c2
    rw [← e] at f2
    rw [c2, ← f2, hu]
  · have e : j = j / 3 * 3 + 2 := by omega
    rw [Nat.add_assoc, ← e] at c3
    rw [← e] at f3
    rw [c3, ← f3, hu]
theorem flatS_one : ∀ pp : List Stp, ∀ u ∈ flatS pp, u.oneCell' = true
  | [], u, h => by simp [flatS] at h
  | x :: pp, u, h => by
    simp only [flatS, List.mem_cons] at h
    rcases h with rfl | rfl | rfl | h
    · rfl
    · rfl
    · rfl
    · exact flatS_one pp u h

/-- What Moved hands back, and its error. -/
def movZ (g : Int) (pp : List Stp) (xs : List Int) (c : Int) : List Stp × Int :=
  if proofOk g pp = true then
    if (xs.length : Int) = g then
      if decide (0 ≤ c ∧ c ≤ 60) && xs.all (btw c) then (pp.map (movAt xs), 0) else ([], 7)
    else ([], 9)
  else ([], 1)

/-- A row of steps in new memory. -/
def RetRowS (w : World) (pp : List Stp) (e : Ending) (w' : World) : Prop := ∃ v, e = .returned v ∧ w'.ownsRow w.heap.size 33 3 v pp.length (flatS pp) ∧ Below w.heap.size w w'

set_option maxRecDepth 100000 in
set_option maxHeartbeats 1000000 in
theorem cloneS_any (w : World) (b off n c : Nat) (pp : List Stp) (hn : 1 ≤ n) (hn2 : n ≤ 1000000) (hp : StepsAt w w.heap.size (some ⟨b, off, none⟩) n pp) :
    Calls Try.prog 42 #[.slice (some ⟨b, off, none⟩) n c] w (RetRowS w pp) := by
  obtain ⟨i0, hi, hz0, hz1, hz2⟩ := info_parts info_step
  have hnl : (binOp .eql 22 (.slice (some ⟨b, off, none⟩) n c) (.slice none 0 0)).run Try.prog w = .ok (.bool false) w := Lib.run_eql_slice_nil w 22 33 (some ⟨b, off, none⟩) n c 0 0 Try.underlying22
  have hl := hp.len
  have H1 : (flatS pp).length = n * 3 := by rw [flatS_len, ← hl]
  have HP1 : StepsAt (w.alloc (.cells #[] 33)) w.heap.size (some ⟨b, off, none⟩) n pp := hp.below (bel_al0 w _)
  have H2 : ∀ j u, (flatS pp)[j]? = some u → (w.alloc (.cells #[] 33)).cell? ((⟨b, off, none⟩ : Addr).add j) = some u := fun j u hu => by rw [add0]; exact flatS_cells HP1 j u hu
  have HH1 := Lib.hid H1
  have HH2 := Lib.hid H2
  have HH3 := Lib.hid (flatS_one pp)
  have HO : (w.alloc (.cells #[] 33)).ownsRow w.heap.size 33 3 (.slice (some ⟨w.heap.size, 0, none⟩) 0 0) 0 [] :=
    ⟨rfl, .inr ⟨w.heap.size, 0, #[], rfl, Nat.le_refl _, heap_alloc_new w _, Nat.le_refl _, by unfold maxLen; omega, rfl, rfl⟩⟩
  have HO' := Lib.hid HO
  have HL := Lib.hid hl
  clear H1 H2 HO HP1 hp hl
  go_enter Try.func42, Try.ntmps42
  go_wp2_with (at_builtin
               refine wpList_append_own_at _ rfl _ _ 22 rfl w.heap.size 33 i0 _ 3 24 Try.underlying22 hi hz0 hz1 hz2 rfl (by omega) (.slice (some ⟨w.heap.size, 0, none⟩) 0 0) 0 [] rfl HO'.out ⟨b, off, none⟩ n c (flatS pp) rfl HH1.out HH2.out HH3.out (by unfold maxLen; omega) (by omega) (by simp) ?_
               intro v' w1 hown hg _ _
               have HW := Lib.hid hown
               have HG := Lib.hid hg
               clear hown hg)
  go_ret
  refine ⟨v', rfl, ?_, ((Below.refl _ w).alloc (Nat.le_refl _) _).grown HG.out (by simp) (fun k e => by cases e; exact Nat.le_refl _)⟩
  have := HW.out
  simpa [HL.out] using this

end Go.Proofs.Ytojofbmpknpggaa

/- Contract: kernel.Moved at any arguments. -/
namespace Go.Proofs.Ytojofbmpknpggaa
open Go.RowKit

/-- Steps in memory that are new, or nothing, and an error. -/
theorem retS_none {w w' : World} {er : Int} (h : Below w.heap.size w w') : RetS w [] er (.returned (.tuple #[.slice none 0 0, .int .i64 er])) w' := ⟨none, 0, 0, rfl, StepsAt.nil _ _ _, h⟩

set_option maxRecDepth 100000 in
set_option maxHeartbeats 2000000 in
theorem moved_any (g cnt : Int) (Ap Ax : Option Addr) (np cp nx cx : Nat) (pp : List Stp) (xs : List Int) (w : World) (hp : StepsAt w w.heap.size Ap np pp) (hx : IntsAt w w.heap.size Ax nx xs) (hn : nx ≤ 1000000) :
    Calls Try.prog 19 #[.int .i64 g, .slice Ap np cp, .slice Ax nx cx, .int .i64 cnt] w (RetS w (movZ g pp xs cnt).1 (movZ g pp xs cnt).2) := by
  have CV := Lib.hid (validProof_any g Ap np cp pp w hp)
  cases hv : proofOk g pp
  · rw [hv] at CV
    rw [show movZ g pp xs cnt = ([], 1) from by unfold movZ; rw [hv]; rfl]
    clear hv hp hx
    go_enter Try.func19, Try.ntmps19
    go_wp2_with (go_at_call 24; ((with_reducible refine CV.out.mono ?_); rintro e w1 ⟨rfl, hB1⟩; have HB1 := Lib.hid hB1; clear hB1))
    go_ret2
    exact retS_none HB1.out
  · rw [hv] at CV
    have hlx := hx.len
    by_cases h1 : (nx : Int) = g
    · have CN := Lib.hid (validNumber_any cnt)
      have CB := Lib.hid (fun (V : World) (hB : Below w.heap.size w V) => below_any cnt Ax nx cx xs V w.heap.size (hx.below hB) hn)
      obtain ⟨q, hq⟩ : ∃ q, decide (0 ≤ cnt ∧ cnt ≤ 60) = q := ⟨_, rfl⟩
      obtain ⟨r, hr⟩ : ∃ r, xs.all (btw cnt) = r := ⟨_, rfl⟩
      rw [hq] at CN
      rw [hr] at CB
      have hbad : (q && r) = false → movZ g pp xs cnt = ([], 7) := fun h => by
        unfold movZ
        rw [if_pos hv, if_pos (by rw [← hlx]; exact h1), hq, hr, h]
        rfl
      have hgood : (q && r) = true → movZ g pp xs cnt = (pp.map (movAt xs), 0) := fun h => by
        unfold movZ
        rw [if_pos hv, if_pos (by rw [← hlx]; exact h1), hq, hr, if_pos h]
      cases q
      · rw [hbad rfl]
        clear hv hp hx hlx hq hr hbad hgood CB
        subst h1
        go_enter Try.func19, Try.ntmps19
        go_wp2_with (first
          | (go_at_call 24; ((with_reducible refine CV.out.mono ?_); rintro e w1 ⟨rfl, hB1⟩; have HB1 := Lib.hid hB1; clear hB1))
          | (go_at_call 40; ((with_reducible refine (CN.out _).mono ?_); rintro e w2 ⟨rfl, rfl⟩)))
        go_ret2
        exact retS_none HB1.out
      · cases r
        · rw [hbad rfl]
          clear hv hp hx hlx hq hr hbad hgood
          subst h1
          go_enter Try.func19, Try.ntmps19
          go_wp2_with (first
            | (go_at_call 41; ((with_reducible refine (CB.out _ HB1.out).mono ?_); rintro e w3 ⟨rfl, rfl⟩))
            | (go_at_call 24; ((with_reducible refine CV.out.mono ?_); rintro e w1 ⟨rfl, hB1⟩; have HB1 := Lib.hid hB1; clear hB1))
            | (go_at_call 40; ((with_reducible refine (CN.out _).mono ?_); rintro e w2 ⟨rfl, rfl⟩)))
          go_ret2
          exact retS_none HB1.out
        · rw [hgood rfl]
          obtain ⟨hg0, hl60, hto⟩ := proofOk_to hv
          have hlp := hp.len
          have hn1 : 1 ≤ np := by omega
          have hn60 : np ≤ 60 := by omega
          obtain ⟨b, off, rfl, hb, _⟩ := hp.mem (by omega)
          have CC := Lib.hid (fun (V : World) (hB : Below w.heap.size w V) => cloneS_any V b off np cp pp hn1 (by omega) ((hp.below hB).more hB.size))
          have HP := Lib.hid hp
          have HX := Lib.hid hx
          have HLP := Lib.hid hlp
          have HLX := Lib.hid hlx
          have HTO := Lib.hid (fun k (hk : k < np) (x : Stp) (hx : pp[k]? = some x) (h1 : x.1 = 1) => show 0 ≤ x.2.1 ∧ x.2.1 < (nx : Int) from by
            have h := hto k (by omega) x hx
            rcases stepOk_num h with h2 | h2
            · omega
            · omega)
          clear hv hp hx hlx hq hr hbad hgood hto hl60 hlp hg0
          subst h1
          go_enter Try.func19, Try.ntmps19
          go_wp2_with (first
            | (go_at_call 41; ((with_reducible refine (CB.out _ HB1.out).mono ?_); rintro e w3 ⟨rfl, rfl⟩))
            | (go_at_call 24; ((with_reducible refine CV.out.mono ?_); rintro e w1 ⟨rfl, hB1⟩; have HB1 := Lib.hid hB1; clear hB1))
            | (go_at_call 40; ((with_reducible refine (CN.out _).mono ?_); rintro e w2 ⟨rfl, rfl⟩))
            | (go_at_call 42
               (with_reducible refine (CC.out _ HB1.out).mono ?_)
               rintro e w4 ⟨v4, rfl, hrow, hB4⟩
               rw [← HLP.out] at hrow
               obtain ⟨gb, cap, rfl, hgb⟩ := World.ownsRow.form hrow (by omega)
               have HROW := Lib.hid (show w4.ownsRow w1.heap.size 33 3 (.slice (some ⟨gb, 0, none⟩) np cap) np (flatS (movTo xs pp 0)) from by rw [movTo_zero]; exact hrow)
               have HB4 := Lib.hid (below_then HB1.out hB4)
               have HSZ := Lib.hid (show w.heap.size ≤ w1.heap.size from HB1.out.size)
               clear hrow hB4))
          clear CB CN CV CC
          go_loopw [34] (fun i wr => ∃ k : Nat, k ≤ np ∧ i = .int .i64 k ∧ wr.ownsRow w1.heap.size 33 3 (.slice (some ⟨gb, 0, none⟩) np cap) np (flatS (movTo xs pp k)) ∧ Below w.heap.size w wr) (fun i _ => np - (intOf i).toNat)
          case atStart => exact ⟨0, Nat.zero_le _, rfl, HROW.out, HB4.out⟩
          case round =>
            obtain ⟨k, hk, rfl, hrow, hB⟩ := hrel
            have HB := Lib.hid hB
            have HR := Lib.hid hrow
            by_cases hlt : k < np
            · obtain ⟨b', off', x, y, z, e', hb', q1, q2, q3, q4⟩ := HP.out.cellAt hlt
              cases e'
              have r1 := (hB.cell (p := ⟨b, off + k * 3, none⟩) hb').trans q1
              have r2 := (hB.cell (p := ⟨b, off + k * 3 + 1, none⟩) hb').trans q2
              have r3 := (hB.cell (p := ⟨b, off + k * 3 + 2, none⟩) hb').trans q3
              have hk0 : (0 : Int) ≤ (k : Int) := by omega
              have hk1 : (k : Int) < (np : Int) := by omega
              by_cases h1 : x = 1
              · subst h1
                obtain ⟨y0, y1⟩ := HTO.out k hlt _ q4 rfl
                obtain ⟨yn, rfl⟩ := Int.eq_ofNat_of_zero_le y0
                have y2 : (yn : Int) < (nx : Int) := y1
                have hyn : yn < nx := by omega
                obtain ⟨bx, ox, zx, rfl, hix, hkx, ex0⟩ := HX.out.cellAt hyn
                have ex : xs[yn]? = some zx := by rw [List.getElem?_eq_getElem hkx, ex0]
                have hbx' : bx < w.heap.size := World.block_lt_of_cell? w _ hix
                have t1 := (hB.cell (p := ⟨bx, ox + yn, none⟩) hbx').trans hix
                have t2 : (wr.alloc (.cells #[.int .i64 1, .int .i64 (yn : Int), .int .i64 z] 33)).cell? ⟨bx, ox + yn, none⟩ = some (.int .i64 zx) := (alloc_keep _ _ _ (Nat.lt_of_lt_of_le hbx' hB.size)).trans t1
                have hrowA : (wr.alloc (.cells #[.int .i64 1, .int .i64 (yn : Int), .int .i64 z] 33)).ownsRow w1.heap.size 33 3 (.slice (some ⟨gb, 0, none⟩) np cap) np (flatS (movTo xs pp k)) := World.ownsRow.alloc hrow _
                have hgk : (movTo xs pp k)[k]? = some (1, (yn : Int), z) := movTo_at q4
                have hst := hrowA.stored (k * 3 + 1) (.int .i64 zx)
                rw [flatS_set _ _ _ zx hgk] at hst
                have hmv : (movTo xs pp k).set k (1, zx, z) = movTo xs pp (k + 1) := by
                  rw [movTo_succ q4]
                  unfold movAt
                  rw [if_pos rfl]
                  simp only [Int.toNat_natCast, List.getD_eq_getElem?_getD, ex, Option.getD_some]
                rw [show ((1, (yn : Int), z) : Stp).1 = 1 from rfl, show ((1, (yn : Int), z) : Stp).2.2 = z from rfl, hmv] at hst
                have c1 : (wr.alloc (.cells #[.int .i64 1, .int .i64 (yn : Int), .int .i64 z] 33)).cell? ⟨gb, k * 3 + 1, none⟩ = some (.int .i64 (yn : Int)) := by
                  rw [hrowA.cellAt _ (by omega)]
                  obtain ⟨hk', e⟩ := List.getElem?_eq_some_iff.1 hgk
                  have h := (flatS_get _ k hk').2.1
                  rw [e] at h
                  exact h
                have c2 := hrowA.frozenAt (k * 3 + 1)
                have HST := Lib.hid hst
                have HBN := Lib.hid ((hB.alloc hB.size (.cells #[.int .i64 1, .int .i64 (yn : Int), .int .i64 z] 33)).grown hst.2 (by have := hB.size; rw [World.size_alloc]; omega) (fun j e => by cases e; have := HSZ.out; omega))
                clear q1 q2 q3 q4 hB hrow hrowA hgk hst hmv hix ex ex0 hkx y1
                go_wp2
                go_roundw
                case rel => exact ⟨k + 1, by omega, by go_num, HST.out.1, HBN.out⟩
                case measure => simp [intOf]; omega
              · have h1' : (x == 1) = false := by simpa using h1
                have H := Lib.hid (show wr.ownsRow w1.heap.size 33 3 (.slice (some ⟨gb, 0, none⟩) np cap) np (flatS (movTo xs pp (k + 1))) from by rw [movTo_stay q4 h1]; exact hrow)
                clear q1 q2 q3 q4 hB hrow
                go_wp2
                go_roundw
                case rel => exact ⟨k + 1, by omega, by go_num, World.ownsRow.alloc H.out _, HB.out.alloc HB.out.size _⟩
                case measure => simp [intOf]; omega
            · obtain rfl : k = np := by omega
              clear hB hrow
              go_wp2
              go_ret2
              have hlast := HR.out
              rw [HLP.out, movTo_all, ← HLP.out] at hlast
              obtain ⟨A', c', e', hs', _⟩ := row_steps hlast (by omega)
              cases e'
              exact ⟨_, _, _, rfl, hs', HB.out⟩
    · rw [show movZ g pp xs cnt = ([], 9) from by unfold movZ; rw [if_pos hv, if_neg (by omega)]]
      have h1' : ((nx : Int) == g) = false := by simpa using h1
      clear hv hp hx hlx
      go_enter Try.func19, Try.ntmps19
      go_wp2_with (go_at_call 24; ((with_reducible refine CV.out.mono ?_); rintro e w1 ⟨rfl, hB1⟩; have HB1 := Lib.hid hB1; clear hB1))
      go_ret2
      exact retS_none HB1.out

end Go.Proofs.Ytojofbmpknpggaa

/- Contracts: the reference's Moved; SameSteps at one list. -/
namespace Go.Proofs.Ytojofbmpknpggaa
open Go.RowKit

theorem neq_step (W : World) (x y z : Int) : (binOp .neq 33 (.agg #[.int .i64 x, .int .i64 y, .int .i64 z]) (.agg #[.int .i64 x, .int .i64 y, .int .i64 z])).run Try.prog W = .ok (.bool false) W := by
  rw [run_neq_struct]
  go_simp

end Go.Proofs.Ytojofbmpknpggaa

namespace Go.Proofs.Ytojofbmpknpggaa
open Go.ChangeShapes Go.WideShapes Go.ChangeAt Go.RowKit Go.Deep

theorem cells_step : Try.prog.cellsOf 33 = 3 := by kernel_rfl
section
variable {H : Type} {enc : TypeId × Value → H} {w : World} {base : Nat} {spare : Nat → Bool} {held : Bool}

set_option maxRecDepth 100000 in
theorem read_step {fuel : Nat} {cs : List Value} {x : DataW H × List MemPlace} (h : DataW.trod enc Try.prog w base spare held fuel 33 cs = some x) : ∃ a b c : Int, cs = [.int .i64 a, .int .i64 b, .int .i64 c] := by
  obtain ⟨ys, n, _, _, hl, hyl, hf⟩ := DataW.trod_struct Try.underlying33 h
  rw [cells_step] at hl
  match cs, hl, ys, hyl with
  | [c0, c1, c2], _, [y0, y1, y2], _ =>
    have f0 : DataW.trod enc Try.prog w base spare held n 3 (([c0, c1, c2].drop 0).take (Try.prog.cellsOf 3)) = some y0 := hf 0 _ rfl
    have f1 : DataW.trod enc Try.prog w base spare held n 3 (([c0, c1, c2].drop 1).take (Try.prog.cellsOf 3)) = some y1 := hf 1 _ rfl
    have f2 : DataW.trod enc Try.prog w base spare held n 3 (([c0, c1, c2].drop 2).take (Try.prog.cellsOf 3)) = some y2 := hf 2 _ rfl
    rw [cells_int] at f0 f1 f2
    obtain ⟨a, h0, _, _⟩ := DataW.trod_int Try.underlying3 f0
    obtain ⟨b, h1, _, _⟩ := DataW.trod_int Try.underlying3 f1
    obtain ⟨c, h2, _, _⟩ := DataW.trod_int Try.underlying3 f2
    have h0' : [c0] = [Value.int .i64 a] := h0
    have h1' : [c1] = [Value.int .i64 b] := h1
    have h2' : [c2] = [Value.int .i64 c] := h2
    simp only [List.cons.injEq, and_true] at h0' h1' h2'
    exact ⟨a, b, c, by rw [h0', h1', h2']⟩

/-- What is read as a slice of steps is one. -/
theorem read_steps {fuel : Nat} {v : Value} {x : DataW H × List MemPlace} (h : DataW.trod enc Try.prog w base spare held fuel 22 [v] = some x) :
    ∃ A n c pp, v = .slice A n c ∧ StepsAt w w.heap.size A n pp := by
  rcases open_slice Try.underlying22 h with ⟨hcs, _⟩ | ⟨a, len, cap, m, n, D, Pl, hcs, _, hl, hm, hmm, _, hi⟩
  · simp only [List.cons.injEq, and_true] at hcs
    exact ⟨none, 0, 0, [], hcs, StepsAt.nil _ _ _⟩
  · simp only [List.cons.injEq, and_true] at hcs
    unfold maxLen at hm
    have hlm : len ≤ m := by rw [hmm]; split <;> omega
    by_cases h0 : len = 0
    · subst h0
      exact ⟨some a, 0, cap, [], hcs, StepsAt.nil _ _ _⟩
    · have each : ∀ i, i < len → ∃ p : Stp, w.cell? ((a.add (i * 3)).add 0) = some (.int .i64 p.1) ∧ w.cell? ((a.add (i * 3)).add 1) = some (.int .i64 p.2.1) ∧ w.cell? ((a.add (i * 3)).add 2) = some (.int .i64 p.2.2) := by
        intro i hil
        obtain ⟨cs', hc, ht⟩ := hi i (by omega)
        rw [cells_step] at hc
        obtain ⟨_, hcl, hat⟩ := World.cells?_some hc
        obtain ⟨x, y, z, rfl⟩ := read_step ht
        exact ⟨(x, y, z), hat 0 (by omega), hat 1 (by omega), hat 2 (by omega)⟩
      obtain ⟨b, off, spot⟩ := a
      obtain ⟨p0, q0, _⟩ := each 0 (by omega)
      have hspot : spot = none := by simpa [Addr.add] using World.cell?_spot q0
      subst hspot
      have hblt : b < w.heap.size := by
        have := World.block_lt_of_cell? w _ q0
        simpa [Addr.add] using this
      obtain ⟨l, hll, hlp⟩ := list_of _ len each
      refine ⟨some ⟨b, off, none⟩, len, cap, l, hcs, ⟨hll.symm, by omega, fun _ => ⟨b, off, rfl, hblt, fun j hj => ?_⟩⟩⟩
      obtain ⟨x0, x1, x2⟩ := hlp j hj
      rw [addadd] at x0 x1 x2
      rw [Nat.add_zero] at x0
      exact ⟨x0, x1, x2⟩

end

end Go.Proofs.Ytojofbmpknpggaa
