/- Contract: the reference's Moved at any arguments. -/
import Derived.Test.YtippmpcaongolaaPJg
import Derived.Test.YtippmpcaongolaaK8g
import Derived.Test.YtippmpcaongolaaPFg
import Derived.Laws.StructEq
/- Contracts: the reference's within, isCount, stepRight, ValidProof, SameSteps (layer 4). A proof read as an argument. -/
namespace Go.Proofs.Ytippmpcaongolaa
open Go.RowKit

def wit4 (n lo hi : Int) : Bool := decide (lo ≤ n) && decide (n ≤ hi)
set_option maxHeartbeats 400000 in
theorem within4_any (n lo hi : Int) (w : World) : Calls Try.prog 111 #[.int .i64 n, .int .i64 lo, .int .i64 hi] w fun e w' => e = .returned (.bool (wit4 n lo hi)) ∧ w = w' := by
  unfold wit4
  by_cases h1 : lo ≤ n <;> by_cases h2 : n ≤ hi
  all_goals
    go_enter Try.func111, Try.ntmps111
    go_wp2
    go_ret
    simp [*]
theorem isCount4_any (n : Int) (w : World) : Calls Try.prog 96 #[.int .i64 n] w fun e w' => e = .returned (.bool (decide (0 ≤ n ∧ n ≤ 60))) ∧ w = w' := by
  rw [show decide (0 ≤ n ∧ n ≤ 60) = (decide (0 ≤ n) && decide (n ≤ 60)) from by simp]
  go_enter Try.func96, Try.ntmps96
  go_wp2_with (go_at_call 111; ((with_reducible refine (within4_any _ _ _ _).mono ?_); rintro e w1 ⟨rfl, rfl⟩))
  go_ret
  exact ⟨rfl, rfl⟩

theorem wit_btw (y g : Int) : wit4 y 0 (g - 1) = btw g y := by
  unfold wit4 btw
  by_cases h1 : 0 ≤ y
  · by_cases h2 : y < g
    · rw [decide_eq_true h1, decide_eq_true (by omega), decide_eq_true ⟨h1, h2⟩]
      rfl
    · rw [decide_eq_true h1, decide_eq_false (by omega), decide_eq_false (by omega)]
      rfl
  · rw [decide_eq_false h1, decide_eq_false (p := 0 ≤ y ∧ y < g) (by omega), Bool.false_and]

set_option maxRecDepth 100000 in
set_option maxHeartbeats 1000000 in
theorem stepRight_any (g i x y z : Int) (w : World) (hg : 0 ≤ g) (hi : 0 ≤ i) (hg1 : g ≤ 1000000) (hi1 : i ≤ 1000000) :
    Calls Try.prog 149 #[.int .i64 g, .agg #[.int .i64 x, .int .i64 y, .int .i64 z], .int .i64 i] w fun e w' => e = .returned (.bool (stepOk g i (x, y, z))) ∧ Below w.heap.size w w' := by
  have CG := Lib.hid (fun (V : World) => within4_any y 0 (g - 1) V)
  have CI := Lib.hid (fun (V : World) => within4_any y 0 (i - 1) V)
  have CJ := Lib.hid (fun (V : World) => within4_any z 0 (i - 1) V)
  rw [wit_btw] at CG CI CJ
  by_cases h1 : x = 1
  · subst h1
    rw [stepOk_cite]
    obtain ⟨q, hq⟩ : ∃ q, btw g y = q := ⟨_, rfl⟩
    rw [hq] at CG ⊢
    clear hq CI CJ
    cases q with
    | false =>
      go_enter Try.func149, Try.ntmps149
      go_wp2_with (go_at_call 111; ((with_reducible refine (CG.out _).mono ?_); rintro e w1 ⟨rfl, rfl⟩))
      go_ret
      exact ⟨rfl, bel_al (Below.refl _ w) _⟩
    | true =>
      by_cases hz : z = 0
      · subst hz
        go_enter Try.func149, Try.ntmps149
        go_wp2_with (go_at_call 111; ((with_reducible refine (CG.out _).mono ?_); rintro e w1 ⟨rfl, rfl⟩))
        go_ret
        exact ⟨rfl, bel_al (Below.refl _ w) _⟩
      · have hz' : (z == 0) = false := by simpa using hz
        rw [decide_eq_false hz]
        go_enter Try.func149, Try.ntmps149
        go_wp2_with (go_at_call 111; ((with_reducible refine (CG.out _).mono ?_); rintro e w1 ⟨rfl, rfl⟩))
        go_ret
        exact ⟨rfl, bel_al (Below.refl _ w) _⟩
  · have h1' : (x == 1) = false := by simpa using h1
    by_cases h2 : x = 2
    · subst h2
      rw [stepOk_det]
      obtain ⟨q, hq⟩ : ∃ q, btw i y = q := ⟨_, rfl⟩
      rw [hq] at CI ⊢
      obtain ⟨r, hr⟩ : ∃ r, btw i z = r := ⟨_, rfl⟩
      rw [hr] at CJ ⊢
      clear hq hr CG
      cases q with
      | false =>
        clear CJ
        go_enter Try.func149, Try.ntmps149
        go_wp2_with (go_at_call 111; ((with_reducible refine (CI.out _).mono ?_); rintro e w1 ⟨rfl, rfl⟩))
        go_ret
        exact ⟨rfl, bel_al (Below.refl _ w) _⟩
      | true =>
        go_enter Try.func149, Try.ntmps149
        go_wp2_with (first
          | (go_at_call 111; ((with_reducible refine (CI.out _).mono ?_); rintro e w1 ⟨rfl, rfl⟩))
          | (go_at_call 111; ((with_reducible refine (CJ.out _).mono ?_); rintro e w2 ⟨rfl, rfl⟩)))
        go_ret
        exact ⟨rfl, bel_al (Below.refl _ w) _⟩
    · have h2' : (x == 2) = false := by simpa using h2
      rw [stepOk_odd h1 h2]
      clear CG CI CJ
      go_enter Try.func149, Try.ntmps149
      go_wp2
      go_ret
      exact ⟨rfl, bel_al (Below.refl _ w) _⟩

set_option maxRecDepth 100000 in
set_option maxHeartbeats 1000000 in
theorem refValidProof_any (g : Int) (A : Option Addr) (n c : Nat) (pp : List Stp) (w : World) (hp : StepsAt w w.heap.size A n pp) :
    Calls Try.prog 103 #[.int .i64 g, .slice A n c] w fun e w' => e = .returned (.bool (proofOk g pp)) ∧ Below w.heap.size w w' := by
  have hl := hp.len
  have hm := hp.max
  have CN := Lib.hid (isCount4_any g w)
  have CW := Lib.hid (within4_any (n : Int) 1 60 w)
  by_cases h1 : 0 ≤ g ∧ g ≤ 60
  · rw [decide_eq_true h1] at CN
    by_cases h2 : n < 1 ∨ 60 < n
    · rw [proofOk_len (by omega)]
      rw [show wit4 (n : Int) 1 60 = false from by unfold wit4; rcases h2 with h2 | h2 <;> simp <;> omega] at CW
      clear hp hl h2
      go_enter Try.func103, Try.ntmps103
      go_wp2_with (first
        | (go_at_call 96; ((with_reducible refine CN.out.mono ?_); rintro e w1 ⟨rfl, rfl⟩))
        | (go_at_call 111; ((with_reducible refine CW.out.mono ?_); rintro e w1 ⟨rfl, rfl⟩)))
      go_ret
      exact ⟨rfl, Below.refl _ _⟩
    · rw [show wit4 (n : Int) 1 60 = true from by unfold wit4; simp; omega] at CW
      obtain ⟨R, hR⟩ : ∃ R, proofOk g pp = R := ⟨_, rfl⟩
      have HALL := Lib.hid (fun (h : stepsTo g pp n) => show proofOk g pp = true from proofOk_all h1 (by omega) (by rw [← hl]; exact h))
      have HBAD := Lib.hid (fun (k : Nat) (x : Stp) (hx : pp[k]? = some x) (e : stepOk g k x = false) => show proofOk g pp = false from proofOk_bad hx e)
      rw [hR] at HALL HBAD ⊢
      have CS := Lib.hid (fun (k : Nat) (hk : k < n) (x y z : Int) (V : World) => stepRight_any g (k : Int) x y z V h1.1 (by omega) (by omega) (by omega))
      have HP := Lib.hid hp
      have hn1 : 1 ≤ n := by omega
      have hn60 : n ≤ 60 := by omega
      clear hp hR h2 hl h1 hm
      go_enter Try.func103, Try.ntmps103
      go_wp2_with (first
        | (go_at_call 96; ((with_reducible refine CN.out.mono ?_); rintro e w1 ⟨rfl, rfl⟩))
        | (go_at_call 111; ((with_reducible refine CW.out.mono ?_); rintro e w1 ⟨rfl, rfl⟩)))
      clear CN CW
      go_loopw [5] (fun i wr => ∃ k : Nat, k ≤ n ∧ i = .int .i64 k ∧ stepsTo g pp k ∧ Below w.heap.size w wr) (fun i _ => n - (intOf i).toNat)
      case atStart => exact ⟨0, Nat.zero_le _, rfl, stepsTo_zero _ _, Below.refl _ _⟩
      case round =>
        obtain ⟨k, hk, rfl, hok, hB⟩ := hrel
        have HB := Lib.hid hB
        by_cases hlt : k < n
        · obtain ⟨b, off, x, y, z, rfl, hb, q1, q2, q3, q4⟩ := HP.out.cellAt hlt
          have r1 := (hB.cell (p := ⟨b, off + k * 3, none⟩) hb).trans q1
          have r2 := (hB.cell (p := ⟨b, off + k * 3 + 1, none⟩) hb).trans q2
          have r3 := (hB.cell (p := ⟨b, off + k * 3 + 2, none⟩) hb).trans q3
          have hk0 : (0 : Int) ≤ (k : Int) := by omega
          have hk1 : (k : Int) < (n : Int) := by omega
          have C := Lib.hid (CS.out k hlt x y z wr)
          cases hso : stepOk g k (x, y, z)
          · have H := Lib.hid (HBAD.out k _ q4 hso)
            rw [hso] at C
            clear q1 q2 q3 q4 hso hok hB
            go_wp2_with (go_at_call 149; refine C.out.mono ?_; rintro e w3 ⟨rfl, hB3⟩; have HB3 := Lib.hid (below_then HB.out hB3); clear hB3)
            go_ret
            exact ⟨ret_b H.out.symm, HB3.out⟩
          · have H := Lib.hid (stepsTo_succ hok q4 hso)
            rw [hso] at C
            clear q1 q2 q3 q4 hso hok hB
            go_wp2_with (go_at_call 149; refine C.out.mono ?_; rintro e w3 ⟨rfl, hB3⟩; have HB3 := Lib.hid (below_then HB.out hB3); clear hB3)
            go_roundw
            case rel => exact ⟨k + 1, by omega, by go_num, H.out, HB3.out⟩
            case measure => simp [intOf]; omega
        · obtain rfl : k = n := by omega
          have H := Lib.hid (HALL.out hok)
          clear hok hB
          go_wp2
          go_ret
          exact ⟨ret_b H.out.symm, HB.out⟩
  · rw [decide_eq_false h1] at CN
    rw [proofOk_num h1]
    clear hp hl CW
    go_enter Try.func103, Try.ntmps103
    go_wp2_with (go_at_call 96; ((with_reducible refine CN.out.mono ?_); rintro e w1 ⟨rfl, rfl⟩))
    go_ret
    exact ⟨rfl, Below.refl _ _⟩

end Go.Proofs.Ytippmpcaongolaa

/- Arguments opened: proofs; a proof with a list of numbers and a number. -/
namespace Go.Proofs.Ytippmpcaongolaa
open Go.ChangeShapes Go.WideShapes Go.ChangeAt Go.RowKit Go.Deep

theorem cells_step : Try.prog.cellsOf 123 = 3 := by kernel_rfl
section
variable {H : Type} {enc : TypeId × Value → H} {w : World} {base : Nat} {spare : Nat → Bool} {held : Bool}

set_option maxRecDepth 100000 in
theorem read_step {fuel : Nat} {cs : List Value} {x : DataW H × List MemPlace} (h : DataW.trod enc Try.prog w base spare held fuel 123 cs = some x) : ∃ a b c : Int, cs = [.int .i64 a, .int .i64 b, .int .i64 c] := by
  obtain ⟨ys, n, _, _, hl, hyl, hf⟩ := DataW.trod_struct Try.underlying123 h
  rw [cells_step] at hl
  match cs, hl, ys, hyl with
  | [c0, c1, c2], _, [y0, y1, y2], _ =>
    have f0 : DataW.trod enc Try.prog w base spare held n 3 (([c0, c1, c2].drop 0).take (Try.prog.cellsOf 3)) = some y0 := hf 0 _ rfl
    have f1 : DataW.trod enc Try.prog w base spare held n 3 (([c0, c1, c2].drop 1).take (Try.prog.cellsOf 3)) = some y1 := hf 1 _ rfl
    have f2 : DataW.trod enc Try.prog w base spare held n 3 (([c0, c1, c2].drop 2).take (Try.prog.cellsOf 3)) = some y2 := hf 2 _ rfl
    rw [cells_int] at f0 f1 f2
    obtain ⟨a, h0, _, _⟩ := DataW.trod_int Try.underlying3 f0
    obtain ⟨b, h1, _, _⟩ := DataW.trod_int Try.underlying3 f1
    obtain ⟨c, h2, _, _⟩ := DataW.trod_int Try.underlying3 f2
    have h0' : [c0] = [Value.int .i64 a] := h0
    have h1' : [c1] = [Value.int .i64 b] := h1
    have h2' : [c2] = [Value.int .i64 c] := h2
    simp only [List.cons.injEq, and_true] at h0' h1' h2'
    exact ⟨a, b, c, by rw [h0', h1', h2']⟩

/-- What is read as a slice of steps is one. -/
theorem read_steps {fuel : Nat} {v : Value} {x : DataW H × List MemPlace} (h : DataW.trod enc Try.prog w base spare held fuel 50 [v] = some x) :
    ∃ A n c pp, v = .slice A n c ∧ StepsAt w w.heap.size A n pp := by
  rcases open_slice Try.underlying50 h with ⟨hcs, _⟩ | ⟨a, len, cap, m, n, D, Pl, hcs, _, hl, hm, hmm, _, hi⟩
  · simp only [List.cons.injEq, and_true] at hcs
    exact ⟨none, 0, 0, [], hcs, StepsAt.nil _ _ _⟩
  · simp only [List.cons.injEq, and_true] at hcs
    unfold maxLen at hm
    have hlm : len ≤ m := by rw [hmm]; split <;> omega
    by_cases h0 : len = 0
    · subst h0
      exact ⟨some a, 0, cap, [], hcs, StepsAt.nil _ _ _⟩
    · have each : ∀ i, i < len → ∃ p : Stp, w.cell? ((a.add (i * 3)).add 0) = some (.int .i64 p.1) ∧ w.cell? ((a.add (i * 3)).add 1) = some (.int .i64 p.2.1) ∧ w.cell? ((a.add (i * 3)).add 2) = some (.int .i64 p.2.2) := by
        intro i hil
        obtain ⟨cs', hc, ht⟩ := hi i (by omega)
        rw [cells_step] at hc
        obtain ⟨_, hcl, hat⟩ := World.cells?_some hc
        obtain ⟨x, y, z, rfl⟩ := read_step ht
        exact ⟨(x, y, z), hat 0 (by omega), hat 1 (by omega), hat 2 (by omega)⟩
      obtain ⟨b, off, spot⟩ := a
      obtain ⟨p0, q0, _⟩ := each 0 (by omega)
      have hspot : spot = none := by simpa [Addr.add] using World.cell?_spot q0
      subst hspot
      have hblt : b < w.heap.size := by
        have := World.block_lt_of_cell? w _ q0
        simpa [Addr.add] using this
      obtain ⟨l, hll, hlp⟩ := list_of _ len each
      refine ⟨some ⟨b, off, none⟩, len, cap, l, hcs, ⟨hll.symm, by omega, fun _ => ⟨b, off, rfl, hblt, fun j hj => ?_⟩⟩⟩
      obtain ⟨x0, x1, x2⟩ := hlp j hj
      rw [addadd] at x0 x1 x2
      rw [Nat.add_zero] at x0
      exact ⟨x0, x1, x2⟩

end

end Go.Proofs.Ytippmpcaongolaa

/- Moved: what it hands back; slices.Clone at []api.Step. -/
namespace Go.Proofs.Ytippmpcaongolaa
open Go.RowKit

end Go.Proofs.Ytippmpcaongolaa

/- Contract: kernel.Moved at any arguments. -/
namespace Go.Proofs.Ytippmpcaongolaa
open Go.RowKit

end Go.Proofs.Ytippmpcaongolaa

/- Contracts: the reference's Moved; SameSteps at one list. -/
namespace Go.Proofs.Ytippmpcaongolaa
open Go.RowKit

theorem neq_step (W : World) (x y z : Int) : (binOp .neq 123 (.agg #[.int .i64 x, .int .i64 y, .int .i64 z]) (.agg #[.int .i64 x, .int .i64 y, .int .i64 z])).run Try.prog W = .ok (.bool false) W := by
  rw [run_neq_struct]
  go_simp

set_option maxRecDepth 100000 in
set_option maxHeartbeats 1000000 in
theorem sameSteps_self (A A2 : Option Addr) (n c n2 c2 : Nat) (pp : List Stp) (w : World) (B : Nat) (hx : StepsAt w B A n pp) (hy : StepsAt w B A2 n2 pp) :
    Calls Try.prog 58 #[.slice A n c, .slice A2 n2 c2] w fun e w' => e = .returned (.bool true) ∧ ∃ k, w' = w.drewN k := by
  have hlx := hx.len
  have hly := hy.len
  have hmx := hx.max
  obtain rfl : n = n2 := by omega
  have HX := Lib.hid hx
  have HY := Lib.hid hy
  have NS := Lib.hid neq_step
  clear hx hy hlx hly
  go_enter Try.func58, Try.ntmps58
  go_wp2
  go_loopw [5] (fun i wr => ∃ k : Nat, k ≤ n ∧ i = .int .i64 k ∧ ∃ m, wr = w.drewN m) (fun i _ => n - (intOf i).toNat)
  case atStart => exact ⟨0, Nat.zero_le _, rfl, 0, rfl⟩
  case round =>
    obtain ⟨k, hk, rfl, m, rfl⟩ := hrel
    by_cases hlt : k < n
    · obtain ⟨b, off, x, y, z, rfl, hb, q1, q2, q3, q4⟩ := HX.out.cellAt hlt
      obtain ⟨b2, off2, x2, y2, z2, rfl, hb2, p1, p2, p3, p4⟩ := HY.out.cellAt hlt
      rw [q4] at p4
      cases p4
      have hk0 : (0 : Int) ≤ (k : Int) := by omega
      have hk1 : (k : Int) < (n : Int) := by omega
      have ne : ∀ W : World, (binOp .neq 123 (.agg #[.int .i64 x, .int .i64 y, .int .i64 z]) (.agg #[.int .i64 x, .int .i64 y, .int .i64 z])).run Try.prog W = .ok (.bool false) W := fun W => NS.out W x y z
      clear q4
      go_wp2_with fail
      go_quiet (fail)
      go_wp2
      go_roundw
      case rel => exact ⟨k + 1, by omega, by go_num, _, rfl⟩
      case measure => simp [intOf]; omega
    · obtain rfl : k = n := by omega
      go_wp2
      go_ret
      exact ⟨rfl, _, rfl⟩

end Go.Proofs.Ytippmpcaongolaa

namespace Go.Proofs.Ytippmpcaongolaa
open Go.RowKit

end Go.Proofs.Ytippmpcaongolaa
