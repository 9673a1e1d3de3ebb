/- Contract: the reference's Moved at any arguments. -/
import Derived.Test.YtapcdhagkbfccaaGreatPJg
import Derived.Test.YtapcdhagkbfccaaGreatK8g
import Derived.Test.YtapcdhagkbfccaaGreatPFg
import Derived.Laws.StructEq
/- Contracts: the reference's within, isCount, stepRight, ValidProof, SameSteps (layer 4). A proof read as an argument. -/
namespace Go.Proofs.YtapcdhagkbfccaaGreat
open Go.RowKit

def wit4 (n lo hi : Int) : Bool := decide (lo ≤ n) && decide (n ≤ hi)
set_option maxHeartbeats 400000 in
theorem within4_any (n lo hi : Int) (w : World) : Calls Tryz.prog 29 #[.int .i64 n, .int .i64 lo, .int .i64 hi] w fun e w' => e = .returned (.bool (wit4 n lo hi)) ∧ w = w' := by
  unfold wit4
  by_cases h1 : lo ≤ n <;> by_cases h2 : n ≤ hi
  all_goals
    go_enter Tryz.func29, Tryz.ntmps29
    go_wp2
    go_ret
    simp [*]
theorem isCount4_any (n : Int) (w : World) : Calls Tryz.prog 28 #[.int .i64 n] w fun e w' => e = .returned (.bool (decide (0 ≤ n ∧ n ≤ 60))) ∧ w = w' := by
  rw [show decide (0 ≤ n ∧ n ≤ 60) = (decide (0 ≤ n) && decide (n ≤ 60)) from by simp]
  go_enter Tryz.func28, Tryz.ntmps28
  go_wp2_with (go_at_call 29; ((with_reducible refine (within4_any _ _ _ _).mono ?_); rintro e w1 ⟨rfl, rfl⟩))
  go_ret
  exact ⟨rfl, rfl⟩

theorem wit_btw (y g : Int) : wit4 y 0 (g - 1) = btw g y := by
  unfold wit4 btw
  by_cases h1 : 0 ≤ y
  · by_cases h2 : y < g
    · rw [decide_eq_true h1, decide_eq_true (by omega), decide_eq_true ⟨h1, h2⟩]
      rfl
    · rw [decide_eq_true h1, decide_eq_false (by omega), decide_eq_false (by omega)]
      rfl
  · rw [decide_eq_false h1, decide_eq_false (p := 0 ≤ y ∧ y < g) (by omega), Bool.false_and]

set_option maxRecDepth 100000 in
set_option maxHeartbeats 1000000 in
theorem stepRight_any (g i x y z : Int) (w : World) (hg : 0 ≤ g) (hi : 0 ≤ i) (hg1 : g ≤ 1000000) (hi1 : i ≤ 1000000) :
    Calls Tryz.prog 30 #[.int .i64 g, .agg #[.int .i64 x, .int .i64 y, .int .i64 z], .int .i64 i] w fun e w' => e = .returned (.bool (stepOk g i (x, y, z))) ∧ Below w.heap.size w w' := by
  have CG := Lib.hid (fun (V : World) => within4_any y 0 (g - 1) V)
  have CI := Lib.hid (fun (V : World) => within4_any y 0 (i - 1) V)
  have CJ := Lib.hid (fun (V : World) => within4_any z 0 (i - 1) V)
  rw [wit_btw] at CG CI CJ
  by_cases h1 : x = 1
  · subst h1
    rw [stepOk_cite]
    obtain ⟨q, hq⟩ : ∃ q, btw g y = q := ⟨_, rfl⟩
    rw [hq] at CG ⊢
    clear hq CI CJ
    cases q with
    | false =>
      go_enter Tryz.func30, Tryz.ntmps30
      go_wp2_with (go_at_call 29; ((with_reducible refine (CG.out _).mono ?_); rintro e w1 ⟨rfl, rfl⟩))
      go_ret
      exact ⟨rfl, bel_al (Below.refl _ w) _⟩
    | true =>
      by_cases hz : z = 0
      · subst hz
        go_enter Tryz.func30, Tryz.ntmps30
        go_wp2_with (go_at_call 29; ((with_reducible refine (CG.out _).mono ?_); rintro e w1 ⟨rfl, rfl⟩))
        go_ret
        exact ⟨rfl, bel_al (Below.refl _ w) _⟩
      · have hz' : (z == 0) = false := by simpa using hz
        rw [decide_eq_false hz]
        go_enter Tryz.func30, Tryz.ntmps30
        go_wp2_with (go_at_call 29; ((with_reducible refine (CG.out _).mono ?_); rintro e w1 ⟨rfl, rfl⟩))
        go_ret
        exact ⟨rfl, bel_al (Below.refl _ w) _⟩
  · have h1' : (x == 1) = false := by simpa using h1
    by_cases h2 : x = 2
    · subst h2
      rw [stepOk_det]
      obtain ⟨q, hq⟩ : ∃ q, btw i y = q := ⟨_, rfl⟩
      rw [hq] at CI ⊢
      obtain ⟨r, hr⟩ : ∃ r, btw i z = r := ⟨_, rfl⟩
      rw [hr] at CJ ⊢
      clear hq hr CG
      cases q with
      | false =>
        clear CJ
        go_enter Tryz.func30, Tryz.ntmps30
        go_wp2_with (go_at_call 29; ((with_reducible refine (CI.out _).mono ?_); rintro e w1 ⟨rfl, rfl⟩))
        go_ret
        exact ⟨rfl, bel_al (Below.refl _ w) _⟩
      | true =>
        go_enter Tryz.func30, Tryz.ntmps30
        go_wp2_with (first
          | (go_at_call 29; ((with_reducible refine (CI.out _).mono ?_); rintro e w1 ⟨rfl, rfl⟩))
          | (go_at_call 29; ((with_reducible refine (CJ.out _).mono ?_); rintro e w2 ⟨rfl, rfl⟩)))
        go_ret
        exact ⟨rfl, bel_al (Below.refl _ w) _⟩
    · have h2' : (x == 2) = false := by simpa using h2
      rw [stepOk_odd h1 h2]
      clear CG CI CJ
      go_enter Tryz.func30, Tryz.ntmps30
      go_wp2
      go_ret
      exact ⟨rfl, bel_al (Below.refl _ w) _⟩

set_option maxRecDepth 100000 in
set_option maxHeartbeats 1000000 in
theorem refValidProof_any (g : Int) (A : Option Addr) (n c : Nat) (pp : List Stp) (w : World) (hp : StepsAt w w.heap.size A n pp) :
    Calls Tryz.prog 8 #[.int .i64 g, .slice A n c] w fun e w' => e = .returned (.bool (proofOk g pp)) ∧ Below w.heap.size w w' := by
  have hl := hp.len
  have hm := hp.max
  have CN := Lib.hid (isCount4_any g w)
  have CW := Lib.hid (within4_any (n : Int) 1 60 w)
  by_cases h1 : 0 ≤ g ∧ g ≤ 60
  · rw [decide_eq_true h1] at CN
    by_cases h2 : n < 1 ∨ 60 < n
    · rw [proofOk_len (by omega)]
      rw [show wit4 (n : Int) 1 60 = false from by unfold wit4; rcases h2 with h2 | h2 <;> simp <;> omega] at CW
      clear hp hl h2
      go_enter Tryz.func8, Tryz.ntmps8
      go_wp2_with (first
        | (go_at_call 28; ((with_reducible refine CN.out.mono ?_); rintro e w1 ⟨rfl, rfl⟩))
        | (go_at_call 29; ((with_reducible refine CW.out.mono ?_); rintro e w1 ⟨rfl, rfl⟩)))
      go_ret
      exact ⟨rfl, Below.refl _ _⟩
    · rw [show wit4 (n : Int) 1 60 = true from by unfold wit4; simp; omega] at CW
      obtain ⟨R, hR⟩ : ∃ R, proofOk g pp = R := ⟨_, rfl⟩
      have HALL := Lib.hid (fun (h : stepsTo g pp n) => show proofOk g pp = true from proofOk_all h1 (by omega) (by rw [← hl]; exact h))
      have HBAD := Lib.hid (fun (k : Nat) (x : Stp) (hx : pp[k]? = some x) (e : stepOk g k x = false) => show proofOk g pp = false from proofOk_bad hx e)
      rw [hR] at HALL HBAD ⊢
      have CS := Lib.hid (fun (k : Nat) (hk : k < n) (x y z : Int) (V : World) => stepRight_any g (k : Int) x y z V h1.1 (by omega) (by omega) (by omega))
      have HP := Lib.hid hp
      have hn1 : 1 ≤ n := by omega
      have hn60 : n ≤ 60 := by omega
      clear hp hR h2 hl h1 hm
      go_enter Tryz.func8, Tryz.ntmps8
      go_wp2_with (first
        | (go_at_call 28; ((with_reducible refine CN.out.mono ?_); rintro e w1 ⟨rfl, rfl⟩))
        | (go_at_call 29; ((with_reducible refine CW.out.mono ?_); rintro e w1 ⟨rfl, rfl⟩)))
      clear CN CW
      go_loopw [5] (fun i wr => ∃ k : Nat, k ≤ n ∧ i = .int .i64 k ∧ stepsTo g pp k ∧ Below w.heap.size w wr) (fun i _ => n - (intOf i).toNat)
      case atStart => exact ⟨0, Nat.zero_le _, rfl, stepsTo_zero _ _, Below.refl _ _⟩
      case round =>
        obtain ⟨k, hk, rfl, hok, hB⟩ := hrel
        have HB := Lib.hid hB
        by_cases hlt : k < n
        · obtain ⟨b, off, x, y, z, rfl, hb, q1, q2, q3, q4⟩ := HP.out.cellAt hlt
          have r1 := (hB.cell (p := ⟨b, off + k * 3, none⟩) hb).trans q1
          have r2 := (hB.cell (p := ⟨b, off + k * 3 + 1, none⟩) hb).trans q2
          have r3 := (hB.cell (p := ⟨b, off + k * 3 + 2, none⟩) hb).trans q3
          have hk0 : (0 : Int) ≤ (k : Int) := by omega
          have hk1 : (k : Int) < (n : Int) := by omega
          have C := Lib.hid (CS.out k hlt x y z wr)
          cases hso : stepOk g k (x, y, z)
          · have H := Lib.hid (HBAD.out k _ q4 hso)
            rw [hso] at C
            clear q1 q2 q3 q4 hso hok hB
            go_wp2_with (go_at_call 30; refine C.out.mono ?_; rintro e w3 ⟨rfl, hB3⟩; have HB3 := Lib.hid (below_then HB.out hB3); clear hB3)
            go_ret
            exact ⟨ret_b H.out.symm, HB3.out⟩
          · have H := Lib.hid (stepsTo_succ hok q4 hso)
            rw [hso] at C
            clear q1 q2 q3 q4 hso hok hB
            go_wp2_with (go_at_call 30; refine C.out.mono ?_; rintro e w3 ⟨rfl, hB3⟩; have HB3 := Lib.hid (below_then HB.out hB3); clear hB3)
            go_roundw
            case rel => exact ⟨k + 1, by omega, by go_num, H.out, HB3.out⟩
            case measure => simp [intOf]; omega
        · obtain rfl : k = n := by omega
          have H := Lib.hid (HALL.out hok)
          clear hok hB
          go_wp2
          go_ret
          exact ⟨ret_b H.out.symm, HB.out⟩
  · rw [decide_eq_false h1] at CN
    rw [proofOk_num h1]
    clear hp hl CW
    go_enter Tryz.func8, Tryz.ntmps8
    go_wp2_with (go_at_call 28; ((with_reducible refine CN.out.mono ?_); rintro e w1 ⟨rfl, rfl⟩))
    go_ret
    exact ⟨rfl, Below.refl _ _⟩

end Go.Proofs.YtapcdhagkbfccaaGreat

/- Arguments opened: proofs; a proof with a list of numbers and a number. -/
namespace Go.Proofs.YtapcdhagkbfccaaGreat
open Go.ChangeShapes Go.WideShapes Go.ChangeAt Go.RowKit Go.Deep

theorem cells_step : Tryz.prog.cellsOf 53 = 3 := by kernel_rfl
section
variable {H : Type} {enc : TypeId × Value → H} {w : World} {base : Nat} {spare : Nat → Bool} {held : Bool}

set_option maxRecDepth 100000 in
theorem read_step {fuel : Nat} {cs : List Value} {x : DataW H × List MemPlace} (h : DataW.trod enc Tryz.prog w base spare held fuel 53 cs = some x) : ∃ a b c : Int, cs = [.int .i64 a, .int .i64 b, .int .i64 c] := by
  obtain ⟨ys, n, _, _, hl, hyl, hf⟩ := DataW.trod_struct Tryz.underlying53 h
  rw [cells_step] at hl
  match cs, hl, ys, hyl with
  | [c0, c1, c2], _, [y0, y1, y2], _ =>
    have f0 : DataW.trod enc Tryz.prog w base spare held n 3 (([c0, c1, c2].drop 0).take (Tryz.prog.cellsOf 3)) = some y0 := hf 0 _ rfl
    have f1 : DataW.trod enc Tryz.prog w base spare held n 3 (([c0, c1, c2].drop 1).take (Tryz.prog.cellsOf 3)) = some y1 := hf 1 _ rfl
    have f2 : DataW.trod enc Tryz.prog w base spare held n 3 (([c0, c1, c2].drop 2).take (Tryz.prog.cellsOf 3)) = some y2 := hf 2 _ rfl
    rw [cells_int] at f0 f1 f2
    obtain ⟨a, h0, _, _⟩ := DataW.trod_int Tryz.underlying3 f0
    obtain ⟨b, h1, _, _⟩ := DataW.trod_int Tryz.underlying3 f1
    obtain ⟨c, h2, _, _⟩ := DataW.trod_int Tryz.underlying3 f2
    have h0' : [c0] = [Value.int .i64 a] := h0
    have h1' : [c1] = [Value.int .i64 b] := h1
    have h2' : [c2] = [Value.int .i64 c] := h2
    simp only [List.cons.injEq, and_true] at h0' h1' h2'
    exact ⟨a, b, c, by rw [h0', h1', h2']⟩

/-- What is read as a slice of steps is one. -/
theorem read_steps {fuel : Nat} {v : Value} {x : DataW H × List MemPlace} (h : DataW.trod enc Tryz.prog w base spare held fuel 22 [v] = some x) :
    ∃ A n c pp, v = .slice A n c ∧ StepsAt w w.heap.size A n pp := by
  rcases open_slice Tryz.underlying22 h with ⟨hcs, _⟩ | ⟨a, len, cap, m, n, D, Pl, hcs, _, hl, hm, hmm, _, hi⟩
  · simp only [List.cons.injEq, and_true] at hcs
    exact ⟨none, 0, 0, [], hcs, StepsAt.nil _ _ _⟩
  · simp only [List.cons.injEq, and_true] at hcs
    unfold maxLen at hm
    have hlm : len ≤ m := by rw [hmm]; split <;> omega
    by_cases h0 : len = 0
    · subst h0
      exact ⟨some a, 0, cap, [], hcs, StepsAt.nil _ _ _⟩
    · have each : ∀ i, i < len → ∃ p : Stp, w.cell? ((a.add (i * 3)).add 0) = some (.int .i64 p.1) ∧ w.cell? ((a.add (i * 3)).add 1) = some (.int .i64 p.2.1) ∧ w.cell? ((a.add (i * 3)).add 2) = some (.int .i64 p.2.2) := by
        intro i hil
        obtain ⟨cs', hc, ht⟩ := hi i (by omega)
        rw [cells_step] at hc
        obtain ⟨_, hcl, hat⟩ := World.cells?_some hc
        obtain ⟨x, y, z, rfl⟩ := read_step ht
        exact ⟨(x, y, z), hat 0 (by omega), hat 1 (by omega), hat 2 (by omega)⟩
      obtain ⟨b, off, spot⟩ := a
      obtain ⟨p0, q0, _⟩ := each 0 (by omega)
      have hspot : spot = none := by simpa [Addr.add] using World.cell?_spot q0
      subst hspot
      have hblt : b < w.heap.size := by
        have := World.block_lt_of_cell? w _ q0
        simpa [Addr.add] using this
      obtain ⟨l, hll, hlp⟩ := list_of _ len each
      refine ⟨some ⟨b, off, none⟩, len, cap, l, hcs, ⟨hll.symm, by omega, fun _ => ⟨b, off, rfl, hblt, fun j hj => ?_⟩⟩⟩
      obtain ⟨x0, x1, x2⟩ := hlp j hj
      rw [addadd] at x0 x1 x2
      rw [Nat.add_zero] at x0
      exact ⟨x0, x1, x2⟩

end

end Go.Proofs.YtapcdhagkbfccaaGreat

/- Moved: what it hands back; slices.Clone at []api.Step. -/
namespace Go.Proofs.YtapcdhagkbfccaaGreat
open Go.RowKit

end Go.Proofs.YtapcdhagkbfccaaGreat

/- Contract: kernel.Moved at any arguments. -/
namespace Go.Proofs.YtapcdhagkbfccaaGreat
open Go.RowKit

end Go.Proofs.YtapcdhagkbfccaaGreat

/- Contracts: the reference's Moved; SameSteps at one list. -/
namespace Go.Proofs.YtapcdhagkbfccaaGreat
open Go.RowKit

end Go.Proofs.YtapcdhagkbfccaaGreat

namespace Go.Proofs.YtapcdhagkbfccaaGreat
open Go.RowKit

end Go.Proofs.YtapcdhagkbfccaaGreat
