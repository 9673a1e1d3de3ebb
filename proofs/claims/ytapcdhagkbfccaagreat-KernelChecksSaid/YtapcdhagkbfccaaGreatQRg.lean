/- Arguments opened: a claim (givens, a proof, what it is said to say). -/
import Derived.Test.YtapcdhagkbfccaaGreatPOg
import Derived.Test.YtapcdhagkbfccaaGreatPYg
import Derived.Test.YtapcdhagkbfccaaGreatPJg
import Derived.Test.YtapcdhagkbfccaaGreatO3g
import Derived.Test.YtapcdhagkbfccaaGreatB4g
import Derived.Test.YtapcdhagkbfccaaGreatK8g
import Derived.Test.YtapcdhagkbfccaaGreatK11g
/- The walk of KernelMoves. -/
namespace Go.Proofs.YtapcdhagkbfccaaGreat
open Go.RowKit

set_option maxHeartbeats 400000 in
theorem light_any (A : Option Addr) (n c : Nat) (w : World) : Calls Tryz.prog 5 #[.slice A n c] w fun e w' => e = .returned (.bool (decide (n ≤ 100))) ∧ w = w' := by
  by_cases h : n ≤ 100
  · rw [decide_eq_true h]
    go_enter Tryz.func5, Tryz.ntmps5
    go_wp2
    go_ret
    simp; omega
  · rw [decide_eq_false h]
    go_enter Tryz.func5, Tryz.ntmps5
    go_wp2
    go_ret
    simp; omega

end Go.Proofs.YtapcdhagkbfccaaGreat

/- Contracts: lemmarylaw04's shelf; the reference's ValidGivens. -/
namespace Go.Proofs.YtapcdhagkbfccaaGreat
open Go.RowKit

set_option maxHeartbeats 400000 in
theorem shelf_any (As At : Option Addr) (ns cs n c : Nat) (ls : List Hd) (w : World) (B : Nat) (hl : HdsAt w B At n ls) :
    Calls Tryz.prog 18 #[.slice As ns cs, .slice At n c] w fun e w' => e = .returned (.bool (decide (n ≤ 80) && smallOk ns ls)) ∧ w = w' := by
  have HS := Lib.hid (small_any As At ns cs n c ls w B hl)
  by_cases h : n ≤ 80
  · rw [decide_eq_true h, Bool.true_and]
    have h' : (n : Int) ≤ 80 := by omega
    clear h hl
    go_enter Tryz.func18, Tryz.ntmps18
    go_wp2_with (go_at_call 19; ((with_reducible refine HS.out.mono ?_); rintro e w' ⟨rfl, rfl⟩))
    go_ret
    exact ⟨rfl, rfl⟩
  · rw [decide_eq_false h, Bool.false_and]
    have h' : (80 : Int) < (n : Int) := by omega
    clear h hl
    go_enter Tryz.func18, Tryz.ntmps18
    go_wp2
    go_ret
    exact ⟨rfl, rfl⟩

set_option maxRecDepth 100000 in
set_option maxHeartbeats 1000000 in
theorem refValidGivens_any (As At : Option Addr) (ns cs n c : Nat) (ss : Sg) (ls : List Hd) (tt : List (List Int)) (w : World) (hs : SigAt w w.heap.size As ns ss) (ht : TermsAt w w.heap.size At n ls tt) (hn : n ≤ 1000000) :
    Calls Tryz.prog 58 #[.slice As ns cs, .slice At n c] w fun e w' => e = .returned (.bool (givOk ss tt)) ∧ Below w.heap.size w w' := by
  have CS := Lib.hid (refSign_any As ns cs ss w _ hs)
  have hl := ht.len
  cases hsg : sigOk ss
  · rw [hsg] at CS
    rw [show givOk ss tt = false from by unfold givOk; rw [hsg]; rfl]
    clear hs ht hsg
    go_enter Tryz.func58, Tryz.ntmps58
    go_wp2_with (go_at_call 59; ((with_reducible refine CS.out.mono ?_); rintro e w1 ⟨rfl, j, hw1⟩; have HB1 := Lib.hid (show Below w.heap.size w w1 from by rw [hw1]; exact below_drewN (Below.refl _ _) j); clear hw1))
    go_ret
    exact ⟨rfl, HB1.out⟩
  · rw [hsg] at CS
    have CN := Lib.hid (isCount4_any (n : Int))
    by_cases h1 : n ≤ 60
    · rw [decide_eq_true (show 0 ≤ (n : Int) ∧ (n : Int) ≤ 60 by omega)] at CN
      have CA := Lib.hid (fun (V : World) (hB : Below w.heap.size w V) => allValid_any As At ns cs n c ss ls tt V V.heap.size (hs.up hB) (ht.up hB) hn hsg)
      obtain ⟨q, hq⟩ : ∃ q, tt.all (termOk ss) = q := ⟨_, rfl⟩
      rw [show givOk ss tt = q from by
        unfold givOk
        rw [hsg, decide_eq_true (by omega : tt.length ≤ 60), ← hq]
        simp only [Bool.true_and]
        exact List.all_congr rfl fun t => by unfold valOk; rw [hsg, Bool.true_and]]
      rw [hq] at CA
      clear hs ht hsg hq hl
      go_enter Tryz.func58, Tryz.ntmps58
      go_wp2_with (first
        | (go_at_call 59; ((with_reducible refine CS.out.mono ?_); rintro e w1 ⟨rfl, j, hw1⟩; have HB1 := Lib.hid (show Below w.heap.size w w1 from by rw [hw1]; exact below_drewN (Below.refl _ _) j); clear hw1))
        | (go_at_call 28; ((with_reducible refine (CN.out _).mono ?_); rintro e w2 ⟨rfl, rfl⟩))
        | (go_at_call 90; ((with_reducible refine (CA.out _ HB1.out).mono ?_); rintro e w3 ⟨rfl, j3, hw3⟩; have HB3 := Lib.hid (show Below w.heap.size w w3 from by rw [hw3]; exact below_drewN HB1.out j3); clear hw3)))
      go_ret
      exact ⟨rfl, HB3.out⟩
    · rw [decide_eq_false (show ¬ (0 ≤ (n : Int) ∧ (n : Int) ≤ 60) by omega)] at CN
      rw [show givOk ss tt = false from by unfold givOk; rw [decide_eq_false (by omega : ¬ tt.length ≤ 60)]; simp]
      clear hs ht hsg hl
      go_enter Tryz.func58, Tryz.ntmps58
      go_wp2_with (first
        | (go_at_call 59; ((with_reducible refine CS.out.mono ?_); rintro e w1 ⟨rfl, j, hw1⟩; have HB1 := Lib.hid (show Below w.heap.size w w1 from by rw [hw1]; exact below_drewN (Below.refl _ _) j); clear hw1))
        | (go_at_call 28; ((with_reducible refine (CN.out _).mono ?_); rintro e w2 ⟨rfl, rfl⟩)))
      go_ret
      exact ⟨rfl, HB1.out⟩

end Go.Proofs.YtapcdhagkbfccaaGreat

namespace Go.Proofs.YtapcdhagkbfccaaGreat
open Go.ChangeShapes Go.WideShapes Go.ChangeAt Go.RowKit Go.Deep

theorem cells_tlist2 : Tryz.prog.cellsOf 35 = 1 := by kernel_rfl
theorem cells_claim : Tryz.prog.cellsOf 38 = 3 := by kernel_rfl

set_option maxRecDepth 100000 in
theorem read_claim {H : Type} {enc : TypeId × Value → H} {w : World} {base : Nat} {spare : Nat → Bool} {held : Bool} {v : Value} {d : DataW H} {p : List MemPlace} (h : DataW.Trod enc Tryz.prog w base spare held 38 v d p) :
    ∃ Ag ng cg lg gg Ap np cp pp At nt ct zt, v = .agg #[.slice Ag ng cg, .slice Ap np cp, .slice At nt ct] ∧ TermsAt w w.heap.size Ag ng lg gg ∧ StepsAt w w.heap.size Ap np pp ∧ IntsAt w w.heap.size At nt zt ∧ nt ≤ ct ∧ ct ≤ 9223372036854775807 := by
  obtain ⟨fuel, hf⟩ := h
  obtain ⟨ys, n, _, _, hl, hyl, hi⟩ := DataW.trod_struct Tryz.underlying38 hf
  rw [cells_claim] at hl
  obtain ⟨cs, rfl, hcs⟩ := agg_of_cells2 (v := v) (by have : v.cells.size = 3 := by simpa using hl
                                                      omega)
  rw [hcs] at hl hi
  obtain ⟨l⟩ := cs
  match l, hl, ys, hyl with
  | [c0, c1, c2], _, [y0, y1, y2], _ =>
    have f0 : DataW.trod enc Tryz.prog w base spare held n 35 (([c0, c1, c2].drop 0).take (Tryz.prog.cellsOf 35)) = some y0 := hi 0 _ rfl
    have f1 : DataW.trod enc Tryz.prog w base spare held n 22 (([c0, c1, c2].drop 1).take (Tryz.prog.cellsOf 22)) = some y1 := hi 1 _ rfl
    have f2 : DataW.trod enc Tryz.prog w base spare held n 36 (([c0, c1, c2].drop 2).take (Tryz.prog.cellsOf 36)) = some y2 := hi 2 _ rfl
    rw [cells_tlist2] at f0
    rw [cells_steps] at f1
    rw [cells_term] at f2
    obtain ⟨Ag, ng, cg, lg, gg, e0, h0, _, _⟩ := read_termsk f0
    obtain ⟨Ap, np, cp, pp, e1, h1⟩ := read_steps f1
    obtain ⟨At, nt, ct, zt, e2, h2, k2, k3, _⟩ := read_ints Tryz.underlying36 f2
    have e0' : c0 = Value.slice Ag ng cg := by simpa using e0
    have e1' : c1 = Value.slice Ap np cp := by simpa using e1
    have e2' : [c2] = [Value.slice At nt ct] := by simpa using e2
    simp only [List.cons.injEq, and_true] at e2'
    exact ⟨Ag, ng, cg, lg, gg, Ap, np, cp, pp, At, nt, ct, zt, by rw [e0', e1', e2'], h0, h1, h2, k2, k3⟩

end Go.Proofs.YtapcdhagkbfccaaGreat
