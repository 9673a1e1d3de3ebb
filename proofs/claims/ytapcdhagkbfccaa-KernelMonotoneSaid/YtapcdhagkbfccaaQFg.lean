/- Arguments opened: two lists of terms. -/
import Derived.Test.YtapcdhagkbfccaaPOg
import Derived.Test.YtapcdhagkbfccaaN24g
import Derived.Test.YtapcdhagkbfccaaL3g
import Derived.Test.YtapcdhagkbfccaaK11g
import Derived.Test.YtapcdhagkbfccaaK8g
/- With more general givens each step says something more general (pure): KernelMonotone's mathematics. -/
namespace Go.Proofs.Ytapcdhagkbfccaa
open Go.RowKit

/-- Each term of the first list has the term in its place in the second as an instance. -/
def GenTo (ss : Sg) (aa bb : List (List Int)) : Prop := aa.length = bb.length ∧ ∀ (j : Nat) (a b : List Int), aa[j]? = some a → bb[j]? = some b → insB ss a b = true
theorem GenTo.snoc {ss : Sg} {aa bb : List (List Int)} {a b : List Int} (h : GenTo ss aa bb) (hi : insB ss a b = true) : GenTo ss (aa ++ [a]) (bb ++ [b]) := by
  refine ⟨by simp [h.1], fun j x y hx hy => ?_⟩
  by_cases hj : j < aa.length
  · rw [List.getElem?_append_left hj] at hx
    rw [List.getElem?_append_left (by rw [← h.1]; exact hj)] at hy
    exact h.2 j x y hx hy
  · rw [List.getElem?_append_right (by omega)] at hx
    rw [List.getElem?_append_right (by rw [← h.1]; omega)] at hy
    have h1 := (List.getElem?_eq_some_iff.1 hx).1
    simp only [List.length_singleton] at h1
    have e1 : j - aa.length = 0 := by omega
    rw [e1] at hx
    rw [← h.1, e1] at hy
    simp only [List.getElem?_cons_zero, Option.some.injEq] at hx hy
    rw [← hx, ← hy]
    exact hi
theorem GenTo.at {ss : Sg} {aa bb : List (List Int)} (h : GenTo ss aa bb) {j : Nat} (hj : j < aa.length) : insB ss (aa.getD j []) (bb.getD j []) = true := by
  have hj2 : j < bb.length := by rw [← h.1]; exact hj
  rw [List.getD_eq_getElem?_getD, List.getD_eq_getElem?_getD, List.getElem?_eq_getElem hj, List.getElem?_eq_getElem hj2]
  exact h.2 j _ _ (List.getElem?_eq_getElem hj) (List.getElem?_eq_getElem hj2)
theorem canon_gen {ss : Sg} {a b : List Int} (h : insB ss a b = true) : insB ss (canon a) (canon b) = true := by
  obtain ⟨va, vb⟩ := ins_valid h
  have ca := valOk_canon va
  have cb := valOk_canon vb
  exact ins_trans (canon_ins ca va (canon_canon a)) (ins_trans h (canon_ins vb cb (canon_canon b).symm))
theorem det_gen {ss : Sg} {zM zN zm zn : List Int} (hm : insB ss zM zm = true) (hn : insB ss zN zn = true) (h0 : (detZ ss zm zn).2 = 0) (h4 : (detZ ss zM zN).2 ≠ 4) (h10 : (detZ ss zM zN).2 ≠ 10) : (detZ ss zM zN).2 = 0 ∧ insB ss (detZ ss zM zN).1 (detZ ss zm zn).1 = true := by
  obtain ⟨m1, m2, m3, m4⟩ := mat_sound (of_decide_eq_true hm)
  obtain ⟨n1, n2, n3, n4⟩ := mat_sound (of_decide_eq_true hn)
  exact det_inst m1 n1 m3 n3 m4.symm n4.symm h0 h4 h10
theorem say_gen {ss : Sg} {gn go tn tq : List (List Int)} {g i : Nat} {x : Stp} (hg : GenTo ss gn go) (ht : GenTo ss tn tq) (hx : stepOk g i x = true) (hgl : gn.length = g) (htl : tn.length = i) (h0 : (saysZ ss go tq x).2 = 0) (h4 : (saysZ ss gn tn x).2 ≠ 4) (h10 : (saysZ ss gn tn x).2 ≠ 10) :
    (saysZ ss gn tn x).2 = 0 ∧ insB ss (saysZ ss gn tn x).1 (saysZ ss go tq x).1 = true := by
  unfold saysZ at h0 h4 h10 ⊢
  rcases stepOk_num hx with ⟨a1, a2, a3, a4⟩ | ⟨a1, a2, a3, a4, a5⟩
  · rw [if_pos a1, if_pos a1]
    exact ⟨rfl, canon_gen (hg.at (by omega))⟩
  · have hn : x.1 ≠ 1 := by omega
    rw [if_neg hn] at h0 h4 h10 ⊢
    rw [if_neg hn]
    exact det_gen (ht.at (by omega)) (ht.at (by omega)) h0 h4 h10
theorem runF_gen {ss : Sg} {gn go : List (List Int)} {pp : List Stp} (hg : GenTo ss gn go) (hp : ∀ (j : Nat) (x : Stp), pp[j]? = some x → stepOk gn.length j x = true) :
    ∀ f k, k + f = pp.length → GenTo ss (sayL ss gn pp k) (sayL ss go pp k) → (runF ss go pp f k).2.2 = 0 → (runF ss gn pp f k).2.2 ≠ 4 → (runF ss gn pp f k).2.2 ≠ 10 →
      (runF ss gn pp f k).2.2 = 0 ∧ GenTo ss (runF ss gn pp f k).1 (runF ss go pp f k).1
  | 0, k, _, hk, _, _, _ => ⟨rfl, hk⟩
  | f + 1, k, e, hk, h0, h4, h10 => by
    have hx : pp[k]? = some pp[k] := List.getElem?_eq_getElem (by omega)
    have hd : pp.getD k (0, 0, 0) = pp[k] := by rw [List.getD_eq_getElem?_getD, hx]; rfl
    rw [runF] at h0
    by_cases ho : sayE ss go pp k = 0
    · rw [if_pos ho] at h0
      have key := fun h4' h10' => say_gen (ss := ss) hg hk (hp k _ hx) rfl (sayL_len ss gn pp k) (by unfold sayE at ho; rw [hd] at ho; exact ho) h4' h10'
      rw [runF] at h4 h10 ⊢
      by_cases hn : sayE ss gn pp k = 0
      · rw [if_pos hn] at h4 h10 ⊢
        have en : (saysZ ss gn (sayL ss gn pp k) pp[k]).2 = 0 := by unfold sayE at hn; rw [hd] at hn; exact hn
        have hk2 : GenTo ss (sayL ss gn pp (k + 1)) (sayL ss go pp (k + 1)) := by
          rw [sayL, sayL, hd]
          exact hk.snoc (key (by rw [en]; decide) (by rw [en]; decide)).2
        rw [show runF ss go pp (f + 1) k = runF ss go pp f (k + 1) from by rw [runF, if_pos ho]]
        exact runF_gen hg hp f (k + 1) (by omega) hk2 h0 h4 h10
      · rw [if_neg hn] at h4 h10
        have e4 : (saysZ ss gn (sayL ss gn pp k) pp[k]).2 ≠ 4 := by intro h; exact h4 (by show sayE ss gn pp k = 4; unfold sayE; rw [hd]; exact h)
        have e10 : (saysZ ss gn (sayL ss gn pp k) pp[k]).2 ≠ 10 := by intro h; exact h10 (by show sayE ss gn pp k = 10; unfold sayE; rw [hd]; exact h)
        have := (key e4 e10).1
        exact absurd (show sayE ss gn pp k = 0 by unfold sayE; rw [hd]; exact this) hn
    · rw [if_neg ho] at h0
      exact absurd h0 ho
theorem run_gen {ss : Sg} {gn go : List (List Int)} {pp : List Stp} (hg : GenTo ss gn go) (h0 : (runZ ss go pp).2.2 = 0) (h4 : (runZ ss gn pp).2.2 ≠ 4) (h10 : (runZ ss gn pp).2.2 ≠ 10) : (runZ ss gn pp).2.2 = 0 ∧ GenTo ss (runZ ss gn pp).1 (runZ ss go pp).1 := by
  obtain ⟨g1, p1, _⟩ := runZ_ok h0
  obtain ⟨q1, q2, q3⟩ := givOk_to g1
  obtain ⟨_, _, p2⟩ := proofOk_to p1
  have g2 : givOk ss gn = true := by
    unfold givOk
    rw [q1, decide_eq_true (by rw [hg.1]; exact q2)]
    simp only [Bool.true_and, List.all_eq_true]
    intro t ht
    obtain ⟨j, hj, rfl⟩ := List.mem_iff_getElem.1 ht
    have hj2 : j < go.length := by rw [← hg.1]; exact hj
    exact (ins_valid (hg.2 j _ _ (List.getElem?_eq_getElem hj) (List.getElem?_eq_getElem hj2))).1
  have p3 : proofOk (gn.length : Int) pp = true := by rw [hg.1]; exact p1
  unfold runZ at h0 h4 h10 ⊢
  rw [g1, p1, Bool.and_true, if_pos rfl] at h0
  rw [g2, p3, Bool.and_true, if_pos rfl] at h4 h10 ⊢
  rw [g1, p1, Bool.and_true, if_pos rfl]
  exact runF_gen hg (fun j x hx => by
    have hj := (List.getElem?_eq_some_iff.1 hx).1
    have := p2 j hj x hx
    rw [hg.1]
    exact this) pp.length 0 (by omega) ⟨rfl, fun j a b ha => by simp [sayL] at ha⟩ h0 h4 h10

end Go.Proofs.Ytapcdhagkbfccaa

namespace Go.Proofs.Ytapcdhagkbfccaa
open Go.ChangeShapes Go.WideShapes Go.ChangeAt Go.RowKit Go.Deep

theorem cells_tlist : Try.prog.cellsOf 46 = 1 := by kernel_rfl
theorem cells_more : Try.prog.cellsOf 78 = 2 := by kernel_rfl
section
variable {H : Type} {enc : TypeId × Value → H} {w : World} {base : Nat} {spare : Nat → Bool} {held : Bool} {v : Value} {d : DataW H} {p : List MemPlace}

set_option maxRecDepth 100000 in
/-- What is read as givens and more general ones is two lists of terms. -/
theorem read_more (h : DataW.Trod enc Try.prog w base spare held 78 v d p) :
    ∃ Ao no co lo go An nn cn ln gn, v = .agg #[.slice Ao no co, .slice An nn cn] ∧ TermsAt w w.heap.size Ao no lo go ∧ TermsAt w w.heap.size An nn ln gn ∧ (∀ x ∈ lo, capOk x) ∧ ∀ x ∈ ln, capOk x := by
  obtain ⟨fuel, hf⟩ := h
  obtain ⟨ys, n, _, _, hl, hyl, hi⟩ := DataW.trod_struct Try.underlying78 hf
  rw [cells_more] at hl
  obtain ⟨cs, rfl, hcs⟩ := agg_of_cells2 (v := v) (by have : v.cells.size = 2 := by simpa using hl
                                                      omega)
  rw [hcs] at hl hi
  obtain ⟨l⟩ := cs
  match l, hl, ys, hyl with
  | [c0, c1], _, [y0, y1], _ =>
    have f0 : DataW.trod enc Try.prog w base spare held n 46 (([c0, c1].drop 0).take (Try.prog.cellsOf 46)) = some y0 := hi 0 _ rfl
    have f1 : DataW.trod enc Try.prog w base spare held n 46 (([c0, c1].drop 1).take (Try.prog.cellsOf 46)) = some y1 := hi 1 _ rfl
    rw [cells_tlist] at f0 f1
    obtain ⟨Ao, no, co, lo, go, e0, h0, _, k0⟩ := read_termsk f0
    obtain ⟨An, nn, cn, ln, gn, e1, h1, _, k1⟩ := read_termsk f1
    have e0' : c0 = Value.slice Ao no co := by simpa using e0
    have e1' : c1 = Value.slice An nn cn := by simpa using e1
    exact ⟨Ao, no, co, lo, go, An, nn, cn, ln, gn, by rw [e0', e1'], h0, h1, k0, k1⟩
end

end Go.Proofs.Ytapcdhagkbfccaa
