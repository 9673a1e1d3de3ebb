/- The reference's run: what it hands back. -/
import Derived.Test.YtojofbmpknpggaaQ6g
import Derived.Test.YtojofbmpknpggaaKXg
import Derived.Test.YtojofbmpknpggaaKFg
import Derived.Test.YtojofbmpknpggaaQGg
import Derived.Test.YtojofbmpknpggaaN23g
import Derived.Test.YtojofbmpknpggaaL3g
import Derived.Test.YtojofbmpknpggaaPUg
/- Renamed again: its answer lies in new memory. -/
namespace Go.Proofs.Ytojofbmpknpggaa
open Go.RowKit

end Go.Proofs.Ytojofbmpknpggaa

/- The reference's detach again: its answer lies in new memory. -/
namespace Go.Proofs.Ytojofbmpknpggaa
open Go.RowKit

end Go.Proofs.Ytojofbmpknpggaa

/- With more general givens each step says something more general (pure): KernelMonotone's mathematics. -/
namespace Go.Proofs.Ytojofbmpknpggaa
open Go.RowKit

/-- Each term of the first list has the term in its place in the second as an instance. -/
def GenTo (ss : Sg) (aa bb : List (List Int)) : Prop := aa.length = bb.length ∧ ∀ (j : Nat) (a b : List Int), aa[j]? = some a → bb[j]? = some b → insB ss a b = true
theorem GenTo.at {ss : Sg} {aa bb : List (List Int)} (h : GenTo ss aa bb) {j : Nat} (hj : j < aa.length) : insB ss (aa.getD j []) (bb.getD j []) = true := by
  have hj2 : j < bb.length := by rw [← h.1]; exact hj
  rw [List.getD_eq_getElem?_getD, List.getD_eq_getElem?_getD, List.getElem?_eq_getElem hj, List.getElem?_eq_getElem hj2]
  exact h.2 j _ _ (List.getElem?_eq_getElem hj) (List.getElem?_eq_getElem hj2)
theorem det_gen {ss : Sg} {zM zN zm zn : List Int} (hm : insB ss zM zm = true) (hn : insB ss zN zn = true) (h0 : (detZ ss zm zn).2 = 0) (h4 : (detZ ss zM zN).2 ≠ 4) (h10 : (detZ ss zM zN).2 ≠ 10) : (detZ ss zM zN).2 = 0 ∧ insB ss (detZ ss zM zN).1 (detZ ss zm zn).1 = true := by
  obtain ⟨m1, m2, m3, m4⟩ := mat_sound (of_decide_eq_true hm)
  obtain ⟨n1, n2, n3, n4⟩ := mat_sound (of_decide_eq_true hn)
  exact det_inst m1 n1 m3 n3 m4.symm n4.symm h0 h4 h10
end Go.Proofs.Ytojofbmpknpggaa

namespace Go.Proofs.Ytojofbmpknpggaa
open Go.RowKit

theorem det_valid {ss : Sg} {zm zn : List Int} (vm : valOk ss zm = true) (vn : valOk ss zn = true) (h0 : (detZ ss zm zn).2 = 0) : valOk ss (detZ ss zm zn).1 = true :=
  (ins_valid (det_gen (canon_ins vm vm rfl) (canon_ins vn vn rfl) h0 (by rw [h0]; decide) (by rw [h0]; decide)).2).2
theorem giv_at {ss : Sg} {gg : List (List Int)} (h : givOk ss gg = true) {j : Nat} (hj : j < gg.length) : valOk ss (gg.getD j []) = true := by
  rw [List.getD_eq_getElem?_getD, List.getElem?_eq_getElem hj]
  exact (givOk_to h).2.2 _ (List.getElem_mem hj)
/-- What is said is valid. -/
theorem sayL_valid {ss : Sg} {gg : List (List Int)} {pp : List Stp} (hg : givOk ss gg = true) (hp : stepsTo (gg.length : Int) pp pp.length) : ∀ k, k ≤ pp.length → sayTo ss gg pp k → ∀ j, j < k → valOk ss ((sayL ss gg pp k).getD j []) = true
  | 0, _, _ => fun j hj => by omega
  | k + 1, hk, h => fun j hj => by
    have ih := sayL_valid hg hp k (by omega) (fun i hi => h i (by omega))
    have hx : pp[k]? = some pp[k] := List.getElem?_eq_getElem (by omega)
    have hd : pp.getD k (0, 0, 0) = pp[k] := by rw [List.getD_eq_getElem?_getD, hx]; rfl
    rw [sayL]
    by_cases hjk : j < k
    · rw [List.getD_eq_getElem?_getD, List.getElem?_append_left (by rw [sayL_len]; exact hjk), ← List.getD_eq_getElem?_getD]
      exact ih j hjk
    · obtain rfl : j = k := by omega
      rw [List.getD_eq_getElem?_getD, List.getElem?_append_right (by rw [sayL_len]; omega), sayL_len, Nat.sub_self]
      simp only [List.getElem?_cons_zero, Option.getD_some]
      have he := h j (by omega)
      unfold sayE at he
      rw [hd] at he ⊢
      unfold saysZ at he ⊢
      rcases stepOk_num (hp j (by omega) _ hx) with ⟨a1, a2, a3, a4⟩ | ⟨a1, a2, a3, a4, a5⟩
      · rw [if_pos a1]
        exact valOk_canon (giv_at hg (by omega))
      · rw [if_neg (by omega)] at he ⊢
        exact det_valid (ih _ (by omega)) (ih _ (by omega)) he

end Go.Proofs.Ytojofbmpknpggaa
