/- Joined: what it hands back, and what joined proofs say (pure): KernelJoins's mathematics. -/
import Derived.Test.YtojofbmpknpggaaPFg
import Derived.Test.YtojofbmpknpggaaPJg
import Derived.Test.YtojofbmpknpggaaN13g
import Derived.Test.YtojofbmpknpggaaPNg
import Derived.Test.YtojofbmpknpggaaG1g
import Derived.Test.YtojofbmpknpggaaN35g
import Derived.Test.YtojofbmpknpggaaPUg
/- Contracts: planted, Untree. -/
namespace Go.Proofs.Ytojofbmpknpggaa
open Go.RowKit

end Go.Proofs.Ytojofbmpknpggaa

/- Contract: Untree. -/
namespace Go.Proofs.Ytojofbmpknpggaa
open Go.RowKit

end Go.Proofs.Ytojofbmpknpggaa

/- Contracts: Says; the statements' own 'awake' of layer 4. -/
namespace Go.Proofs.Ytojofbmpknpggaa
open Go.RowKit

theorem runF_all {ss : Sg} {gg : List (List Int)} {pp : List Stp} : ∀ f k, (runF ss gg pp f k).2.2 = 0 → (runF ss gg pp f k).1 = sayL ss gg pp (k + f) ∧ (runF ss gg pp f k).2.1 = -1
  | 0, k, _ => ⟨rfl, rfl⟩
  | f + 1, k, h => by
    rw [runF] at h ⊢
    split at h
    · rename_i h0
      rw [if_pos h0]
      have := runF_all f (k + 1) h
      rw [show k + (f + 1) = k + 1 + f by omega]
      exact this
    · rename_i h0
      exact absurd h h0
theorem runZ_ok {ss : Sg} {gg : List (List Int)} {pp : List Stp} (h : (runZ ss gg pp).2.2 = 0) : givOk ss gg = true ∧ proofOk (gg.length : Int) pp = true ∧ (runZ ss gg pp).1 = sayL ss gg pp pp.length ∧ (runZ ss gg pp).2.1 = -1 := by
  unfold runZ at h ⊢
  cases e : (givOk ss gg && proofOk (gg.length : Int) pp)
  · rw [e, if_neg (by simp)] at h
    cases h
  · rw [e, if_pos rfl] at h
    rw [if_pos rfl]
    rw [Bool.and_eq_true] at e
    have := runF_all _ _ h
    rw [Nat.zero_add] at this
    exact ⟨e.1, e.2, this⟩

/-- A detachment that can be reckoned. -/
theorem det_calc {ss : Sg} {zm zn : List Int} (vm : valOk ss zm = true) (vn : valOk ss zn = true) (hh : zm.head? = some 0) (hhas : hasZ ss 12 (prt ss zm 1) zn = true) {F : Nat} {raw : List Int} (hw : wrK ss (nmK zm zn) (kbF ss (nmK zm zn)) (kpK ss zm zn) F (bhd ss (nmK zm zn) 1) [] = some (true, raw)) : detZ ss zm zn = (canon raw, 0) := by
  obtain ⟨B, sh⟩ := shot_of vm vn hh
  obtain ⟨σ0, g0, s0⟩ := sh.meets.1 hhas
  have hF := sh.fit g0 s0
  have hl := sh.lens
  have hfin := hF.fin (bhd ss (nmK zm zn) 1) (by rw [sh.bh]; omega)
  obtain ⟨h1, _⟩ := wr_nu hF.rts hF.len _ _ _ _ _ hw hfin
  have e := h1 rfl
  rw [List.nil_append] at e
  have hok := wrK_ok _ _ _ _ hw ⟨by simp, by simp [seenA]⟩
  have e' : raw = nuK ss zm zn (bhd ss (nmK zm zn) 1) := e
  rw [e'] at hok ⊢
  unfold detZ
  rw [if_pos (by rw [vm, vn]; rfl), if_pos hh, if_pos hhas, if_pos hok]

/-- The sign, the givens and the proof of the chapter. -/
def sgC : Sg := [(⟨#[67]⟩, 2)]
def gvK : List Int := [0, -1, 0, -2, -1]
def gvS : List Int := [0, 0, -1, 0, -2, -3, 0, 0, -1, -2, 0, -1, -3]
def pfI : List Stp := [(1, 1, 0), (1, 0, 0), (2, 0, 1), (2, 2, 1)]
theorem det_SK : detZ sgC gvS gvK = ([0, 0, -1, -2, 0, -1, -1], 0) := by
  rw [det_calc (F := 40) (raw := [0, 0, -3, -2, 0, -3, -3]) (by decide +kernel) (by decide +kernel) (by decide +kernel) (by decide +kernel) (by decide +kernel)]
  exact congrArg (fun x => (x, (0 : Int))) (by decide +kernel)
theorem det_TK : detZ sgC [0, 0, -1, -2, 0, -1, -1] gvK = ([0, -1, -1], 0) := by
  rw [det_calc (F := 40) (raw := [0, -1, -1]) (by decide +kernel) (by decide +kernel) (by decide +kernel) (by decide +kernel) (by decide +kernel)]
  exact congrArg (fun x => (x, (0 : Int))) (by decide +kernel)
theorem say_0 : saysZ sgC [gvK, gvS] [] (1, 1, 0) = (gvS, 0) := by
  unfold saysZ
  rw [if_pos rfl]
  exact congrArg (fun x => (x, (0 : Int))) (by decide +kernel)
theorem sig_C {W : World} {b : Nat} (h : Blk W b 42 #[.string ⟨#[67]⟩, .int .i64 2]) : SigAt W W.heap.size (some ⟨b, 0, none⟩) 1 sgC :=
  ⟨rfl, by decide, by omega, fun _ => ⟨b, 0, rfl, h.lt, fun j hj => by
      have : j = 0 := by simp [sgC] at hj; omega
      subst this
      exact h.cell 0, fun j hj => by
      have : j = 0 := by simp [sgC] at hj; omega
      subst this
      exact h.cell 1⟩⟩
theorem givens_C {W : World} {b k s : Nat} (h : Blk W b 45 #[.slice (some ⟨k, 0, none⟩) 5 5, .slice (some ⟨s, 0, none⟩) 13 13]) (hk : Blk W k 3 (gvK.map (Value.int .i64)).toArray) (hs : Blk W s 3 (gvS.map (Value.int .i64)).toArray) : TermsAt W W.heap.size (some ⟨b, 0, none⟩) 2 [(some ⟨k, 0, none⟩, 5, 5), (some ⟨s, 0, none⟩, 13, 13)] [gvK, gvS] := by
  refine ⟨⟨rfl, by omega, fun _ => ⟨b, 0, rfl, h.lt, fun j hj => ?_⟩⟩, rfl, fun j hj hj' => ?_⟩
  · rcases j with _ | _ | j
    · exact h.cell 0
    · exact h.cell 1
    · exact absurd hj (by show ¬ j + 1 + 1 < 2; omega)
  · rcases j with _ | _ | j
    · exact IntsAt.of_blk (zs := gvK) hk rfl (by decide)
    · exact IntsAt.of_blk (zs := gvS) hs rfl (by decide)
    · exact absurd hj (by show ¬ j + 1 + 1 < 2; omega)

end Go.Proofs.Ytojofbmpknpggaa

namespace Go.Proofs.Ytojofbmpknpggaa
open Go.RowKit

theorem runF_says {ss : Sg} {gg : List (List Int)} {pp : List Stp} : ∀ f k, (runF ss gg pp f k).2.2 = 0 → ∀ j, k ≤ j → j < k + f → sayE ss gg pp j = 0
  | 0, k, _ => fun j h1 h2 => by omega
  | f + 1, k, h => fun j h1 h2 => by
    rw [runF] at h
    split at h
    · rename_i h0
      by_cases hj : j = k
      · rw [hj]; exact h0
      · exact runF_says f (k + 1) h j (by omega) (by omega)
    · rename_i h0
      exact absurd h h0
end Go.Proofs.Ytojofbmpknpggaa
