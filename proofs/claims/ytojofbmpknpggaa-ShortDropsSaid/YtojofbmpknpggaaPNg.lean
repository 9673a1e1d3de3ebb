/- Contract: Run. -/
import Derived.Test.YtojofbmpknpggaaPLg
import Derived.Test.YtojofbmpknpggaaN13g
import Derived.Test.YtojofbmpknpggaaRRg
import Derived.RangeFuncLeaves
import Derived.RangeFuncCalls
import Derived.RangeFuncBound
import Derived.Shelf.Abstract
import Derived.Shelf.RegionOpen
import Derived.OwnWalkIn
import Derived.TacticsInMore
/- Run: words for what its rounds keep. -/
namespace Go.Proofs.Ytojofbmpknpggaa
open Go.RowKit

/-- What Run hands back: what is said, the index, the error. -/
noncomputable def runF (ss : Sg) (gg : List (List Int)) (pp : List Stp) : Nat → Nat → List (List Int) × Int × Int
  | 0, k => (sayL ss gg pp k, -1, 0)
  | f + 1, k => if sayE ss gg pp k = 0 then runF ss gg pp f (k + 1) else (sayL ss gg pp k, (k : Int), sayE ss gg pp k)
noncomputable def runZ (ss : Sg) (gg : List (List Int)) (pp : List Stp) : List (List Int) × Int × Int :=
  if (givOk ss gg && proofOk (gg.length : Int) pp) = true then runF ss gg pp pp.length 0 else ([], 0, 1)
theorem runF_to {ss : Sg} {gg : List (List Int)} {pp : List Stp} (n : Nat) : ∀ k, k ≤ n → sayTo ss gg pp k → runF ss gg pp n 0 = runF ss gg pp (n - k) k
  | 0, _, _ => rfl
  | k + 1, hk, h => by
    rw [runF_to n k (by omega) (fun j hj => h j (by omega)), show n - k = (n - (k + 1)) + 1 by omega, runF, if_pos (h k (by omega))]

theorem runF_len (ss : Sg) (gg : List (List Int)) (pp : List Stp) : ∀ f k, (runF ss gg pp f k).1.length ≤ k + f
  | 0, k => by rw [runF, sayL_len]; omega
  | f + 1, k => by
    rw [runF]
    split
    · have := runF_len ss gg pp f (k + 1); omega
    · rw [sayL_len]; omega
/-- The row of what is said so far, in Run. -/
structure RunRow (W : World) (d : Nat) (v : Value) (k : Nat) (ls : List Hd) (T : List (List Int)) : Prop where
  row : W.ownsRow d 45 1 v k (ls.map Hd.val)
  ll : ls.length = k
  tl : T.length = k
  cap : ∀ x ∈ ls, capOk x
  each : ∀ j (h : j < ls.length) (h' : j < T.length), ElAt W (d + 5) v.ownBlock none ls[j] T[j]
  own : ∀ g, v.ownBlock = some g → g = d ∨ d + 5 ≤ g
section
variable {W W' : World} {d k : Nat} {v v' : Value} {ls : List Hd} {T : List (List Int)}
theorem RunRow.terms (h : RunRow W d v k ls T) (hk : k ≤ 1000000) : ∃ A c, v = .slice A k c ∧ TermsAt W W.heap.size A k ls T :=
  RowsAt.terms (T := 45) (base := d) ⟨h.row, h.tl.symm, fun j a b => (h.each j a b).but⟩ hk
theorem RunRow.move (h : RunRow W d v k ls T) (hs : W.heap.size ≤ W'.heap.size) (hr : ∀ g, v.ownBlock = some g → W'.heap[g]? = W.heap[g]?)
    (he : ∀ x ∈ ls, 0 < x.2.1 → ∀ b off, x.1 = some ⟨b, off, none⟩ → d + 5 ≤ b → b < W.heap.size → (∃ cs t f, W.heap[b]? = some (.cells cs t f)) → some b ≠ v.ownBlock → W'.heap[b]? = W.heap[b]?) : RunRow W' d v k ls T :=
  ⟨ownsRow_movedK h.row hr, h.ll, h.tl, h.cap, fun j a b => by
    have hE := h.each j a b
    refine ⟨hE.len, hE.max, fun hn => ?_⟩
    obtain ⟨b', off, e, q1, q2, q3, q4, q5⟩ := hE.mem hn
    have hc := cells_of_cell (q5 0 (by have := hE.len; omega))
    exact ⟨b', off, e, q1, Nat.lt_of_lt_of_le q2 hs, q3, q4, fun i hi => (World.cell?_of_block (he _ (List.getElem_mem a) hn b' off e q1 q2 hc q3)).trans (q5 i hi)⟩, h.own⟩
theorem RunRow.below (h : RunRow W d v k ls T) (hb : Below W.heap.size W W') : RunRow W' d v k ls T :=
  h.move hb.size (fun g e => hb.block g (h.row.lt g e).2) (fun _ _ _ b _ _ _ hl _ _ => hb.block b hl)
theorem RunRow.grown (h : RunRow W d v k ls T) {row : Option Nat} (hg : W.grownBy W' row) (hr : ∀ r, row = some r → ∃ o : Obj, W.heap[r]? = some o ∧ o.isCells = false) : RunRow W' d v k ls T := by
  have hne : ∀ b, (∃ cs t f, W.heap[b]? = some (.cells cs t f)) → some b ≠ row := fun b ⟨cs, t, f, hc⟩ e => by
    obtain ⟨o, ho, hoc⟩ := hr b e.symm
    rw [hc] at ho
    cases ho
    cases hoc
  refine h.move hg.size (fun g e => ?_) (fun _ _ _ b _ _ _ hl hc _ => hg.block b hl (hne b hc))
  obtain ⟨cs', hc⟩ := row_cells2 h.row e
  exact hg.block g (h.row.lt g e).2 (hne g ⟨_, _, _, hc⟩)
theorem RunRow.set (h : RunRow W d v k ls T) {b i : Nat} (hb : b ≠ d ∧ b < d + 5) (u : Value) : RunRow (W.setCell ⟨b, i, none⟩ u) d v k ls T :=
  h.move (by simp) (fun g e => heap_setCell_other W ⟨b, i, none⟩ g u (show g ≠ b by have := h.own g e; omega)) (fun _ _ _ g _ _ hl _ _ _ => heap_setCell_other W ⟨b, i, none⟩ g u (show g ≠ b by omega))
theorem RunRow.push {W1 : World} (h : RunRow W1 d v k ls T) {x : Hd} {t : List Int} (hx : ElAt W1 (d + 5) v.ownBlock none x t) (hc : capOk x) (hd : d + 5 ≤ W1.heap.size) (hrow : W'.ownsRow d 45 1 v' (k + 1) (ls.map Hd.val ++ [x.val])) (hg : W1.grownBy W' v.ownBlock) (hv : v'.ownBlock = v.ownBlock ∨ v'.ownBlock = some W1.heap.size) :
    RunRow W' d v' (k + 1) (ls ++ [x]) (T ++ [t]) := by
  have hll := h.ll
  have htl := h.tl
  have hmv : ∀ {y : Hd} {z : List Int}, ElAt W1 (d + 5) v.ownBlock none y z → ElAt W' (d + 5) v'.ownBlock none y z := fun hE =>
    hE.move hg.size (fun b _ hl h1 _ off _ => World.cell?_of_block (hg.block b hl h1)) (fun b hl h1 e => by
      rcases hv with h2 | h2
      · exact h1 (by rw [e, h2])
      · rw [h2] at e
        have := Option.some.inj e
        omega) (fun _ _ h => h)
  refine ⟨by rw [List.map_append, List.map_singleton]; exact hrow, by simp [hll], by simp [htl], fun y hy => ?_, fun j a b => ?_, fun g e => ?_⟩
  · rcases List.mem_append.1 hy with hy | hy
    · exact h.cap y hy
    · rw [List.mem_singleton.1 hy]; exact hc
  · by_cases hj : j < k
    · rw [List.getElem_append_left (by omega), List.getElem_append_left (by omega)]
      exact hmv (h.each j (by omega) (by omega))
    · have : j = k := by simp at a; omega
      subst this
      rw [List.getElem_append_right (by omega), List.getElem_append_right (by omega)]
      simp only [hll, htl, Nat.sub_self, List.getElem_cons_zero]
      exact hmv hx
  · rcases hv with h2 | h2
    · exact h.own g (by rw [← h2]; exact e)
    · rw [h2] at e
      cases e
      right; omega
end
/-- What the rounds of Run keep. -/
def IRun (w : World) (d : Nat) (As Ag Ap : Option Addr) (ns cs ng cg np cp : Nat) (ss : Sg) (gg : List (List Int)) (pp : List Stp) (pre : List (Hd × Int)) (W : World) : Prop :=
  ∃ Av cv, Blk W (d + 1) 46 #[.slice Av pre.length cv] ∧ RunRow W d (.slice Av pre.length cv) pre.length (pre.map Prod.fst) (sayL ss gg pp pre.length) ∧ sayTo ss gg pp pre.length ∧
    (Blk W w.heap.size 46 #[.slice none 0 0] ∧ Blk W (w.heap.size + 1) 3 #[.int .i64 0] ∧ Blk W (w.heap.size + 1 + 1) 25 #[.int .i64 0] ∧ Blk W (d + 2) 44 #[.slice As ns cs] ∧ Blk W (d + 3) 46 #[.slice Ag ng cg] ∧ Blk W (d + 4) 22 #[.slice Ap np cp]) ∧ Below w.heap.size w W
/-- What lies behind a round that leaves. -/
def XRun (w : World) (d : Nat) (Z : List (List Int) × Int × Int) (W : World) : Prop :=
  ∃ Av n cv ls, Blk W w.heap.size 46 #[.slice Av n cv] ∧ RunRow W d (.slice Av n cv) n ls Z.1 ∧ Blk W (w.heap.size + 1) 3 #[.int .i64 Z.2.1] ∧ Blk W (w.heap.size + 1 + 1) 25 #[.int .i64 Z.2.2] ∧ Below w.heap.size w W
section
variable {w : World} {d ns cs ng cg np cp : Nat} {As Ag Ap : Option Addr} {ss : Sg} {gg : List (List Int)} {pp : List Stp}
theorem IRun.own {B : Nat} (hB : w.heap.size ≤ B) : OwnFrom B (IRun w d As Ag Ap ns cs ng cg np cp ss gg pp) := by
  rintro pre W W' row ⟨Av, cv, h1, h2, h3, ⟨h4, h5, h6, h7, h8, h9⟩, h10⟩ hg hr
  have hr' := fun r e => (hr r e).2
  have k {b : Nat} {T : TypeId} {c : Array Value} (h : Blk W b T c) : Blk W' b T c := (grownBy_keeps_cells hg hr' h rfl).trans h
  exact ⟨Av, cv, k h1, h2.grown hg hr', h3, ⟨k h4, k h5, k h6, k h7, k h8, k h9⟩, below_grown h10 hg hr hB⟩
theorem XRun.own {B : Nat} {Z : List (List Int) × Int × Int} (hB : w.heap.size ≤ B) : OwnFrom B (fun (_ : Unit) W => XRun w d Z W) := by
  rintro _ W W' row ⟨Av, n, cv, ls, h1, h2, h3, h4, h5⟩ hg hr
  have hr' := fun r e => (hr r e).2
  have k {b : Nat} {T : TypeId} {c : Array Value} (h : Blk W b T c) : Blk W' b T c := (grownBy_keeps_cells hg hr' h rfl).trans h
  exact ⟨Av, n, cv, ls, k h1, h2.grown hg hr', k h3, k h4, below_grown h5 hg hr hB⟩
theorem IRun.soft (hd : w.heap.size + 3 ≤ d) {pre : List (Hd × Int)} {A B : World} (h : IRun w d As Ag Ap ns cs ng cg np cp ss gg pp pre A) (hs : SfS (d + 1) (d + 5) pre A B) : IRun w d As Ag Ap ns cs ng cg np cp ss gg pp pre B := by
  obtain ⟨Av, cv, h1, h2, h3, ⟨h4, h5, h6, h7, h8, h9⟩, h10⟩ := h
  have hl : ∀ b, b < d + 5 → b < A.heap.size → B.heap[b]? = A.heap[b]? := fun b hb hA => by
    rcases hs.same b hA with h | ⟨h, _⟩
    · exact h
    · omega
  have hro : rowOf A (d + 1) = (Value.slice Av pre.length cv).ownBlock := rowOf_box (h1.cell 0)
  have k {b : Nat} {T : TypeId} {c : Array Value} (h : Blk A b T c) (hb : b < d + 5) : Blk B b T c := (hl b hb h.lt).trans h
  refine ⟨Av, cv, k h1 (by omega), h2.move hs.size (fun g e => ?_) (fun x hx hn b off e hb1 hb2 _ _ => ?_), h3, ⟨k h4 (by omega), k h5 (by omega), k h6 (by omega), k h7 (by omega), k h8 (by omega), k h9 (by omega)⟩, ⟨hs.os.trans h10.os, hs.tape.trans h10.tape, hs.output.trans h10.output, Nat.le_trans h10.size hs.size, fun b hb => ?_⟩⟩
  · rcases hs.same g (h2.row.lt g e).2 with h | ⟨_, h, _⟩
    · exact h
    · rw [hro] at h
      exact absurd e h
  · rcases hs.same b hb2 with h | ⟨_, _, _, h⟩
    · exact h
    · obtain ⟨y, hy, rfl⟩ := List.mem_map.1 hx
      exact absurd rfl (h y hy hn b off e)
  · exact (hl b (by omega) (Nat.lt_of_lt_of_le hb h10.size)).trans (h10.block b hb)
end
theorem results_cells3 {fn : Func} {p q r : Tmp} {ty tz tu : TypeId} (h : fn.results = #[.cell p ty, .cell q tz, .cell r tu]) (tmps : Array Value) (P : Program) (w : World) :
    (results fn tmps).run P w = ((asAddr (tmps.getD p undef)).run P w).andThen fun a w₁ => ((loadVar ty a).run P w₁).andThen fun v w₂ => ((asAddr (tmps.getD q undef)).run P w₂).andThen fun b w₃ => ((loadVar tz b).run P w₃).andThen fun u w₄ => ((asAddr (tmps.getD r undef)).run P w₄).andThen fun c w₅ => ((loadVar tu c).run P w₅).andThen fun x w₆ => .ok (.tuple #[v, u, x]) w₆ := by
  simp only [results, h]
  simp [Sem.run_bind, Result.andThen]
/-- What Run's call returns. -/
def RetRun (w : World) (Z : List (List Int) × Int × Int) (e : Ending) (w' : World) : Prop :=
  ∃ A n c ls, e = .returned (.tuple #[.slice A n c, .int .i64 Z.2.1, .int .i64 Z.2.2]) ∧ TermsAt w' w'.heap.size A n ls Z.1 ∧ Below w.heap.size w w' ∧ ∀ x ∈ ls, capOk x
/-- sayings. -/
theorem sayings_any (As Ag Ap : Option Addr) (ns cs ng cg np cp : Nat) (w : World) :
    Calls Try.prog 67 #[.slice As ns cs, .slice Ag ng cg, .slice Ap np cp] w fun e w' => e = .returned (.func (.func 71) #[] #[.pointer (some ⟨w.heap.size, 0, none⟩), .pointer (some ⟨w.heap.size + 1, 0, none⟩), .pointer (some ⟨w.heap.size + 2, 0, none⟩)]) ∧ w' = ((w.alloc (.cells #[.slice As ns cs] 44)).alloc (.cells #[.slice Ag ng cg] 46)).alloc (.cells #[.slice Ap np cp] 22) := by
  go_enter Try.func67, Try.ntmps67
  go_wp2
  go_ret
  exact ⟨rfl, rfl⟩

end Go.Proofs.Ytojofbmpknpggaa

namespace Go.Proofs.Ytojofbmpknpggaa
open Go.RowKit Go.Shelf
attribute [local go_sem] Oper.semAt_some

set_option maxRecDepth 100000 in
set_option maxHeartbeats 2000000 in
theorem run_bad (As Ag Ap : Option Addr) (ns cs ng cg np cp : Nat) (ss : Sg) (lg : List Hd) (gg : List (List Int)) (pp : List Stp) (w : World) (hs : SigAt w w.heap.size As ns ss) (hg : TermsAt w w.heap.size Ag ng lg gg) (hp : StepsAt w w.heap.size Ap np pp) (hn : ng ≤ 1000000) (hbad : (givOk ss gg && proofOk (gg.length : Int) pp) = false) :
    Calls Try.prog 56 #[.slice As ns cs, .slice Ag ng cg, .slice Ap np cp] w (RetRun w ([], 0, 1)) := by
  obtain ⟨W0, hW0⟩ : ∃ W0, ((w.alloc (.cells #[.slice none 0 0] 46)).alloc (.cells #[.int .i64 0] 3)).alloc (.cells #[.int .i64 0] 25) = W0 := ⟨_, rfl⟩
  have hB0 : Below w.heap.size w W0 := by rw [← hW0]; exact bel_al (bel_al (bel_al (Below.refl _ _) _) _) _
  have sz0 : W0.heap.size = w.heap.size + 3 := by rw [← hW0]; simp
  have a0 : Blk W0 w.heap.size 46 #[.slice none 0 0] := by rw [← hW0]; exact ((Blk.new w _ _).alloc _).alloc _
  have a1 : Blk W0 (w.heap.size + 1) 3 #[.int .i64 0] := by
    rw [← hW0]
    have := Blk.new (w.alloc (.cells #[.slice none 0 0] 46)) 3 #[.int .i64 0]
    rw [World.size_alloc] at this
    exact this.alloc _
  have a2 : Blk W0 (w.heap.size + 1 + 1) 25 #[.int .i64 0] := by
    rw [← hW0]
    have := Blk.new ((w.alloc (.cells #[.slice none 0 0] 46)).alloc (.cells #[.int .i64 0] 3)) 25 #[.int .i64 0]
    rw [World.size_alloc, World.size_alloc] at this
    exact this
  have C1 := Lib.hid (validGivens_any As Ag ns cs ng cg ss lg gg W0 (hs.up hB0) (hg.up hB0) hn)
  have C2 := Lib.hid (fun V (h : Below w.heap.size w V) => validProof_any (ng : Int) Ap np cp pp V (hp.up h))
  rw [hg.len] at C2
  have HLG := Lib.hid hg.len
  have HCA := Lib.hid (fun V (h : Below W0.heap.size W0 V) => And.intro (a0.below h (by omega)) (And.intro (a1.below h (by omega)) (a2.below h (by omega))))
  have HFA := Lib.hid (fun V (h : Below W0.heap.size W0 V) => show V.cell? ⟨w.heap.size, 0, none⟩ = some (.slice none 0 0) ∧ V.frozen? ⟨w.heap.size, 0, none⟩ = false ∧ V.cell? ⟨w.heap.size + 1, 0, none⟩ = some (.int .i64 0) ∧ V.frozen? ⟨w.heap.size + 1, 0, none⟩ = false ∧ V.cell? ⟨w.heap.size + 1 + 1, 0, none⟩ = some (.int .i64 0) ∧ V.frozen? ⟨w.heap.size + 1 + 1, 0, none⟩ = false from by
    have x0 := a0.below h (by omega)
    have x1 := a1.below h (by omega)
    have x2 := a2.below h (by omega)
    exact ⟨x0.cell 0, x0.frozen 0, x1.cell 0, x1.frozen 0, x2.cell 0, x2.frozen 0⟩)
  have HB0 := Lib.hid hB0
  have HW0 := Lib.hid hW0
  obtain ⟨gl, hgl⟩ : ∃ gl, gg.length = gl := ⟨_, rfl⟩
  rw [hgl] at C2 hbad
  have HGL := Lib.hid (show (gl : Int) = (ng : Int) by rw [HLG.out, hgl])
  rw [HGL.out] at C2 hbad
  cases hgo : givOk ss gg
  · rw [hgo] at C1
    clear hs hg hp hB0 sz0 a0 a1 a2 hW0 hgo hbad hgl C2
    go_enter Try.func56, Try.ntmps56
    go_wp2_with fail
    rw [HW0.out]
    go_wp2_with (go_at_call 66; ((with_reducible refine C1.out.mono ?_); rintro e w1 ⟨rfl, hB1⟩); obtain ⟨x0, y0, x1, y1, x2, y2⟩ := HFA.out _ hB1; have HB1 := Lib.hid hB1; clear hB1)
    refine bodyPost_ret (v := .tuple #[.slice none 0 0, .int .i64 0, .int .i64 1]) (by rw [results_cells3 rfl]; go_simp) rfl ?_
    exact ⟨none, 0, 0, [], rfl, ⟨⟨rfl, by omega, fun h => absurd h (by omega)⟩, rfl, fun j hj => by simp at hj⟩, ((((below_then HB0.out HB1.out).setCell (p := ⟨w.heap.size, 0, none⟩) (Nat.le_refl _) _).setCell (p := ⟨w.heap.size + 1, 0, none⟩) (by show w.heap.size ≤ w.heap.size + 1; omega) _).setCell (p := ⟨w.heap.size + 1 + 1, 0, none⟩) (by show w.heap.size ≤ w.heap.size + 1 + 1; omega) _), by simp⟩
  · rw [hgo] at C1 hbad
    rw [Bool.true_and] at hbad
    simp only [hbad] at C2
    clear hs hg hp hB0 sz0 a0 a1 a2 hW0 hgo hbad hgl
    go_enter Try.func56, Try.ntmps56
    go_wp2_with fail
    rw [HW0.out]
    go_wp2_with (first
      | (go_at_call 66; ((with_reducible refine C1.out.mono ?_); rintro e w1 ⟨rfl, hB1⟩); have HB1 := Lib.hid hB1; clear hB1)
      | (go_at_call 24; ((with_reducible refine (C2.out _ (below_then HB0.out HB1.out)).mono ?_); rintro e w2 ⟨rfl, hB2⟩); obtain ⟨x0, y0, x1, y1, x2, y2⟩ := HFA.out _ (below_then HB1.out hB2); have HB2 := Lib.hid (below_then HB1.out hB2); clear hB2))
    refine bodyPost_ret (v := .tuple #[.slice none 0 0, .int .i64 0, .int .i64 1]) (by rw [results_cells3 rfl]; go_simp) rfl ?_
    exact ⟨none, 0, 0, [], rfl, ⟨⟨rfl, by omega, fun h => absurd h (by omega)⟩, rfl, fun j hj => by simp at hj⟩, ((((below_then HB0.out HB2.out).setCell (p := ⟨w.heap.size, 0, none⟩) (Nat.le_refl _) _).setCell (p := ⟨w.heap.size + 1, 0, none⟩) (by show w.heap.size ≤ w.heap.size + 1; omega) _).setCell (p := ⟨w.heap.size + 1 + 1, 0, none⟩) (by show w.heap.size ≤ w.heap.size + 1 + 1; omega) _), by simp⟩

set_option maxRecDepth 100000 in
set_option maxHeartbeats 4000000 in
theorem run_ok (As Ag Ap : Option Addr) (ns cs ng cg np cp : Nat) (ss : Sg) (lg : List Hd) (gg : List (List Int)) (pp : List Stp) (w : World) (hs : SigAt w w.heap.size As ns ss) (hg : TermsAt w w.heap.size Ag ng lg gg) (hp : StepsAt w w.heap.size Ap np pp) (hgiv : givOk ss gg = true) (hprf : proofOk (gg.length : Int) pp = true) :
    Calls Try.prog 56 #[.slice As ns cs, .slice Ag ng cg, .slice Ap np cp] w (RetRun w (runF ss gg pp pp.length 0)) := by
  obtain ⟨i1, hi1, hy0, hy1, hy2⟩ := info_parts info_term
  obtain ⟨W0, hW0⟩ : ∃ W0, ((w.alloc (.cells #[.slice none 0 0] 46)).alloc (.cells #[.int .i64 0] 3)).alloc (.cells #[.int .i64 0] 25) = W0 := ⟨_, rfl⟩
  have hB0 : Below w.heap.size w W0 := by rw [← hW0]; exact bel_al (bel_al (bel_al (Below.refl _ _) _) _) _
  have sz0 : W0.heap.size = w.heap.size + 3 := by rw [← hW0]; simp
  have a0 : Blk W0 w.heap.size 46 #[.slice none 0 0] := by rw [← hW0]; exact ((Blk.new w _ _).alloc _).alloc _
  have a1 : Blk W0 (w.heap.size + 1) 3 #[.int .i64 0] := by
    rw [← hW0]
    have := Blk.new (w.alloc (.cells #[.slice none 0 0] 46)) 3 #[.int .i64 0]
    rw [World.size_alloc] at this
    exact this.alloc _
  have a2 : Blk W0 (w.heap.size + 1 + 1) 25 #[.int .i64 0] := by
    rw [← hW0]
    have := Blk.new ((w.alloc (.cells #[.slice none 0 0] 46)).alloc (.cells #[.int .i64 0] 3)) 25 #[.int .i64 0]
    rw [World.size_alloc, World.size_alloc] at this
    exact this
  have hgn : ng ≤ 60 := by have := (givOk_to hgiv).2.1; have := hg.len; omega
  have C1 := Lib.hid (validGivens_any As Ag ns cs ng cg ss lg gg W0 (hs.up hB0) (hg.up hB0) (by omega))
  have C2 := Lib.hid (fun V (h : Below w.heap.size w V) => validProof_any (ng : Int) Ap np cp pp V (hp.up h))
  have hprf' : proofOk (ng : Int) pp = true := by rw [hg.len]; exact hprf
  rw [hgiv] at C1
  simp only [hprf'] at C2
  have HCA := Lib.hid (fun V (h : Below W0.heap.size W0 V) => And.intro (a0.below h (by omega)) (And.intro (a1.below h (by omega)) (a2.below h (by omega))))
  have HB0 := Lib.hid hB0
  have HW0 := Lib.hid hW0
  have HSZ := Lib.hid sz0
  have HGIV := Lib.hid hgiv
  have HPRF := Lib.hid hprf'
  have HSG := Lib.hid hs
  have HTG := Lib.hid hg
  have HPG := Lib.hid hp
  have HLEN := Lib.hid ((proofOk_to hprf).2.1)
  have HZ := Lib.hid (fun k (hk : k ≤ pp.length) (h : sayTo ss gg pp k) => runF_to (ss := ss) (gg := gg) (pp := pp) pp.length k hk h)
  have HZL := Lib.hid (show (runF ss gg pp pp.length 0).1.length ≤ 1000000 from by have := runF_len ss gg pp pp.length 0; have := (proofOk_to hprf).2.1; omega)
  obtain ⟨Z, hZ⟩ : ∃ Z, runF ss gg pp pp.length 0 = Z := ⟨_, rfl⟩
  rw [hZ] at HZ HZL ⊢
  clear hs hg hp hgiv hprf hprf' hB0 sz0 a0 a1 a2 hZ hW0
  refine callsIn_wide (n := 5) |>.1 ?_
  refine callsIn_of_wp_marks Try.func56 rfl trivial ?_ rfl
  simp only [Try.ntmps56, List.size_toArray, List.length_cons, List.length_nil, Nat.reduceAdd, Nat.reduceSub, Array.replicate_succ, Array.replicate_zero, List.push_toArray, List.append_toArray, List.nil_append, List.cons_append]
  gi_wp2_with fail
  rw [HW0.out]
  gi_wp2_with (first
    | (refine ⟨trivial, ?_⟩; gi_at_call 66; ((with_reducible refine (callsIn_wide.2 C1.out).mono ?_); clear C1; rintro e w1 ⟨rfl, hB1⟩; have HB1 := Lib.hid hB1; clear hB1))
    | (refine ⟨trivial, ?_⟩; gi_at_call 24; ((with_reducible refine (callsIn_wide.2 (C2.out _ (below_then HB0.out HB1.out))).mono ?_); rintro e w2 ⟨rfl, hB2⟩; have HB2 := Lib.hid (below_then HB1.out hB2); clear hB2))
    | (refine ⟨trivial, ?_⟩; gi_at_call 67; refine (callsIn_wide.2 (sayings_any _ _ _ _ _ _ _ _ _ _)).mono ?_; rintro e w3 ⟨rfl, rfl⟩))
  obtain ⟨d, hd⟩ : ∃ d, w2.heap.size = d := ⟨_, rfl⟩
  obtain ⟨W9, hW9⟩ : ∃ W9, ((((w2.alloc (.cells #[] 45)).alloc (.cells #[.slice (some ⟨w2.heap.size, 0, none⟩) 0 0] 46)).alloc (.cells #[.slice As ns cs] 44)).alloc (.cells #[.slice Ag ng cg] 46)).alloc (.cells #[.slice Ap np cp] 22) = W9 := ⟨_, rfl⟩
  rw [hW9]
  have hs0 := HSZ.out
  have hs2 := HB2.out.size
  have hwd : w.heap.size + 3 ≤ d := by rw [← hd, ← hs0]; exact hs2
  have sz : W9.heap.size = d + 5 := by rw [← hW9]; simp [hd]
  have hB29 : Below w2.heap.size w2 W9 := by rw [← hW9]; exact bel_al (bel_al (bel_al (bel_al (bel_al (Below.refl _ _) _) _) _) _) _
  have hB9 : Below w.heap.size w W9 := below_then (below_then HB0.out HB2.out) hB29
  obtain ⟨a0, a1, a2⟩ := HCA.out W9 (below_then HB2.out hB29)
  have b0 : Blk W9 d 45 #[] := by
    rw [← hW9, ← hd]; exact ((((Blk.new w2 _ _).alloc _).alloc _).alloc _).alloc _
  have b1 : Blk W9 (d + 1) 46 #[.slice (some ⟨d, 0, none⟩) 0 0] := by
    rw [← hW9, hd]
    have := (((Blk.new (w2.alloc (.cells #[] 45)) 46 #[.slice (some ⟨d, 0, none⟩) 0 0]).alloc (.cells #[.slice As ns cs] 44)).alloc (.cells #[.slice Ag ng cg] 46)).alloc (.cells #[.slice Ap np cp] 22)
    rw [World.size_alloc, hd] at this
    exact this
  have b2 : Blk W9 (d + 2) 44 #[.slice As ns cs] := by
    rw [← hW9, hd]
    have := ((Blk.new ((w2.alloc (.cells #[] 45)).alloc (.cells #[.slice (some ⟨d, 0, none⟩) 0 0] 46)) 44 #[.slice As ns cs]).alloc (.cells #[.slice Ag ng cg] 46)).alloc (.cells #[.slice Ap np cp] 22)
    rw [World.size_alloc, World.size_alloc, hd] at this
    exact this
  have b3 : Blk W9 (d + 3) 46 #[.slice Ag ng cg] := by
    rw [← hW9, hd]
    have := (Blk.new (((w2.alloc (.cells #[] 45)).alloc (.cells #[.slice (some ⟨d, 0, none⟩) 0 0] 46)).alloc (.cells #[.slice As ns cs] 44)) 46 #[.slice Ag ng cg]).alloc (.cells #[.slice Ap np cp] 22)
    rw [World.size_alloc, World.size_alloc, World.size_alloc, hd] at this
    exact this
  have b4 : Blk W9 (d + 4) 22 #[.slice Ap np cp] := by
    rw [← hW9, hd]
    have := Blk.new ((((w2.alloc (.cells #[] 45)).alloc (.cells #[.slice (some ⟨d, 0, none⟩) 0 0] 46)).alloc (.cells #[.slice As ns cs] 44)).alloc (.cells #[.slice Ag ng cg] 46)) 22 #[.slice Ap np cp]
    rw [World.size_alloc, World.size_alloc, World.size_alloc, World.size_alloc, hd] at this
    exact this
  have i0' : IRun w d As Ag Ap ns cs ng cg np cp ss gg pp [] W9 := by
    refine ⟨some ⟨d, 0, none⟩, 0, b1, ⟨⟨rfl, .inr ⟨d, 0, #[], rfl, Nat.le_refl _, b0, Nat.le_refl _, by unfold maxLen; omega, rfl, rfl⟩⟩, rfl, rfl, by simp, fun j hj => by simp at hj, fun g e => ?_⟩, fun j hj => by simp at hj, ⟨a0, a1, a2, b2, b3, b4⟩, hB9⟩
    have e3 : d = g := Option.some.inj e
    exact .inl e3.symm
  rw [hd]
  clear hW9 b0 b1 b2 b3 b4 a0 a1 a2 hB9 hB29 hs0 hs2
  refine' range_lp (gf := 71) (lb := #[.pointer (some ⟨d + 1 + 1, 0, none⟩), .pointer (some ⟨d + 1 + 1 + 1, 0, none⟩), .pointer (some ⟨d + 1 + 1 + 1 + 1, 0, none⟩)]) rfl (enters_of Try.func71 (by kernel_rfl) rfl) (encs := encS) (fun _ => rfl)
    (fun pre x W => HxS ss gg pp (d + 1) (d + 5) pre.length x W) pp.length (IRun w d As Ag Ap ns cs ng cg np cp ss gg pp) (XRun w d Z) (IRun.own (by omega)) (XRun.own (by omega)) (fun pre x W l o o' hx hl ho hc => hx.putObj (by omega) ho hc)
    (KpS (d + 1) (d + 5)) (fun h k => h.trans k) (fun W l o o' hl ho hc _ => KpS.putObj W l o o' (by omega) ho hc)
    (SfS (d + 1) (d + 5)) (fun pre A B h hs => h.soft hwd hs) (fun pre A B b o hs ho hc => hs.plain b o ho hc) i0'
    ?seq _ ?assign ?body ?done ?stop
  case seq =>
    intro l J JL V hV hJ hJS hJI hY hJ0
    exact sayC_in l 4 (d + 1 + 1) (d + 1 + 1 + 1) (d + 1 + 1 + 1 + 1) (d + 1) (d + 5) As Ag Ap ns cs ng cg np cp ss lg gg pp J JL HGIV.out HPRF.out hJ hJS (fun k A hA => by
      obtain ⟨Av, cv, h1, h2, h3, ⟨h4, h5, h6, h7, h8, h9⟩, h10⟩ := hJI k A hA
      exact ⟨h7, h8, h9, HSG.out.up h10, HTG.out.up h10, HPG.out.up h10, h3, fun g e => (h2.row.lt g ((rowOf_box (h1.cell 0)).symm.trans e)).2⟩) hY V (by have := hV.size; omega) (by have := hV.size; omega) hJ0
  case assign =>
    intro l m x W K hK
    unfold encS
    gi_wp2
    exact hK
  case body =>
    rintro l mq pre ⟨⟨A', n', c'⟩, er⟩ W ⟨Av, cv, h1, h2, h3, ⟨h4, h5, h6, h7, h8, h9⟩, h10⟩ hx hk
    have hxe := hx.er
    have hxi := hx.ints
    have hxc := hx.cap
    have hxl := hx.low
    rw [rowOf_box (h1.cell 0)] at hxi
    simp only at hxe hxi hxc hxl
    have hz := HZ.out pre.length (by omega) h3
    have hd5 : d + 5 ≤ W.heap.size := h9.lt
    obtain ⟨k, hkk⟩ : ∃ k, pre.length = k := ⟨_, rfl⟩
    rw [hkk] at h1 h2 h3 hxe hxi hz hk
    obtain ⟨f, hf⟩ : ∃ f, pp.length - k = f + 1 := ⟨pp.length - k - 1, by omega⟩
    rw [hf, runF] at hz
    have c1 := h1.cell 0
    have c4 := h4.cell 0
    have f4 := h4.frozen 0
    have c5 := h5.cell 0
    have f5 := h5.frozen 0
    have c6 := h6.cell 0
    have f6 := h6.frozen 0
    simp only [Array.getElem?_singleton, if_true] at c1 c4 c5 c6
    have H1 := Lib.hid h1
    have H2 := Lib.hid h2
    have H3 := Lib.hid h3
    have H4 := Lib.hid h4
    have H5 := Lib.hid h5
    have H6 := Lib.hid h6
    have H7 := Lib.hid h7
    have H8 := Lib.hid h8
    have H9 := Lib.hid h9
    have H10 := Lib.hid h10
    have HKK := Lib.hid hkk
    have HXE := Lib.hid hxe
    by_cases he : er = 0
    · subst he
      have HT3 := Lib.hid (sayTo_succ h3 hxe.symm)
      have hk60 : k < 60 := by have := HLEN.out.2; omega
      have HEL := Lib.hid (show ElAt W (d + 5) (Value.slice Av k cv).ownBlock none (A', n', c') (saysZ ss gg (sayL ss gg pp k) (pp.getD k (0, 0, 0))).1 from ⟨hxi.len, hxi.max, fun hn => by obtain ⟨b, off, e, q1, q2, q3⟩ := hxi.mem hn; exact ⟨b, off, e, hxl hn b off e, q1, q2, by simp, q3⟩⟩)
      have HXC := Lib.hid hxc
      have HBA := Lib.hid (show Below W.heap.size W (W.alloc (.cells #[.slice A' n' c'] 45)) from bel_al0 W _)
      have cbA := (HBA.out.cell (p := ⟨d + 1, 0, none⟩) h1.lt).trans c1
      have fbA : (W.alloc (.cells #[.slice A' n' c'] 45)).frozen? ⟨d + 1, 0, none⟩ = false := (World.frozen?_of_block (HBA.out.block _ h1.lt)).trans (h1.frozen 0)
      have HCF := Lib.hid (And.intro cbA fbA)
      have HEL2 := Lib.hid (HEL.out.move HBA.out.size (fun b _ hl _ _ off _ => HBA.out.cell (p := ⟨b, off, none⟩) hl) (fun _ _ h => h) (fun _ _ h => h))
      clear h1 h2 h3 h4 h5 h6 h7 h8 h9 h10 hx hxi hxc hxl hxe hz hf hkk c4 f4 c5 f5 c6 f6 cbA fbA
      gi_wp2_with (first
        | (gi_at_builtin
           refine wpListIn_append_own_at _ rfl _ _ 46 rfl d 45 i1 _ 1 24 Try.underlying46 hi1 hy0 hy1 hy2 rfl (by omega) (.slice Av k cv) k ((pre.map Prod.fst).map Hd.val) rfl (H2.out.row.alloc _) ⟨W.heap.size, 0, none⟩ 1 1 [Hd.val (A', n', c')] rfl rfl
             (World.news_of_block (cs := #[Hd.val (A', n', c')]) (t := 45) (fr := (0, 0)) (heap_alloc_new W _)) (by simp [Value.oneCell', Hd.val]) (by unfold maxLen; omega) (by omega) (by rw [World.size_alloc]; omega) ?_
           intro v4 W4 hown4 hg4 _ hv4
           have hr2 := H2.out.below HBA.out
           have hown := hr2.own
           have hsz := HBA.out.size
           have HR4 := Lib.hid (hr2.push HEL2.out HXC.out (by omega) hown4 hg4 hv4)
           have hl1 : d + 1 < (W.alloc (.cells #[Hd.val (A', n', c')] 45)).heap.size := Nat.lt_of_lt_of_le H1.out.lt hsz
           have cb4 : W4.cell? ⟨d + 1, 0, none⟩ = some (.slice Av k cv) := (cell_grown hg4 hl1 (fun e => by have h1 := hown _ e; omega)).trans HCF.out.1
           have fb4 : W4.frozen? ⟨d + 1, 0, none⟩ = false := (frozen_grown hg4 hl1 (fun e => by have h1 := hown _ e; omega)).trans HCF.out.2
           obtain ⟨g4, cap4, e4, _⟩ := hown4.form (by omega)
           subst e4
           have HG4 := Lib.hid hg4
           have HV4 := Lib.hid hv4
           have HOWN := Lib.hid (fun g e => And.intro (hown g e) (hr2.row.lt g e))
           have HCL := Lib.hid (fun g e => row_cells2 hr2.row (g := g) e)
           clear hown4 hg4 hv4 hr2 hown hsz hl1))
      have hs4 : W.heap.size ≤ W4.heap.size := Nat.le_trans HBA.out.size HG4.out.size
      have hnk : ∀ b, b < d + 5 → b ≠ d → W4.heap[b]? = W.heap[b]? := fun b hb hne => (HG4.out.block b (by have := HBA.out.size; omega) (fun e => by have := (HOWN.out b e.symm).1; omega)).trans (HBA.out.block b (by omega))
      have kb {b : Nat} {T : TypeId} {c : Array Value} (h : Blk W b T c) (hb : b < d + 5) (hne : b ≠ d) (hne2 : b ≠ d + 1) : Blk (W4.setCell ⟨d + 1, 0, none⟩ (.slice (some ⟨g4, 0, none⟩) (k + 1) cap4)) b T c := ((heap_setCell_other W4 ⟨d + 1, 0, none⟩ b _ hne2).trans (hnk b hb hne)).trans h
      have n1 : Blk (W4.setCell ⟨d + 1, 0, none⟩ (.slice (some ⟨g4, 0, none⟩) (k + 1) cap4)) (d + 1) 46 #[.slice (some ⟨g4, 0, none⟩) (k + 1) cap4] := by
        have h : Blk W4 (d + 1) 46 #[.slice Av k cv] := (hnk (d + 1) (by omega) (by omega)).trans H1.out
        exact h.set_ 0 _
      have hro : rowOf W (d + 1) = (Value.slice Av k cv).ownBlock := rowOf_box (H1.out.cell 0)
      have hro4 : rowOf (W4.setCell ⟨d + 1, 0, none⟩ (.slice (some ⟨g4, 0, none⟩) (k + 1) cap4)) (d + 1) = (Value.slice (some ⟨g4, 0, none⟩) (k + 1) cap4).ownBlock := rowOf_box (n1.cell 0)
      have hkk := HKK.out
      refine ⟨(((keeps_grown2 (grown_row none HBA.out) (fun r e => by cases e)).trans (keeps_grown2 HG4.out (fun g e => by obtain ⟨cs', h⟩ := HCL.out g e; exact ⟨cs', _, _, h⟩))).trans (KeepsOthers.setCell _ _ _)).from _, ⟨by rw [World.size_setCell]; exact hs4, fun b cs t f hb hc hr => ?_, fun g e => ?_⟩, some ⟨g4, 0, none⟩, cap4, ?_⟩
      · have hbl : b < W.heap.size := (Array.getElem?_eq_some_iff.1 hc).1
        exact (heap_setCell_other W4 ⟨d + 1, 0, none⟩ b _ (show b ≠ d + 1 by omega)).trans ((HG4.out.block b (Nat.lt_of_lt_of_le hbl HBA.out.size) (fun e => hr (by rw [hro]; exact e.symm))).trans (HBA.out.block b hbl))
      · rw [hro4] at e
        rcases HV4.out with h2 | h2
        · exact .inl (by rw [hro, ← h2]; exact e)
        · rw [h2] at e
          have := Option.some.inj e
          have := HBA.out.size
          right; omega
      · have e1 : sayL ss gg pp (k + 1) = sayL ss gg pp k ++ [(saysZ ss gg (sayL ss gg pp k) (pp.getD k (0, 0, 0))).1] := rfl
        rw [List.length_append, hkk, List.map_append, List.map_singleton]
        exact ⟨n1, HR4.out.set (b := d + 1) ⟨by omega, by omega⟩ _, HT3.out, ⟨kb H4.out (by omega) (by omega) (by omega), kb H5.out (by omega) (by omega) (by omega), kb H6.out (by omega) (by omega) (by omega), kb H7.out (by omega) (by omega) (by omega), kb H8.out (by omega) (by omega) (by omega), kb H9.out (by omega) (by omega) (by omega)⟩,
          (((below_then H10.out HBA.out).grown HG4.out (below_then H10.out HBA.out).size (fun g e => by have := (HOWN.out g e).1; omega)).setCell (p := ⟨d + 1, 0, none⟩) (by show w.heap.size ≤ d + 1; omega) _)⟩
    · have hz2 : Z = (sayL ss gg pp k, (k : Int), er) := by rw [hz, if_neg (by rw [← hxe]; exact he), hxe]
      have HZ2 := Lib.hid hz2
      have hne : (er != 0) = true := by simpa using he
      clear h1 h2 h3 h4 h5 h6 h7 h8 h9 h10 hx hxi hxc hxl hxe hz hf hkk he hz2
      gi_wp2_with fail
      refine region_round (S := (fun w' => w'.cell? ⟨d + 1, 0, none⟩ = some (.slice Av k cv))) (by kernel_rfl) (by kernel_rfl) ?_ (fun hHeld => ?_)
      · exact c1
      refine wpAnyH_take (i := 0) (v := ?_) rfl (by kernel_rfl) (by kernel_rfl) (by kernel_rfl) (fun _ _ _ h => h) (Or.inl ⟨by rfl, ?_⟩) (by assumption) ?_
      rotate_left
      · intro w hSw; (try dsimp only at hSw); go_simp <;> with_reducible rfl
      try simp only [List.getElem_toArray, List.getElem_cons_zero, Act.put, List.setIfInBounds_toArray, List.set_cons_zero, List.set_cons_succ]
      refine wpAnyH_take (i := 1) (v := ?_) rfl (by kernel_rfl) (by kernel_rfl) (by kernel_rfl) (fun _ _ _ h => h) (Or.inl ⟨by rfl, ?_⟩) (by assumption) ?_
      rotate_left
      · intro w hSw; (try dsimp only at hSw); go_simp <;> with_reducible rfl
      try simp only [List.getElem_toArray, List.getElem_cons_succ, List.getElem_cons_zero, Act.put, List.setIfInBounds_toArray, List.set_cons_zero, List.set_cons_succ]
      refine wpAnyH_take (i := 2) (v := ?_) rfl (by kernel_rfl) (by kernel_rfl) (by kernel_rfl) (fun _ _ _ h => h) (Or.inl ⟨by rfl, ?_⟩) (by assumption) ?_
      rotate_left
      · intro w hSw; (try dsimp only at hSw); go_simp <;> with_reducible rfl
      try simp only [List.getElem_toArray, List.getElem_cons_succ, List.getElem_cons_zero, Act.put, List.setIfInBounds_toArray, List.set_cons_zero, List.set_cons_succ]
      refine wpAnyH_take (i := 3) (v := ?_) rfl (by kernel_rfl) (by kernel_rfl) (by kernel_rfl) (fun _ _ _ h => h) (Or.inl ⟨by rfl, ?_⟩) (by assumption) ?_
      rotate_left
      · intro w hSw; (try dsimp only at hSw); go_simp <;> with_reducible rfl
      try simp only [List.getElem_toArray, List.getElem_cons_succ, List.getElem_cons_zero, Act.put, List.setIfInBounds_toArray, List.set_cons_zero, List.set_cons_succ]
      refine wpAnyH_ready (rs := [4]) (by kernel_rfl) (by simp) (AllReadyH.cons rfl (fun K hK => ?_) AllReadyH.nil)
      go_simp
      try go_wp2_with fail
      refine hK.out _ _ ?_ (fun hHeld => ?_)
      · exact (World.cell?_setCell_other W ⟨w.heap.size, 0, none⟩ ⟨d + 1, 0, none⟩ (.slice Av k cv) (fun e => by have e2 := congrArg Addr.block e; simp only at e2; omega)).trans (c1)
      clear hK K
      try simp only [List.getElem_toArray, List.getElem_cons_succ, List.getElem_cons_zero, Act.put, List.setIfInBounds_toArray, List.set_cons_zero, List.set_cons_succ]
      refine wpAnyH_ready (rs := [5]) (by kernel_rfl) (by simp) (AllReadyH.cons rfl (fun K hK => ?_) AllReadyH.nil)
      go_simp
      try go_wp2_with fail
      refine hK.out _ _ ?_ (fun hHeld => ?_)
      · exact (World.cell?_setCell_other (W.setCell ⟨w.heap.size, 0, none⟩ (.slice Av k cv)) ⟨w.heap.size + 1, 0, none⟩ ⟨d + 1, 0, none⟩ (.int .i64 (k : Int)) (fun e => by have e2 := congrArg Addr.block e; simp only at e2; omega)).trans ((World.cell?_setCell_other W ⟨w.heap.size, 0, none⟩ ⟨d + 1, 0, none⟩ (.slice Av k cv) (fun e => by have e2 := congrArg Addr.block e; simp only at e2; omega)).trans (c1))
      clear hK K
      try simp only [List.getElem_toArray, List.getElem_cons_succ, List.getElem_cons_zero, Act.put, List.setIfInBounds_toArray, List.set_cons_zero, List.set_cons_succ]
      refine wpAnyH_ready (rs := [6]) (by kernel_rfl) (by simp) (AllReadyH.cons rfl (fun K hK => ?_) AllReadyH.nil)
      go_simp
      try go_wp2_with fail
      refine hK.out _ _ ?_ (fun hHeld => ?_)
      · exact (World.cell?_setCell_other ((W.setCell ⟨w.heap.size, 0, none⟩ (.slice Av k cv)).setCell ⟨w.heap.size + 1, 0, none⟩ (.int .i64 (k : Int))) ⟨w.heap.size + 1 + 1, 0, none⟩ ⟨d + 1, 0, none⟩ (.int .i64 er) (fun e => by have e2 := congrArg Addr.block e; simp only at e2; omega)).trans ((World.cell?_setCell_other (W.setCell ⟨w.heap.size, 0, none⟩ (.slice Av k cv)) ⟨w.heap.size + 1, 0, none⟩ ⟨d + 1, 0, none⟩ (.int .i64 (k : Int)) (fun e => by have e2 := congrArg Addr.block e; simp only at e2; omega)).trans ((World.cell?_setCell_other W ⟨w.heap.size, 0, none⟩ ⟨d + 1, 0, none⟩ (.slice Av k cv) (fun e => by have e2 := congrArg Addr.block e; simp only at e2; omega)).trans (c1)))
      clear hK K
      try simp only [List.getElem_toArray, List.getElem_cons_succ, List.getElem_cons_zero, Act.put, List.setIfInBounds_toArray, List.set_cons_zero, List.set_cons_succ]
      refine wpAnyH_done (by kernel_rfl) ⟨(fun e => by cases e), ?_⟩ _
      gi_wp2_with fail
      have n0 : Blk (((W.setCell ⟨w.heap.size, 0, none⟩ (.slice Av k cv)).setCell ⟨w.heap.size + 1, 0, none⟩ (.int .i64 (k : Int))).setCell ⟨w.heap.size + 1 + 1, 0, none⟩ (.int .i64 er)) w.heap.size 46 #[.slice Av k cv] := ((H4.out.set_ 0 (.slice Av k cv)).far (p := ⟨w.heap.size + 1, 0, none⟩) (by show w.heap.size ≠ w.heap.size + 1; omega) _).far (p := ⟨w.heap.size + 1 + 1, 0, none⟩) (by show w.heap.size ≠ w.heap.size + 1 + 1; omega) _
      have n1 : Blk (((W.setCell ⟨w.heap.size, 0, none⟩ (.slice Av k cv)).setCell ⟨w.heap.size + 1, 0, none⟩ (.int .i64 (k : Int))).setCell ⟨w.heap.size + 1 + 1, 0, none⟩ (.int .i64 er)) (w.heap.size + 1) 3 #[.int .i64 (k : Int)] := ((H5.out.far (p := ⟨w.heap.size, 0, none⟩) (by show w.heap.size + 1 ≠ w.heap.size; omega) _).set_ 0 (.int .i64 (k : Int))).far (p := ⟨w.heap.size + 1 + 1, 0, none⟩) (by show w.heap.size + 1 ≠ w.heap.size + 1 + 1; omega) _
      have n2 : Blk (((W.setCell ⟨w.heap.size, 0, none⟩ (.slice Av k cv)).setCell ⟨w.heap.size + 1, 0, none⟩ (.int .i64 (k : Int))).setCell ⟨w.heap.size + 1 + 1, 0, none⟩ (.int .i64 er)) (w.heap.size + 1 + 1) 25 #[.int .i64 er] := ((H6.out.far (p := ⟨w.heap.size, 0, none⟩) (by show w.heap.size + 1 + 1 ≠ w.heap.size; omega) _).far (p := ⟨w.heap.size + 1, 0, none⟩) (by show w.heap.size + 1 + 1 ≠ w.heap.size + 1; omega) _).set_ 0 (.int .i64 er)
      have nr := ((H2.out.set (b := w.heap.size) (i := 0) ⟨by omega, by omega⟩ (.slice Av k cv)).set (b := w.heap.size + 1) (i := 0) ⟨by omega, by omega⟩ (.int .i64 (k : Int))).set (b := w.heap.size + 1 + 1) (i := 0) ⟨by omega, by omega⟩ (.int .i64 er)
      have nb := ((H10.out.setCell (p := ⟨w.heap.size, 0, none⟩) (Nat.le_refl _) (.slice Av k cv)).setCell (p := ⟨w.heap.size + 1, 0, none⟩) (by show w.heap.size ≤ w.heap.size + 1; omega) (.int .i64 (k : Int))).setCell (p := ⟨w.heap.size + 1 + 1, 0, none⟩) (by show w.heap.size ≤ w.heap.size + 1 + 1; omega) (.int .i64 er)
      have nk := (((KeepsOthers.setCell W ⟨w.heap.size, 0, none⟩ (.slice Av k cv)).trans (KeepsOthers.setCell _ ⟨w.heap.size + 1, 0, none⟩ (.int .i64 (k : Int)))).trans (KeepsOthers.setCell _ ⟨w.heap.size + 1 + 1, 0, none⟩ (.int .i64 er))).from (d + 5)
      refine ⟨⟨nk.size, nk.same⟩, Av, k, cv, pre.map Prod.fst, n0, ?_, ?_, ?_, nb.drew⟩
      · rw [HZ2.out]
        exact nr.move (Nat.le_refl _) (fun _ _ => rfl) (fun _ _ _ _ _ _ _ _ _ _ => rfl)
      · rw [HZ2.out]
        exact n1
      · rw [HZ2.out]
        exact n2
  case done =>
    rintro D xs W hD hxs ⟨Av, cv, h1, h2, h3, ⟨h4, h5, h6, h7, h8, h9⟩, h10⟩ hK
    have hz := HZ.out xs.length (by omega) h3
    rw [hxs, Nat.sub_self, runF] at hz
    rw [hxs] at h1 h2
    have hn60 := HLEN.out.2
    have HZ2 := Lib.hid hz
    have H2 := Lib.hid h2
    have H4 := Lib.hid h4
    have H5 := Lib.hid h5
    have H6 := Lib.hid h6
    have H10 := Lib.hid h10
    have c1 := h1.cell 0
    have c4 := h4.cell 0
    have f4 := h4.frozen 0
    have c5 := h5.cell 0
    have f5 := h5.frozen 0
    have c6 := h6.cell 0
    have f6 := h6.frozen 0
    simp only [Array.getElem?_singleton, if_true] at c1 c4 c5 c6
    obtain ⟨k, hkk⟩ : ∃ k, pp.length = k := ⟨_, rfl⟩
    rw [hkk] at c1 H2 HZ2 hn60
    clear h1 h2 h3 h4 h5 h6 h7 h8 h9 h10 hz hxs hkk
    gi_wp2
    have n0 : Blk (((W.setCell ⟨w.heap.size, 0, none⟩ (.slice Av k cv)).setCell ⟨w.heap.size + 1, 0, none⟩ (.int .i64 (-1))).setCell ⟨w.heap.size + 1 + 1, 0, none⟩ (.int .i64 0)) w.heap.size 46 #[.slice Av k cv] := ((H4.out.set_ 0 (.slice Av k cv)).far (p := ⟨w.heap.size + 1, 0, none⟩) (by show w.heap.size ≠ w.heap.size + 1; omega) _).far (p := ⟨w.heap.size + 1 + 1, 0, none⟩) (by show w.heap.size ≠ w.heap.size + 1 + 1; omega) _
    have n1 : Blk (((W.setCell ⟨w.heap.size, 0, none⟩ (.slice Av k cv)).setCell ⟨w.heap.size + 1, 0, none⟩ (.int .i64 (-1))).setCell ⟨w.heap.size + 1 + 1, 0, none⟩ (.int .i64 0)) (w.heap.size + 1) 3 #[.int .i64 (-1)] := ((H5.out.far (p := ⟨w.heap.size, 0, none⟩) (by show w.heap.size + 1 ≠ w.heap.size; omega) _).set_ 0 (.int .i64 (-1))).far (p := ⟨w.heap.size + 1 + 1, 0, none⟩) (by show w.heap.size + 1 ≠ w.heap.size + 1 + 1; omega) _
    have n2 : Blk (((W.setCell ⟨w.heap.size, 0, none⟩ (.slice Av k cv)).setCell ⟨w.heap.size + 1, 0, none⟩ (.int .i64 (-1))).setCell ⟨w.heap.size + 1 + 1, 0, none⟩ (.int .i64 0)) (w.heap.size + 1 + 1) 25 #[.int .i64 0] := ((H6.out.far (p := ⟨w.heap.size, 0, none⟩) (by show w.heap.size + 1 + 1 ≠ w.heap.size; omega) _).far (p := ⟨w.heap.size + 1, 0, none⟩) (by show w.heap.size + 1 + 1 ≠ w.heap.size + 1; omega) _).set_ 0 (.int .i64 0)
    have nr := ((H2.out.set (b := w.heap.size) (i := 0) ⟨by omega, by omega⟩ (.slice Av k cv)).set (b := w.heap.size + 1) (i := 0) ⟨by omega, by omega⟩ (.int .i64 (-1))).set (b := w.heap.size + 1 + 1) (i := 0) ⟨by omega, by omega⟩ (.int .i64 0)
    have nb := ((H10.out.setCell (p := ⟨w.heap.size, 0, none⟩) (Nat.le_refl _) (.slice Av k cv)).setCell (p := ⟨w.heap.size + 1, 0, none⟩) (by show w.heap.size ≤ w.heap.size + 1; omega) (.int .i64 (-1))).setCell (p := ⟨w.heap.size + 1 + 1, 0, none⟩) (by show w.heap.size ≤ w.heap.size + 1 + 1; omega) (.int .i64 0)
    have kD : (((W.setCell ⟨w.heap.size, 0, none⟩ (.slice Av k cv)).setCell ⟨w.heap.size + 1, 0, none⟩ (.int .i64 (-1))).setCell ⟨w.heap.size + 1 + 1, 0, none⟩ (.int .i64 0)).heap[D]? = some (.deferred (some [])) :=
      ((Below.heap_setCell _ ⟨w.heap.size + 1 + 1, 0, none⟩ _ D (by show D ≠ w.heap.size + 1 + 1; omega)).trans ((Below.heap_setCell _ ⟨w.heap.size + 1, 0, none⟩ _ D (by show D ≠ w.heap.size + 1; omega)).trans (Below.heap_setCell W ⟨w.heap.size, 0, none⟩ _ D (by show D ≠ w.heap.size; omega)))).trans hK
    obtain ⟨Wb, hWb⟩ : ∃ Wb, ((W.setCell ⟨w.heap.size, 0, none⟩ (.slice Av k cv)).setCell ⟨w.heap.size + 1, 0, none⟩ (.int .i64 (-1))).setCell ⟨w.heap.size + 1 + 1, 0, none⟩ (.int .i64 0) = Wb := ⟨_, rfl⟩
    rw [hWb] at n0 n1 n2 nr nb kD ⊢
    have rc := nr.grown (grownBy_putObj' Wb D (.deferred none)) (fun r e => by cases e; exact ⟨_, kD, rfl⟩)
    have q4 : (Wb.putObj D (.deferred none)).cell? ⟨w.heap.size, 0, none⟩ = some (.slice Av k cv) := cell_kept (n0.cell 0) (grownBy_putObj' Wb D _) (fun r e => by cases e; exact ⟨_, kD, rfl⟩)
    have q5 : (Wb.putObj D (.deferred none)).cell? ⟨w.heap.size + 1, 0, none⟩ = some (.int .i64 (-1)) := cell_kept (n1.cell 0) (grownBy_putObj' Wb D _) (fun r e => by cases e; exact ⟨_, kD, rfl⟩)
    have q6 : (Wb.putObj D (.deferred none)).cell? ⟨w.heap.size + 1 + 1, 0, none⟩ = some (.int .i64 0) := cell_kept (n2.cell 0) (grownBy_putObj' Wb D _) (fun r e => by cases e; exact ⟨_, kD, rfl⟩)
    obtain ⟨Ar, cr, er, hr⟩ := rc.terms (by omega)
    cases er
    refine ⟨by simp, .inl ⟨_, _, rfl, run_takeDeferred kD, ?_⟩⟩
    refine ⟨.tuple #[.slice Av k cv, .int .i64 (-1), .int .i64 0], (by rw [results_cells3 rfl]; go_simp), ?_⟩
    rw [HZ2.out]
    exact ⟨Av, k, cv, _, rfl, hr, nb.trans (belowK_b (w := W9) (by omega) _ D _ _ (by omega) kD rfl rfl), rc.cap⟩
  case stop =>
    rintro D W hD ⟨Av, n, cv, ls, h1, h2, h3, h4, h5⟩ hK
    gi_wp2
    have rc := h2.grown (grownBy_putObj' W D (.deferred none)) (fun r e => by cases e; exact ⟨_, hK, rfl⟩)
    have q4 : (W.putObj D (.deferred none)).cell? ⟨w.heap.size, 0, none⟩ = some (.slice Av n cv) := cell_kept (h1.cell 0) (grownBy_putObj' W D _) (fun r e => by cases e; exact ⟨_, hK, rfl⟩)
    have q5 : (W.putObj D (.deferred none)).cell? ⟨w.heap.size + 1, 0, none⟩ = some (.int .i64 Z.2.1) := cell_kept (h3.cell 0) (grownBy_putObj' W D _) (fun r e => by cases e; exact ⟨_, hK, rfl⟩)
    have q6 : (W.putObj D (.deferred none)).cell? ⟨w.heap.size + 1 + 1, 0, none⟩ = some (.int .i64 Z.2.2) := cell_kept (h4.cell 0) (grownBy_putObj' W D _) (fun r e => by cases e; exact ⟨_, hK, rfl⟩)
    obtain ⟨Ar, cr, er, hr⟩ := rc.terms (by have := rc.tl; have := HZL.out; omega)
    cases er
    refine ⟨by simp, .inl ⟨_, _, rfl, run_takeDeferred hK, ?_⟩⟩
    refine ⟨.tuple #[.slice Av n cv, .int .i64 Z.2.1, .int .i64 Z.2.2], (by rw [results_cells3 rfl]; go_simp), ?_⟩
    exact ⟨Av, n, cv, _, rfl, hr, h5.trans (belowK_b (w := W9) (by omega) _ D _ _ (by omega) hK rfl rfl), rc.cap⟩

theorem run_any (As Ag Ap : Option Addr) (ns cs ng cg np cp : Nat) (ss : Sg) (lg : List Hd) (gg : List (List Int)) (pp : List Stp) (w : World) (hs : SigAt w w.heap.size As ns ss) (hg : TermsAt w w.heap.size Ag ng lg gg) (hp : StepsAt w w.heap.size Ap np pp) (hn : ng ≤ 1000000) :
    Calls Try.prog 56 #[.slice As ns cs, .slice Ag ng cg, .slice Ap np cp] w (RetRun w (runZ ss gg pp)) := by
  unfold runZ
  cases h : (givOk ss gg && proofOk (gg.length : Int) pp)
  · rw [if_neg (by simp)]
    exact run_bad As Ag Ap ns cs ng cg np cp ss lg gg pp w hs hg hp hn h
  · rw [if_pos rfl]
    rw [Bool.and_eq_true] at h
    exact run_ok As Ag Ap ns cs ng cg np cp ss lg gg pp w hs hg hp h.1 h.2

end Go.Proofs.Ytojofbmpknpggaa
