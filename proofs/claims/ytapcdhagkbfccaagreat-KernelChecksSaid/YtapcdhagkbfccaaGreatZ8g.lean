/- Contracts: the reference's Unified, Meet. -/
import Derived.Test.YtapcdhagkbfccaaGreatZGg
import Derived.Great.BuildSlice
import Derived.Great.Walk
import Derived.Deep.WholeRow
import Derived.BigFrame
/- The literal of a new solver: 25 cells behind a name. -/
namespace Go.Proofs.YtapcdhagkbfccaaGreat
open Go.RowKit Go.Great

/-- The cells of a new solver. -/
def solCs (As : Option Addr) (ns cs : Nat) : Array Value := (((As, ns, cs) :: List.replicate 24 (none, 0, 0)).map fun h : Hd => Value.slice h.1 h.2.1 h.2.2).toArray
theorem sol_built (As : Option Addr) (ns cs : Nat) : Program.built Tryz.prog 127 [(0, Value.slice As ns cs)] = some (solCs As ns cs) := by kernel_rfl
theorem sol_zero : (Tryz.prog.info? 127).map (fun i => (i.zero, i.size)) = some (some (.agg (solCs none 0 0)), 25) := by kernel_rfl
theorem sol_alloc (w : World) (ρ : Operand → Value) (o : Oper) (h : o.op = .alloc 127) : (execOp ρ o).run Tryz.prog w = .ok (.value (.pointer (some ⟨w.heap.size, 0, none⟩))) (w.alloc (.cells (solCs none 0 0) 127)) := by
  unfold execOp
  rw [h]
  kernel_rfl
theorem sol_store (o : Oper) {ops : Array Oper} {rest : List Oper} {a : Act} {w : World} {Q : Exit → Act → World → Prop} {k j : Nat} (As : Option Addr) (ns cs : Nat) (hg : o.guard = none) (h : o.op = .store 127 (.tmp k) (.tmp j)) (hd : o.dst = none)
    (hk : a.eval (.tmp k) = .pointer (some ⟨w.heap.size, 0, none⟩)) (hj : a.eval (.tmp j) = .agg (solCs As ns cs)) (hq : wpList Tryz.prog ops Q rest a (w.alloc (.cells (solCs As ns cs) 127))) :
    wpList Tryz.prog ops Q (o :: rest) a (w.alloc (.cells (solCs none 0 0) 127)) := by
  refine wpList_store_row hg _ _ _ h w.heap.size (solCs As ns cs) hk hj 127 (solCs none 0 0) (heap_alloc_last w _) ?_ ?_ ?_ ?_
  · have := sol_zero
    cases e : Tryz.prog.info? 127 with
    | none => rw [e] at this; cases this
    | some i =>
      rw [e] at this
      simp only [Option.map_some, Option.some.injEq, Prod.mk.injEq] at this
      rw [Option.map_some, this.2]
      simp [solCs]
  · simp [solCs]
  · simp [solCs, Value.oneCell']
  · rw [World.setRow_alloc_new, hd]
    exact hq
theorem sol_lit {id i j k : Nat} {p1 p2 p3 p4 : String} {t1 t2 t3 t4 : TypeId} {f1 f2 f3 f4 : Array Edge} {a : Act} {w : World} {Q : Exit → Act → World → Prop} (As : Option Addr) (ns cs : Nat)
    (h0 : a.eval (.tmp 0) = .slice As ns cs) (hi : i < a.tmps.size) (hj : j < a.tmps.size) (hk : k < a.tmps.size) (hjk : j ≠ k)
    (h : Q .normal (((a.put (some i) (.slice As ns cs)).put (some j) (.agg (solCs As ns cs))).put (some k) (.pointer (some ⟨w.heap.size, 0, none⟩))) (w.alloc (.cells (solCs As ns cs) 127))) :
    (Code.region id #[{ dst := some i, op := .move (.tmp 0), type := t1, pos := p1, after := f1, guard := none }, { dst := some j, op := .build 127 #[(0, .tmp i)], type := t2, pos := p2, after := f2, guard := none },
      { dst := some k, op := .alloc 127, type := t3, pos := p3, after := f3, guard := none }, { dst := none, op := .store 127 (.tmp k) (.tmp j), type := t4, pos := p4, after := f4, guard := none }] false).wp Tryz.prog Q a w := by
  refine wp_region_lit (l := [_, _, _, _]) ?_
  refine wpList_plain rfl fun K hK => Go.BigFrame.wp_move _ rfl (hK _ _ ?_)
  rw [h0]
  show wpList Tryz.prog _ _ _ (a.put (some i) (.slice As ns cs)) w
  refine wpList_buildTo rfl _ _ rfl (some j) rfl (solCs As ns cs) ?_ ?_
  · simp only [List.map_toArray, List.map_cons, List.map_nil]
    rw [Act.eval_put_same _ _ _ hi]
    exact sol_built As ns cs
  refine wpList_allocTo rfl (some k) rfl _ _ (sol_alloc w _ _ rfl) ?_
  refine sol_store _ (k := k) (j := j) As ns cs rfl rfl rfl (Act.eval_put_same _ _ _ (by simpa [Act.size_put] using hk)) ?_ ?_
  · rw [Act.eval_put_ne _ _ _ _ hjk.symm, Act.eval_put_same _ _ _ (by simpa [Act.size_put] using hj)]
  · exact wpList_nil h
/-- The box of a new solver. -/
theorem sol_boxed (w : World) (As : Option Addr) (ns cs : Nat) : SolAt (w.alloc (.cells (solCs As ns cs) 127)) w.heap.size As ns cs noTo := SolAt.new (Blk.new w _ _)

end Go.Proofs.YtapcdhagkbfccaaGreat

/- Contracts: the reference's Unifiable, Meets. -/
namespace Go.Proofs.YtapcdhagkbfccaaGreat
open Go.RowKit

theorem good_val {ss : Sg} {z : List Int} (h : valOk ss z = true) : GoodS ss z := by
  obtain ⟨h1, h2, h3, h4⟩ := valOk_term h
  exact ⟨h4, fun x hx => (h3 x hx).2, fun x hx => by have := (h3 x hx).1; omega, h2⟩
theorem scan_apart {ss : Sg} : ∀ (l : List Int) (n : Nat) (r : List Int), scan ss n l = some r → scan ss n (apartL l) = some (apartL r)
  | l, 0, r, h => by rw [scan_zero] at h ⊢; cases h; rfl
  | [], n + 1, r, h => by cases h
  | z :: l, n + 1, r, h => by
    have e : arOf ss (if z < 0 then z - 12 else z) = arOf ss z := by
      split
      · rename_i hz; rw [arOf_neg ss hz, arOf_neg ss (by omega)]
      · rfl
    simp only [apartL, List.map_cons, scan] at h ⊢
    rw [e]
    exact scan_apart l _ r h
theorem good_apart {ss : Sg} {z : List Int} (h : valOk ss z = true) : GoodS ss (apartL z) := by
  obtain ⟨h1, h2, h3, h4⟩ := valOk_term h
  have hns := (sigOk_len (valOk_sig h)).1
  refine ⟨scan_apart z 1 [] h4, fun x hx => ?_, fun x hx => ?_, by rw [apartL_len]; exact h2⟩
  · obtain ⟨y, hy, rfl⟩ := List.mem_map.1 hx
    have := h3 y hy
    split <;> omega
  · obtain ⟨y, hy, rfl⟩ := List.mem_map.1 hx
    have := h3 y hy
    split <;> omega
end Go.Proofs.YtapcdhagkbfccaaGreat

namespace Go.Proofs.YtapcdhagkbfccaaGreat
open Go.RowKit

end Go.Proofs.YtapcdhagkbfccaaGreat
