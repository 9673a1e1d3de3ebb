/- Contracts: arity; what add makes of a term, as lists. -/
import Derived.Test.YtojofbmpknpggaaB4g
/- Words: rows of ints of the call's own, each in a block of its own; a map from numbers to nodes. -/
namespace Go.Proofs.Ytojofbmpknpggaa
open Go.RowKit

theorem set_get? {α : Type} {l : List α} {i j : Nat} {x y : α} (h : (l.set i x)[j]? = some y) : (j = i ∧ y = x ∧ i < l.length) ∨ (j ≠ i ∧ l[j]? = some y) := by
  rw [List.getElem?_set] at h
  split at h
  · rename_i e
    subst e
    split at h
    · rename_i hl
      exact .inl ⟨rfl, (Option.some.inj h).symm, hl⟩
    · cases h
  · rename_i e
    exact .inr ⟨fun e2 => e e2.symm, h⟩

/-- What the blocks of E hold stays as it is. -/
structure KeepE (E : Nat → Prop) (w w' : World) : Prop where
  os : w'.os = w.os
  tape : w'.tape = w.tape
  output : w'.output = w.output
  size : w.heap.size ≤ w'.heap.size
  block : ∀ b, E b → w'.heap[b]? = w.heap[b]?
section
variable {E E' : Nat → Prop} {w w' w'' : World} {row : Option Nat}
theorem KeepE.refl (E : Nat → Prop) (w : World) : KeepE E w w := ⟨rfl, rfl, rfl, Nat.le_refl _, fun _ _ => rfl⟩
theorem KeepE.trans (h : KeepE E w w') (k : KeepE E w' w'') : KeepE E w w'' := ⟨k.os.trans h.os, k.tape.trans h.tape, k.output.trans h.output, Nat.le_trans h.size k.size, fun b hb => (k.block b hb).trans (h.block b hb)⟩
theorem KeepE.of_below (h : Below w.heap.size w w') (hE : ∀ b, E b → b < w.heap.size) : KeepE E w w' := ⟨h.os, h.tape, h.output, h.size, fun b hb => h.block b (hE b hb)⟩
theorem KeepE.of_grown (h : w.grownBy w' row) (hE : ∀ b, E b → b < w.heap.size) (hr : ∀ g, row = some g → ¬ E g) : KeepE E w w' := ⟨h.os, h.tape, h.output, h.size, fun b hb => h.block b (hE b hb) (fun e => hr b e.symm hb)⟩
theorem KeepE.set {p : Addr} (hp : ¬ E p.block) (u : Value) : KeepE E w (w.setCell p u) := ⟨rfl, rfl, rfl, by simp, fun b hb => heap_setCell_other w p b u (fun e => hp (by rw [← e]; exact hb))⟩
theorem KeepE.drewN (h : KeepE E w w') (j : Nat) : KeepE E w (w'.drewN j) := ⟨h.os, h.tape, h.output, h.size, h.block⟩
theorem KeepE.lt (h : KeepE E w w') (hE : ∀ b, E b → b < w.heap.size) : ∀ b, E b → b < w'.heap.size := fun b hb => Nat.lt_of_lt_of_le (hE b hb) h.size
theorem KeepE.cell (h : KeepE E w w') {p : Addr} (hp : E p.block) : w'.cell? p = w.cell? p := World.cell?_of_block (h.block _ hp)
theorem KeepE.frozen (h : KeepE E w w') {p : Addr} (hp : E p.block) : w'.frozen? p = w.frozen? p := World.frozen?_of_block (h.block _ hp)
theorem KeepE.mono (h : KeepE E w w') (he : ∀ b, E' b → E b) : KeepE E' w w' := ⟨h.os, h.tape, h.output, h.size, fun b hb => h.block b (he b hb)⟩
theorem KeepE.below {B : Nat} (h : KeepE E w w') (he : ∀ b, b < B → E b) : Below B w w' := ⟨h.os, h.tape, h.output, h.size, fun b hb => h.block b (he b hb)⟩
end

/-- Rows of ints of the call's own, each in a block of its own, none of E. -/
structure IntRows (w : World) (E : Nat → Prop) (rs : List (Value × List Int)) : Prop where
  row : ∀ (j : Nat) (v : Value) (zs : List Int), rs[j]? = some (v, zs) → w.ownsRow 0 3 1 v zs.length (zs.map (Value.int .i64))
  apart : ∀ (i j : Nat) (v : Value) (zs : List Int) (v' : Value) (zs' : List Int), i ≠ j → rs[i]? = some (v, zs) → rs[j]? = some (v', zs') → v.ownBlock = none ∨ v.ownBlock ≠ v'.ownBlock
  out : ∀ (j : Nat) (v : Value) (zs : List Int), rs[j]? = some (v, zs) → ∀ g, v.ownBlock = some g → ¬ E g
section
variable {w w' : World} {E : Nat → Prop} {base i : Nat} {rs : List (Value × List Int)} {v v' : Value} {zs : List Int} {x : Int} {row : Option Nat}
/-- The block is no row of ints. -/
def NoInts (w : World) (row : Option Nat) : Prop := ∀ r, row = some r → ∀ cs z, w.heap[r]? ≠ some (.cells cs 3 z)
theorem row_noints {n : Nat} {xs : List Value} (h : w.ownsRow base 3 1 v n xs) (hr : NoInts w row) : v.ownBlock = none ∨ v.ownBlock ≠ row := by
  cases e : v.ownBlock with
  | none => exact .inl rfl
  | some g =>
    refine .inr fun e2 => ?_
    obtain ⟨_, ⟨rfl, _⟩ | ⟨g', cap, cur, rfl, _, hcur, _⟩⟩ := h
    · cases e
    · cases e
      exact hr _ e2.symm _ _ hcur
theorem IntRows.grown (h : IntRows w E rs) (hg : w.grownBy w' row) (hr : NoInts w row) : IntRows w' E rs :=
  ⟨fun j v zs e => (h.row j v zs e).kept hg (row_noints (h.row j v zs e) hr), h.apart, h.out⟩
theorem IntRows.below (h : IntRows w E rs) (hb : Below w.heap.size w w') : IntRows w' E rs := h.grown (grown_none hb) (fun r e => by cases e)
theorem IntRows.far {p : Addr} {u : Value} (h : IntRows w E rs) (hr : NoInts w (some p.block)) : IntRows (w.setCell p u) E rs :=
  h.grown ⟨rfl, rfl, rfl, by simp, fun k _ hne => heap_setCell_other w p k u (fun e => hne (by rw [e]))⟩ hr
theorem IntRows.app (h : IntRows w E rs) (hE : ∀ b, E b → b < w.heap.size) (hi : rs[i]? = some (v, zs)) (hrow : w'.ownsRow 0 3 1 v' (zs.length + 1) (zs.map (Value.int .i64) ++ [.int .i64 x])) (hg : w.grownBy w' v.ownBlock) (hv : v'.ownBlock = v.ownBlock ∨ v'.ownBlock = some w.heap.size) :
    IntRows w' E (rs.set i (v', zs ++ [x])) := by
  have hne : ∀ j u us, j ≠ i → rs[j]? = some (u, us) → u.ownBlock = none ∨ u.ownBlock ≠ v'.ownBlock := by
    intro j u us hj hu
    rcases h.apart j i u us v zs hj hu hi with h1 | h1
    · exact .inl h1
    · cases e : u.ownBlock with
      | none => exact .inl rfl
      | some k =>
        refine .inr ?_
        rcases hv with h2 | h2
        · rw [h2, ← e]; exact h1
        · rw [h2]
          intro e2
          have := ((h.row j u us hu).lt k e).2
          cases e2
          omega
  refine ⟨fun j u us hu => ?_, fun a b u us u' us' hab ha hb => ?_, fun j u us hu g hgb => ?_⟩
  · rcases set_get? hu with ⟨rfl, e, _⟩ | ⟨hj, hu⟩
    · cases e
      simpa using hrow
    · exact (h.row j u us hu).kept hg (h.apart j i u us v zs hj hu hi)
  · rcases set_get? ha with ⟨rfl, e, _⟩ | ⟨ha1, ha2⟩
    · cases e
      rcases set_get? hb with ⟨rfl, e, _⟩ | ⟨hb1, hb2⟩
      · exact absurd rfl hab
      · rcases hne b u' us' hb1 hb2 with h1 | h1
        · cases e : v'.ownBlock with
          | none => exact .inl rfl
          | some k => rw [h1]; exact .inr (by simp)
        · exact .inr fun e => h1 e.symm
    · rcases set_get? hb with ⟨rfl, e, _⟩ | ⟨hb1, hb2⟩
      · cases e
        exact hne a u us ha1 ha2
      · exact h.apart a b u us u' us' hab ha2 hb2
  · rcases set_get? hu with ⟨rfl, e, _⟩ | ⟨hj, hu⟩
    · cases e
      rcases hv with h2 | h2
      · exact h.out j v zs hi g (by rw [← h2]; exact hgb)
      · rw [h2] at hgb
        cases hgb
        exact fun e => Nat.lt_irrefl _ (hE _ e)
    · exact h.out j u us hu g hgb
theorem IntRows.set {g k : Nat} (h : IntRows w E rs) (hi : rs[i]? = some (v, zs)) (hv : v.ownBlock = some g) : IntRows (w.setCell ⟨g, k, none⟩ (.int .i64 x)) E (rs.set i (v, zs.set k x)) := by
  have hst : (w.setCell ⟨g, k, none⟩ (.int .i64 x)).ownsRow 0 3 1 v zs.length ((zs.map (Value.int .i64)).set k (.int .i64 x)) ∧ w.grownBy (w.setCell ⟨g, k, none⟩ (.int .i64 x)) (some g) := by
    have hr := h.row i v zs hi
    obtain ⟨_, ⟨rfl, _⟩ | ⟨g', cap, cur, rfl, _⟩⟩ := id hr
    · cases hv
    · cases hv
      exact hr.stored k _
  refine ⟨fun j u us hu => ?_, fun a b u us u' us' hab ha hb => ?_, fun j u us hu g' hgb => ?_⟩
  · rcases set_get? hu with ⟨rfl, e, _⟩ | ⟨hj, hu⟩
    · cases e
      rw [List.length_set, List.map_set]
      exact hst.1
    · refine (h.row j u us hu).kept hst.2 ?_
      rw [← hv]
      exact h.apart j i u us v zs hj hu hi
  · rcases set_get? ha with ⟨rfl, e, _⟩ | ⟨ha1, ha2⟩
    · cases e
      rcases set_get? hb with ⟨rfl, e, _⟩ | ⟨hb1, hb2⟩
      · exact absurd rfl hab
      · exact h.apart a b v zs u' us' hab hi hb2
    · rcases set_get? hb with ⟨rfl, e, _⟩ | ⟨hb1, hb2⟩
      · cases e
        exact h.apart a b u us v zs hab ha2 hi
      · exact h.apart a b u us u' us' hab ha2 hb2
  · rcases set_get? hu with ⟨rfl, e, _⟩ | ⟨hj, hu⟩
    · cases e
      exact h.out j v zs hi g' hgb
    · exact h.out j u us hu g' hgb
theorem IntRows.push (h : IntRows w E rs) : IntRows w E (rs ++ [(.slice none 0 0, [])]) := by
  have hc : ∀ (j : Nat) (u : Value) (us : List Int), (rs ++ [((Value.slice none 0 0), ([] : List Int))])[j]? = some (u, us) → rs[j]? = some (u, us) ∨ (u = Value.slice none 0 0 ∧ us = []) := by
    intro j u us e
    by_cases hj : j < rs.length
    · rw [List.getElem?_append_left hj] at e; exact .inl e
    · rw [List.getElem?_append_right (by omega)] at e
      cases hk : j - rs.length with
      | zero => rw [hk] at e; cases e; exact .inr ⟨rfl, rfl⟩
      | succ k => rw [hk] at e; simp at e
  refine ⟨fun j u us e => ?_, fun a b u us u' us' hab ha hb => ?_, fun j u us e g hgb => ?_⟩
  · rcases hc j u us e with e | ⟨rfl, rfl⟩
    · exact h.row j u us e
    · exact World.ownsRow_nil _ _ _ _
  · rcases hc a u us ha with ha1 | ⟨rfl, rfl⟩
    · rcases hc b u' us' hb with hb1 | ⟨rfl, rfl⟩
      · exact h.apart a b u us u' us' hab ha1 hb1
      · cases e : u.ownBlock with
        | none => exact .inl rfl
        | some k => exact .inr (by simp [Value.ownBlock])
    · exact .inl rfl
  · rcases hc j u us e with e | ⟨rfl, rfl⟩
    · exact h.out j u us e g hgb
    · cases hgb
/-- A row's header and a cell of it. -/
theorem IntRows.cell (h : IntRows w E rs) (hi : rs[i]? = some (v, zs)) {k : Nat} {x : Int} (hk : zs[k]? = some x) :
    ∃ g cap, v = .slice (some ⟨g, 0, none⟩) zs.length cap ∧ ¬ E g ∧ g < w.heap.size ∧ zs.length ≤ cap ∧ cap ≤ 9223372036854775807 ∧ w.cell? ⟨g, k, none⟩ = some (.int .i64 x) ∧ w.frozen? ⟨g, k, none⟩ = false := by
  have hr := h.row i v zs hi
  have ho := h.out i v zs hi
  have hkl : k < zs.length := (List.getElem?_eq_some_iff.1 hk).1
  obtain ⟨_, ⟨_, h0⟩ | ⟨g, cap, cur, rfl, hb, hcur, h1, h2, h3, h4⟩⟩ := hr
  · omega
  · have hB : Blk w g 3 cur := hcur
    refine ⟨g, cap, rfl, ho g rfl, hB.lt, h1, by unfold maxLen at h2; omega, ?_, hB.frozen k⟩
    rw [hB.cell]
    have e1 : cur.toList[k]? = (cur.toList.take (zs.length * 1))[k]? := by rw [List.getElem?_take, if_pos (by omega)]
    rw [← Array.getElem?_toList, e1, h4, List.getElem?_map, hk]
    rfl
theorem IntRows.head (h : IntRows w E rs) (hi : rs[i]? = some (v, zs)) : ∃ A cap, v = .slice A zs.length cap ∧ zs.length ≤ cap ∧ cap ≤ 9223372036854775807 := by
  have hr := h.row i v zs hi
  obtain ⟨_, ⟨rfl, h0⟩ | ⟨g, cap, cur, rfl, hb, hcur, h1, h2, h3, h4⟩⟩ := hr
  · exact ⟨none, 0, by rw [h0], by omega, by omega⟩
  · exact ⟨_, cap, rfl, h1, by unfold maxLen at h2; omega⟩
theorem IntRows.lt (h : IntRows w E rs) (hi : rs[i]? = some (v, zs)) : ∀ k, v.ownBlock = some k → ¬ E k ∧ k < w.heap.size := fun k e => ⟨h.out i v zs hi k e, ((h.row i v zs hi).lt k e).2⟩
end

/-- What stands for a number in a list of pairs. -/
def vget (vs : List (Int × Nat)) (z : Int) : Option Nat := (vs.find? fun x => x.1 == z).map (·.2)
theorem vget_push {vs : List (Int × Nat)} {z : Int} {k : Nat} (h : vget vs z = none) (y : Int) : vget (vs ++ [(z, k)]) y = if y = z then some k else vget vs y := by
  unfold vget at h ⊢
  rw [List.find?_append]
  by_cases e : y = z
  · subst e
    rw [if_pos rfl]
    simp only [Option.map_eq_none_iff] at h
    rw [h]
    simp
  · rw [if_neg e]
    have : ([(z, k)] : List (Int × Nat)).find? (fun x => x.1 == y) = none := by simp; exact fun e2 => e e2.symm
    rw [this]
    simp
/-- Block bm is a map that holds just the pairs of vs. -/
def VarMap (w : World) (bm : Nat) (vs : List (Int × Nat)) : Prop :=
  ∃ D : DataW Unit, w.ownsMap Try.prog 3 (plainElem Try.prog 3) bm vs.length D ∧ Maps.IsMap D ∧ (∀ z : Int, Maps.has D (.int .i64 z) = (vget vs z).isSome) ∧ ∀ z k, vget vs z = some k → D.atKey (.int .i64 z) (.lit (.int .i64 0)) = .lit (.int .i64 (k : Int))
section
variable {w w' : World} {bm : Nat} {vs : List (Int × Nat)} {row : Option Nat}
theorem VarMap.made (w : World) : VarMap (w.alloc (.map #[] 0)) w.heap.size [] := ⟨.map [], World.ownsMap_made _ _ _ _, Maps.isMap_empty, fun _ => rfl, fun z k h => by cases h⟩
theorem VarMap.lt (h : VarMap w bm vs) : bm < w.heap.size := by obtain ⟨D, h1, _⟩ := h; exact h1.lt
theorem VarMap.isMap (h : VarMap w bm vs) : ∃ es c, w.heap[bm]? = some (.map es c) := by obtain ⟨D, ⟨es, c, h1, _⟩, _⟩ := h; exact ⟨es, c, h1⟩
theorem VarMap.grown (h : VarMap w bm vs) (hg : w.grownBy w' row) (hr : some bm ≠ row) : VarMap w' bm vs := by
  obtain ⟨D, h1, h2⟩ := h
  exact ⟨D, h1.kept hg hr, h2⟩
theorem VarMap.look (h : VarMap w bm vs) (z : Int) (hz : (Lit.int .i64 z).wf = true) :
    ∃ c : Int, (Instr.lookup 114 (.map (some bm)) (.int .i64 z) true).run Try.prog w = .ok (.tuple #[.int .i64 c, .bool (vget vs z).isSome]) w ∧ ∀ k, vget vs z = some k → c = k := by
  obtain ⟨D, h1, h2, h3, h4⟩ := h
  obtain ⟨v, ps, hrun, hv⟩ := h1.look_ok (Maps.int_keyed Try.underlying3) Try.underlying114 (zeroInt w) (plainElem_int Try.underlying3 (by decide)) (key := .int .i64 z) (Maps.keyOf_int_mk Try.underlying3 hz)
  obtain ⟨c, rfl, hc, _⟩ := plainElem_int_inv Try.underlying3 hv
  refine ⟨c, by rw [hrun, h3], fun k hk => ?_⟩
  rw [h4 z k hk] at hc
  have hc' := hc.symm
  simp at hc'
  exact hc'.1
theorem VarMap.put (h : VarMap w bm vs) (z : Int) (hz : (Lit.int .i64 z).wf = true) (hc : vget vs z = none) (hn : vs.length < maxLen) (k : Nat) (hk : (Lit.int .i64 (k : Int)).wf = true) :
    ∃ w', (Instr.mapUpdate 114 (.map (some bm)) (.int .i64 z) (.int .i64 (k : Int))).run Try.prog w = .ok () w' ∧ VarMap w' bm (vs ++ [(z, k)]) ∧ w.grownBy w' (some bm) := by
  obtain ⟨D, h1, h2, h3, h4⟩ := h
  obtain ⟨w', hrun, hown, hg⟩ := h1.update (Maps.int_keyed Try.underlying3) Try.underlying114 hn (key := .int .i64 z) (val := .int .i64 (k : Int)) (Maps.keyOf_int_mk Try.underlying3 hz) (plainElem_int Try.underlying3 hk)
  have hkl : WideAt.IsKeyLit (Lit.int .i64 z) := by trivial
  refine ⟨w', hrun, ⟨_, by simpa using hown, h2.put _ _, fun y => ?_, fun y j hy => ?_⟩, hg⟩
  · rw [vget_push hc]
    by_cases e : y = z
    · subst e; rw [Maps.has_put_same h2 hkl, if_pos rfl]; rfl
    · rw [Maps.has_put_other (by simpa using e), h3, if_neg e]
  · rw [vget_push hc] at hy
    by_cases e : y = z
    · subst e
      rw [if_pos rfl] at hy
      cases hy
      exact Maps.atKey_put_same h2 hkl _ _
    · rw [if_neg e] at hy
      rw [Maps.atKey_put_other (by simpa using e), h4 y j hy]
end

end Go.Proofs.Ytojofbmpknpggaa

/- Words: what a unification has found, in memory. -/
namespace Go.Proofs.Ytojofbmpknpggaa
open Go.RowKit

theorem uinfo_ints : (Try.prog.info? 24).map (fun i => (i.zero, i.size, i.bytes)) = some (some (.slice none 0 0), 1, 24) := by kernel_rfl
theorem IntRows.other {w w' : World} {E : Nat → Prop} {i b : Nat} {rs : List (Value × List Int)} {v : Value} {zs : List Int} {o : Obj} (h : IntRows w E rs) (hi : rs[i]? = some (v, zs)) (hg : w.grownBy w' v.ownBlock) (hb : w.heap[b]? = some o) (ho : ∀ cs z, o ≠ .cells cs 3 z) : w'.heap[b]? = some o := by
  refine (hg.block b (Array.getElem?_eq_some_iff.1 hb).1 fun e => ?_).trans hb
  obtain ⟨_, ⟨rfl, _⟩ | ⟨g', cap, cur, rfl, _, hcur, _⟩⟩ := h.row i v zs hi
  · cases e
  · cases e
    rw [hb] at hcur
    cases hcur
    exact ho _ _ rfl
theorem row_type {w : World} {base : Nat} {e : TypeId} {size : Nat} {v : Value} {n : Nat} {xs : List Value} (h : w.ownsRow base e size v n xs) {g : Nat} (hg : v.ownBlock = some g) : ∃ cs, w.heap[g]? = some (.cells cs e (0, 0)) := by
  obtain ⟨_, ⟨rfl, _⟩ | ⟨g', cap, cur, rfl, _, hcur, _⟩⟩ := h
  · cases hg
  · cases hg; exact ⟨cur, hcur⟩

/-- What a unification has found, in block fb: the sign S; the numbers, the arguments and the proxies of the nodes; the nodes of variables. -/
structure FM (w : World) (E : Nat → Prop) (fb bm : Nat) (S vt va vp : Value) (tops prox : List Int) (ks : List (Value × List Int)) (vs : List (Int × Nat)) : Prop where
  blk : Blk w fb 133 #[S, vt, va, vp, .map (some bm)]
  hb : ¬ E fb
  hm : ¬ E bm
  ha : ∀ g, va.ownBlock = some g → ¬ E g
  rows : IntRows w E ((vt, tops) :: (vp, prox) :: ks)
  args : w.ownsRow 0 24 1 va ks.length (ks.map (·.1))
  vars : VarMap w bm vs
section
variable {w w' : World} {E : Nat → Prop} {base fb bm : Nat} {S vt va vp v v' : Value} {tops prox zs : List Int} {ks : List (Value × List Int)} {vs : List (Int × Nat)} {x : Int} {row : Option Nat} {i k : Nat}
theorem FM.lt (h : FM w E fb bm S vt va vp tops prox ks vs) : fb < w.heap.size := h.blk.lt
theorem FM.c (h : FM w E fb bm S vt va vp tops prox ks vs) : w.cell? ⟨fb, 0, none⟩ = some S ∧ w.cell? ⟨fb, 1, none⟩ = some vt ∧ w.cell? ⟨fb, 2, none⟩ = some va ∧ w.cell? ⟨fb, 3, none⟩ = some vp ∧ w.cell? ⟨fb, 4, none⟩ = some (.map (some bm)) :=
  ⟨h.blk.cell 0, h.blk.cell 1, h.blk.cell 2, h.blk.cell 3, h.blk.cell 4⟩
theorem FM.f (h : FM w E fb bm S vt va vp tops prox ks vs) (i : Nat) : w.frozen? ⟨fb, i, none⟩ = false := h.blk.frozen i
theorem FM.fm (h : FM w E fb bm S vt va vp tops prox ks vs) : fb ≠ bm := by
  rintro rfl
  obtain ⟨es, c, h1⟩ := h.vars.isMap
  have h2 : w.heap[fb]? = some (.cells _ 133 (0, 0)) := h.blk
  rw [h1] at h2
  cases h2
theorem FM.grown (h : FM w E fb bm S vt va vp tops prox ks vs) (hg : w.grownBy w' row) (h1 : NoInts w row) (h2 : some fb ≠ row) (h3 : some bm ≠ row) (h4 : va.ownBlock = none ∨ va.ownBlock ≠ row) : FM w' E fb bm S vt va vp tops prox ks vs :=
  ⟨h.blk.grown hg h2, h.hb, h.hm, h.ha, h.rows.grown hg h1, h.args.kept hg h4, h.vars.grown hg h3⟩
theorem FM.below (h : FM w E fb bm S vt va vp tops prox ks vs) (hb : Below w.heap.size w w') : FM w' E fb bm S vt va vp tops prox ks vs :=
  h.grown (grown_none hb) (fun r e => by cases e) (by simp) (by simp) (by cases e : va.ownBlock <;> simp)
/-- Behind an append to a row of ints the rest lies as it lay. -/
theorem FM.mid (h : FM w E fb bm S vt va vp tops prox ks vs) (hi : ((vt, tops) :: (vp, prox) :: ks)[i]? = some (v, zs)) (hg : w.grownBy w' v.ownBlock) :
    Blk w' fb 133 #[S, vt, va, vp, .map (some bm)] ∧ w'.ownsRow 0 24 1 va ks.length (ks.map (·.1)) ∧ VarMap w' bm vs := by
  refine ⟨h.rows.other hi hg h.blk (fun cs z e => by cases e), h.args.kept hg ?_, h.vars.grown hg ?_⟩
  · cases e : va.ownBlock with
    | none => exact .inl rfl
    | some g =>
      refine .inr fun e2 => ?_
      obtain ⟨cs, h1⟩ := row_type h.args e
      obtain ⟨cs', h2⟩ := row_type (h.rows.row i v zs hi) e2.symm
      rw [h1] at h2
      cases h2
  · intro e2
    obtain ⟨es, c, h1⟩ := h.vars.isMap
    obtain ⟨cs', h2⟩ := row_type (h.rows.row i v zs hi) e2.symm
    rw [h1] at h2
    cases h2
/-- A store into the struct of the call's own. -/
theorem noints_found {cs : Array Value} (h : Blk w fb 133 cs) : NoInts w (some fb) := fun r e cs z e2 => by
  cases e
  have h2 : w.heap[fb]? = some (.cells _ 133 (0, 0)) := h
  rw [h2] at e2
  cases e2
theorem args_far {cs : Array Value} {n : Nat} {xs : List Value} {u : Value} (h : Blk w fb 133 cs) (ha : w.ownsRow base 24 1 va n xs) : (w.setCell ⟨fb, k, none⟩ u).ownsRow base 24 1 va n xs := by
  refine ha.kept (row := some fb) ⟨rfl, rfl, rfl, by simp, fun j _ hne => heap_setCell_other w ⟨fb, k, none⟩ j u (fun e => hne (by rw [e]))⟩ ?_
  cases e : va.ownBlock with
  | none => exact .inl rfl
  | some g =>
    refine .inr fun e2 => ?_
    obtain ⟨cs', h1⟩ := row_type ha e
    cases e2
    have h2 : w.heap[fb]? = some (.cells _ 133 (0, 0)) := h
    rw [h1] at h2
    cases h2
theorem vars_far {cs : Array Value} {u : Value} (h : Blk w fb 133 cs) (hv : VarMap w bm vs) : VarMap (w.setCell ⟨fb, k, none⟩ u) bm vs := by
  refine hv.grown (row := some fb) ⟨rfl, rfl, rfl, by simp, fun j _ hne => heap_setCell_other w ⟨fb, k, none⟩ j u (fun e => hne (by rw [e]))⟩ ?_
  intro e
  obtain ⟨es, c, h1⟩ := hv.isMap
  have h2 : w.heap[fb]? = some (.cells _ 133 (0, 0)) := h
  have e2 : bm = fb := by cases e; rfl
  rw [e2, h2] at h1
  cases h1
/-- One more number. -/
theorem FM.top (h : FM w E fb bm S vt va vp tops prox ks vs) (hE : ∀ b, E b → b < w.heap.size) (hrow : w'.ownsRow 0 3 1 v' (tops.length + 1) (tops.map (Value.int .i64) ++ [.int .i64 x])) (hg : w.grownBy w' vt.ownBlock) (hv : v'.ownBlock = vt.ownBlock ∨ v'.ownBlock = some w.heap.size) :
    FM (w'.setCell ⟨fb, 1, none⟩ v') E fb bm S v' va vp (tops ++ [x]) prox ks vs := by
  obtain ⟨m1, m2, m3⟩ := h.mid (i := 0) rfl hg
  exact ⟨m1.set_ 1 v', h.hb, h.hm, h.ha, (h.rows.app (i := 0) hE rfl hrow hg hv).far (noints_found m1), args_far m1 m2, vars_far m1 m3⟩
/-- One more proxy. -/
theorem FM.prx (h : FM w E fb bm S vt va vp tops prox ks vs) (hE : ∀ b, E b → b < w.heap.size) (hrow : w'.ownsRow 0 3 1 v' (prox.length + 1) (prox.map (Value.int .i64) ++ [.int .i64 x])) (hg : w.grownBy w' vp.ownBlock) (hv : v'.ownBlock = vp.ownBlock ∨ v'.ownBlock = some w.heap.size) :
    FM (w'.setCell ⟨fb, 3, none⟩ v') E fb bm S vt va v' tops (prox ++ [x]) ks vs := by
  obtain ⟨m1, m2, m3⟩ := h.mid (i := 1) rfl hg
  exact ⟨m1.set_ 3 v', h.hb, h.hm, h.ha, (h.rows.app (i := 1) hE rfl hrow hg hv).far (noints_found m1), args_far m1 m2, vars_far m1 m3⟩
/-- Behind an append to the row of arguments the rest lies as it lay. -/
theorem FM.midA (h : FM w E fb bm S vt va vp tops prox ks vs) (hg : w.grownBy w' va.ownBlock) : Blk w' fb 133 #[S, vt, va, vp, .map (some bm)] ∧ IntRows w' E ((vt, tops) :: (vp, prox) :: ks) ∧ VarMap w' bm vs := by
  have ht : ∀ g, va.ownBlock = some g → ∃ cs, w.heap[g]? = some (.cells cs 24 (0, 0)) := fun g e => row_type h.args e
  refine ⟨h.blk.grown hg ?_, h.rows.grown hg ?_, h.vars.grown hg ?_⟩
  · intro e
    obtain ⟨cs, h1⟩ := ht _ e.symm
    have h2 : w.heap[fb]? = some (.cells _ 133 (0, 0)) := h.blk
    rw [h1] at h2
    cases h2
  · intro r e cs z e2
    obtain ⟨cs', h1⟩ := ht _ e
    rw [h1] at e2
    cases e2
  · intro e
    obtain ⟨cs, h1⟩ := ht _ e.symm
    obtain ⟨es, c, h2⟩ := h.vars.isMap
    rw [h1] at h2
    cases h2
/-- One more node without arguments. -/
theorem FM.arg (h : FM w E fb bm S vt va vp tops prox ks vs) (hE : ∀ b, E b → b < w.heap.size) (hrow : w'.ownsRow 0 24 1 v' (ks.length + 1) (ks.map (·.1) ++ [.slice none 0 0])) (hg : w.grownBy w' va.ownBlock) (hv : v'.ownBlock = va.ownBlock ∨ v'.ownBlock = some w.heap.size) :
    FM (w'.setCell ⟨fb, 2, none⟩ v') E fb bm S vt v' vp tops prox (ks ++ [(.slice none 0 0, [])]) vs := by
  obtain ⟨m1, m2, m3⟩ := h.midA hg
  refine ⟨m1.set_ 2 v', h.hb, h.hm, fun g e => ?_, ?_, args_far m1 (by simpa using hrow), vars_far m1 m3⟩
  · rcases hv with h2 | h2
    · exact h.ha g (by rw [← h2]; exact e)
    · rw [h2] at e
      cases e
      exact fun e => Nat.lt_irrefl _ (hE _ e)
  · exact (m2.push).far (noints_found m1)
/-- One more argument of node i. -/
theorem FM.arg1 {ga cap : Nat} (h : FM w E fb bm S vt va vp tops prox ks vs) (hE : ∀ b, E b → b < w.heap.size) (hi : ks[i]? = some (v, zs)) (ha : va = .slice (some ⟨ga, 0, none⟩) ks.length cap) (hrow : w'.ownsRow 0 3 1 v' (zs.length + 1) (zs.map (Value.int .i64) ++ [.int .i64 x])) (hg : w.grownBy w' v.ownBlock) (hv : v'.ownBlock = v.ownBlock ∨ v'.ownBlock = some w.heap.size) :
    FM (w'.setCell ⟨ga, i, none⟩ v') E fb bm S vt va vp tops prox (ks.set i (v', zs ++ [x])) vs := by
  subst ha
  obtain ⟨m1, m2, m3⟩ := h.mid (i := i + 2) (v := v) (zs := zs) (by simpa using hi) hg
  have hst := m2.stored i v'
  obtain ⟨cs, hA⟩ := row_type m2 rfl
  refine ⟨?_, h.hb, h.hm, h.ha, ?_, ?_, m3.grown hst.2 ?_⟩
  · refine m1.far (p := ⟨ga, i, none⟩) ?_ v'
    rintro rfl
    have h2 : w'.heap[fb]? = some (.cells _ 133 (0, 0)) := m1
    rw [hA] at h2
    cases h2
  · have := (h.rows.app (i := i + 2) hE (by simpa using hi) hrow hg hv).far (p := ⟨ga, i, none⟩) (u := v') (fun r e cs z e2 => by
      cases e
      rw [hA] at e2
      cases e2)
    simpa using this
  · have := hst.1
    rw [List.length_set, List.map_set]
    exact this
  · intro e
    obtain ⟨es, c, h1⟩ := m3.isMap
    cases e
    rw [hA] at h1
    cases h1
/-- A proxy is changed. -/
theorem FM.setp {gp : Nat} (h : FM w E fb bm S vt va vp tops prox ks vs) (hv : vp.ownBlock = some gp) : FM (w.setCell ⟨gp, k, none⟩ (.int .i64 x)) E fb bm S vt va vp tops (prox.set k x) ks vs := by
  have hg : w.grownBy (w.setCell ⟨gp, k, none⟩ (.int .i64 x)) vp.ownBlock := by
    rw [hv]
    exact ⟨rfl, rfl, rfl, by simp, fun j _ hne => heap_setCell_other w ⟨gp, k, none⟩ j _ (fun e => hne (by rw [e]))⟩
  obtain ⟨m1, m2, m3⟩ := h.mid (i := 1) rfl hg
  exact ⟨m1, h.hb, h.hm, h.ha, h.rows.set (i := 1) rfl hv, m2, m3⟩
/-- A variable's node is kept. -/
theorem FM.var (h : FM w E fb bm S vt va vp tops prox ks vs) {vs' : List (Int × Nat)} (hg : w.grownBy w' (some bm)) (hv : VarMap w' bm vs') : FM w' E fb bm S vt va vp tops prox ks vs' := by
  obtain ⟨es, c, hm⟩ := h.vars.isMap
  refine ⟨h.blk.grown hg (fun e => h.fm (by cases e; rfl)), h.hb, h.hm, h.ha, h.rows.grown hg ?_, h.args.kept hg ?_, hv⟩
  · intro r e cs z e2
    cases e
    rw [hm] at e2
    cases e2
  · cases e : va.ownBlock with
    | none => exact .inl rfl
    | some g =>
      refine .inr fun e2 => ?_
      cases e2
      obtain ⟨cs, h1⟩ := row_type h.args e
      rw [hm] at h1
      cases h1
/-- The row of arguments, and a header in it. -/
theorem FM.argAt (h : FM w E fb bm S vt va vp tops prox ks vs) (hi : ks[i]? = some (v, zs)) : ∃ ga cap, va = .slice (some ⟨ga, 0, none⟩) ks.length cap ∧ ¬ E ga ∧ ga < w.heap.size ∧ w.cell? ⟨ga, i, none⟩ = some v ∧ w.frozen? ⟨ga, i, none⟩ = false := by
  have hil : i < ks.length := (List.getElem?_eq_some_iff.1 hi).1
  have ho := h.ha
  obtain ⟨_, ⟨_, h0⟩ | ⟨g, cap, cur, rfl, hb, hcur, h1, h2, h3, h4⟩⟩ := h.args
  · omega
  · have hB : Blk w g 24 cur := hcur
    refine ⟨g, cap, rfl, ho g rfl, hB.lt, ?_, hB.frozen i⟩
    rw [hB.cell]
    have e1 : cur.toList[i]? = (cur.toList.take (ks.length * 1))[i]? := by rw [List.getElem?_take, if_pos (by omega)]
    rw [← Array.getElem?_toList, e1, h4, List.getElem?_map, hi]
    rfl
end

end Go.Proofs.Ytojofbmpknpggaa

/- What a unification has found, as lists; contracts: node, variable. -/
namespace Go.Proofs.Ytojofbmpknpggaa
open Go.RowKit

/-- The nodes: the numbers with which their parts begin, their arguments, their proxies; the nodes of variables. -/
structure Fd where
  tops : List Int
  args : List (List Nat)
  prox : List Nat
  vars : List (Int × Nat)
def cI (l : List Nat) : List Int := l.map fun k : Nat => (k : Int)
theorem cI_len (l : List Nat) : (cI l).length = l.length := by simp [cI]
structure Fd.Ok (F : Fd) : Prop where
  pl : F.prox.length = F.tops.length
  al : F.args.length = F.tops.length
  pb : ∀ p ∈ F.prox, p < F.tops.length
  ab : ∀ l ∈ F.args, ∀ k ∈ l, k < F.tops.length
  vb : ∀ z k, vget F.vars z = some k → k < F.tops.length
  vl : F.vars.length ≤ F.tops.length
def Fd.push (F : Fd) (top : Int) : Fd := ⟨F.tops ++ [top], F.args ++ [[]], F.prox ++ [F.tops.length], F.vars⟩
def Fd.none : Fd := ⟨[], [], [], []⟩
theorem Fd.none_ok : Fd.none.Ok := ⟨rfl, rfl, by simp [Fd.none], by simp [Fd.none], by simp [Fd.none, vget], by simp [Fd.none]⟩
theorem Fd.Ok.push {F : Fd} (h : F.Ok) (top : Int) : (F.push top).Ok := by
  refine ⟨by simp [Fd.push, h.pl], by simp [Fd.push, h.al], ?_, ?_, ?_, ?_⟩
  · intro p hp
    simp only [Fd.push, List.mem_append, List.mem_singleton, List.length_append, List.length_singleton] at hp ⊢
    rcases hp with hp | rfl
    · have := h.pb p hp; omega
    · omega
  · intro l hl k hk
    simp only [Fd.push, List.mem_append, List.mem_singleton, List.length_append, List.length_singleton] at hl ⊢
    rcases hl with hl | rfl
    · have := h.ab l hl k hk; omega
    · cases hk
  · intro z k hk
    have := h.vb z k hk
    simp only [Fd.push, List.length_append, List.length_singleton]
    omega
  · have := h.vl
    simp only [Fd.push, List.length_append, List.length_singleton]
    omega
def Fd.vnode (F : Fd) (top : Int) : Nat × Fd :=
  match vget F.vars top with
  | some k => (k, F)
  | .none => (F.tops.length, { F.push top with vars := F.vars ++ [(top, F.tops.length)] })
theorem Fd.Ok.vnode {F : Fd} (h : F.Ok) (top : Int) : (F.vnode top).2.Ok ∧ (F.vnode top).1 < (F.vnode top).2.tops.length ∧ F.tops.length ≤ (F.vnode top).2.tops.length ∧ (F.vnode top).2.tops.length ≤ F.tops.length + 1 := by
  unfold Fd.vnode
  cases e : vget F.vars top with
  | some k => exact ⟨h, h.vb _ _ e, Nat.le_refl _, Nat.le_succ _⟩
  | none =>
    have hp := h.push top
    refine ⟨⟨hp.pl, hp.al, hp.pb, hp.ab, fun z k hk => ?_, ?_⟩, ?_, ?_, ?_⟩
    · simp only at hk
      rw [vget_push e] at hk
      simp only [Fd.push, List.length_append, List.length_singleton]
      split at hk
      · cases hk; omega
      · have := h.vb z k hk; omega
    · have := h.vl
      simp [Fd.push]; omega
    · simp [Fd.push]
    · simp [Fd.push]
    · simp [Fd.push]

/-- The struct in block fb is what has been found. -/
def FAt (w : World) (E : Nat → Prop) (fb : Nat) (S : Value) (F : Fd) : Prop :=
  ∃ bm vt va vp ks, FM w E fb bm S vt va vp F.tops (cI F.prox) ks F.vars ∧ ks.map (·.2) = F.args.map cI
section
variable {w w' : World} {E : Nat → Prop} {fb : Nat} {S : Value} {F : Fd}
theorem FAt.below (h : FAt w E fb S F) (hb : Below w.heap.size w w') : FAt w' E fb S F := by
  obtain ⟨bm, vt, va, vp, ks, h1, h2⟩ := h
  exact ⟨bm, vt, va, vp, ks, h1.below hb, h2⟩
theorem FAt.lt (h : FAt w E fb S F) : fb < w.heap.size := by obtain ⟨bm, vt, va, vp, ks, h1, h2⟩ := h; exact h1.lt
theorem FAt.hb (h : FAt w E fb S F) : ¬ E fb := by obtain ⟨bm, vt, va, vp, ks, h1, h2⟩ := h; exact h1.hb
end
theorem size_set (w : World) (p : Addr) (u : Value) : (w.setCell p u).heap.size = w.heap.size := by simp
section
variable {w w1 : World} {E : Nat → Prop} {fb bm : Nat} {S vt va vp v' : Value} {tops prox : List Int} {ks : List (Value × List Int)} {vs : List (Int × Nat)} {x : Int} {o : Obj}
/-- The struct's cells. -/
def FCells (w : World) (fb : Nat) (S vt va vp vm : Value) : Prop :=
  w.cell? ⟨fb, 0, none⟩ = some S ∧ w.cell? ⟨fb, 1, none⟩ = some vt ∧ w.cell? ⟨fb, 2, none⟩ = some va ∧ w.cell? ⟨fb, 3, none⟩ = some vp ∧ w.cell? ⟨fb, 4, none⟩ = some vm
theorem fcells {cs : Array Value} (h : Blk w fb 133 cs) (e : cs = #[S, vt, va, vp, .map (some bm)]) : FCells w fb S vt va vp (.map (some bm)) := by
  subst e
  exact ⟨h.cell 0, h.cell 1, h.cell 2, h.cell 3, h.cell 4⟩
theorem stage_keep {row : Option Nat} {k : Nat} {u : Value} (hE : ∀ b, E b → b < w.heap.size) (hg : (w.alloc o).grownBy w1 row) (hr : ∀ j, row = some j → ¬ E j) (hf : ¬ E fb) : KeepE E w (w1.setCell ⟨fb, k, none⟩ u) := by
  have h1 : KeepE E w (w.alloc o) := KeepE.of_below ((Below.refl _ w).alloc (Nat.le_refl _) _) hE
  exact (h1.trans (KeepE.of_grown hg (h1.lt hE) hr)).trans (KeepE.set (p := ⟨fb, k, none⟩) hf u)
theorem FM.topS (h : FM w E fb bm S vt va vp tops prox ks vs) (hE : ∀ b, E b → b < w.heap.size) (hrow : w1.ownsRow 0 3 1 v' (tops.length + 1) (tops.map (Value.int .i64) ++ [.int .i64 x])) (hg : (w.alloc o).grownBy w1 vt.ownBlock) (hv : v'.ownBlock = vt.ownBlock ∨ v'.ownBlock = some (w.alloc o).heap.size) :
    FM (w1.setCell ⟨fb, 1, none⟩ v') E fb bm S v' va vp (tops ++ [x]) prox ks vs ∧ KeepE E w (w1.setCell ⟨fb, 1, none⟩ v') ∧ FCells w1 fb S vt va vp (.map (some bm)) ∧ ∀ i, w1.frozen? ⟨fb, i, none⟩ = false := by
  have ha := h.below ((Below.refl w.heap.size w).alloc (Nat.le_refl _) o)
  have h1 := stage_keep (k := 1) (u := v') hE hg (fun j e => (h.rows.lt (i := 0) rfl j e).1) h.hb
  have hE' : ∀ b, E b → b < (w.alloc o).heap.size := fun b hb => by have := hE b hb; rw [World.size_alloc]; omega
  have hm := (ha.mid (i := 0) rfl hg).1
  exact ⟨ha.top hE' hrow hg hv, h1, fcells hm rfl, fun i => hm.frozen i⟩
theorem FM.prxS (h : FM w E fb bm S vt va vp tops prox ks vs) (hE : ∀ b, E b → b < w.heap.size) (hrow : w1.ownsRow 0 3 1 v' (prox.length + 1) (prox.map (Value.int .i64) ++ [.int .i64 x])) (hg : (w.alloc o).grownBy w1 vp.ownBlock) (hv : v'.ownBlock = vp.ownBlock ∨ v'.ownBlock = some (w.alloc o).heap.size) :
    FM (w1.setCell ⟨fb, 3, none⟩ v') E fb bm S vt va v' tops (prox ++ [x]) ks vs ∧ KeepE E w (w1.setCell ⟨fb, 3, none⟩ v') ∧ FCells w1 fb S vt va vp (.map (some bm)) ∧ ∀ i, w1.frozen? ⟨fb, i, none⟩ = false := by
  have ha := h.below ((Below.refl w.heap.size w).alloc (Nat.le_refl _) o)
  have h1 := stage_keep (k := 3) (u := v') hE hg (fun j e => (h.rows.lt (i := 1) rfl j e).1) h.hb
  have hE' : ∀ b, E b → b < (w.alloc o).heap.size := fun b hb => by have := hE b hb; rw [World.size_alloc]; omega
  have hm := (ha.mid (i := 1) rfl hg).1
  exact ⟨ha.prx hE' hrow hg hv, h1, fcells hm rfl, fun i => hm.frozen i⟩
theorem FM.argS (h : FM w E fb bm S vt va vp tops prox ks vs) (hE : ∀ b, E b → b < w.heap.size) (hrow : w1.ownsRow 0 24 1 v' (ks.length + 1) (ks.map (·.1) ++ [.slice .none 0 0])) (hg : (w.alloc o).grownBy w1 va.ownBlock) (hv : v'.ownBlock = va.ownBlock ∨ v'.ownBlock = some (w.alloc o).heap.size) :
    FM (w1.setCell ⟨fb, 2, none⟩ v') E fb bm S vt v' vp tops prox (ks ++ [(.slice .none 0 0, [])]) vs ∧ KeepE E w (w1.setCell ⟨fb, 2, none⟩ v') ∧ FCells w1 fb S vt va vp (.map (some bm)) ∧ ∀ i, w1.frozen? ⟨fb, i, none⟩ = false := by
  have ha := h.below ((Below.refl w.heap.size w).alloc (Nat.le_refl _) o)
  have h1 := stage_keep (k := 2) (u := v') hE hg (fun j e => h.ha j e) h.hb
  have hE' : ∀ b, E b → b < (w.alloc o).heap.size := fun b hb => by have := hE b hb; rw [World.size_alloc]; omega
  have hm := (ha.midA hg).1
  exact ⟨ha.arg hE' hrow hg hv, h1, fcells hm rfl, fun i => hm.frozen i⟩
end

set_option maxRecDepth 100000 in
set_option maxHeartbeats 1000000 in
theorem node_any (E : Nat → Prop) (fb : Nat) (S : Value) (F : Fd) (top : Int) (w : World) (h : FAt w E fb S F) (hF : F.Ok) (hn : F.tops.length ≤ 100000) (hE : ∀ b, E b → b < w.heap.size) :
    Calls Try.prog 105 #[.pointer (some ⟨fb, 0, none⟩), .int .i64 top] w fun e w' => e = .returned (.int .i64 (F.tops.length : Int)) ∧ FAt w' E fb S (F.push top) ∧ KeepE E w w' := by
  obtain ⟨bm, vt, va, vp, ks, hM, hks⟩ := h
  obtain ⟨i0, hi, hz0, hz1, hz2⟩ := info_parts info_int
  obtain ⟨i1, hi1, hy0, hy1, hy2⟩ := info_parts uinfo_ints
  obtain ⟨At, ct, rfl, hct, hct2⟩ := hM.rows.head (i := 0) rfl
  obtain ⟨Ap, cp, rfl, hcp, hcp2⟩ := hM.rows.head (i := 1) rfl
  have hkl : ks.length = F.tops.length := by
    have := congrArg List.length hks
    rw [List.length_map, List.length_map] at this
    rw [this, hF.al]
  obtain ⟨Aa, ca, rfl⟩ : ∃ Aa ca, va = .slice Aa ks.length ca := by
    obtain ⟨_, ⟨rfl, h0⟩ | ⟨g, cap, cur, rfl, _⟩⟩ := hM.args
    · exact ⟨_, _, by rw [h0]⟩
    · exact ⟨_, _, rfl⟩
  obtain ⟨c0, c1, c2, c3, c4⟩ := hM.c
  have f1 := hM.f 1
  have hpl : (cI F.prox).length = F.tops.length := by rw [cI_len, hF.pl]
  have HM := Lib.hid hM
  have HKS := Lib.hid hks
  have HBS := Lib.hid hE
  obtain ⟨n, hnn⟩ : ∃ n, F.tops.length = n := ⟨_, rfl⟩
  have HNN := Lib.hid hnn
  have HKL := Lib.hid (hkl.trans hnn)
  have HPL := Lib.hid (hpl.trans hnn)
  rw [hnn] at hn hct c1
  rw [hnn]
  rw [hpl, hnn] at c3
  rw [hkl, hnn] at c2
  clear hM hks hkl hpl hnn hct hcp hct2 hcp2 hF hE
  go_enter Try.func105, Try.ntmps105
  go_wp2_with (first
    | (at_builtin
       refine wpList_append_own_at _ rfl _ _ 24 rfl 0 3 i0 _ 1 8 Try.underlying24 hi hz0 hz1 hz2 rfl (by omega) (.slice At n ct) n (F.tops.map (Value.int .i64)) rfl (by have := (HM.out.below ((Below.refl w.heap.size w).alloc (Nat.le_refl _) (.cells #[.int .i64 top] 3))).rows.row 0 _ _ rfl; rw [HNN.out] at this; exact this) ⟨w.heap.size, 0, none⟩ 1 1 [.int .i64 top] rfl rfl
         (World.news_of_block (cs := #[.int .i64 top]) (t := 3) (fr := (0, 0)) (heap_alloc_new w _)) (by simp [Value.oneCell']) (by unfold maxLen; omega) (by omega) (Nat.zero_le _) ?_
       intro v1 w1 hown hg _ hv
       have hst := HM.out.topS (o := .cells #[.int .i64 top] 3) (v' := v1) (x := top) HBS.out (by rw [HNN.out]; exact hown) (by rw [HNN.out]; exact hg) (by rw [HNN.out]; exact hv)
       obtain ⟨g1, cap1, e1, _⟩ := hown.form (by omega)
       subst e1
       obtain ⟨hM1, hB1, ⟨d0, d1, d2, d3, d4⟩, hfz⟩ := hst
       rw [HNN.out] at d1
       rw [HKL.out] at d2
       rw [HPL.out] at d3
       have fz1 := hfz 1
       have fz2 := hfz 2
       have HM1 := Lib.hid hM1
       have HB1 := Lib.hid hB1
       have HS1 := Lib.hid (hB1.lt HBS.out)
       clear hown hg hv hM1 hB1 hfz)
    | (at_builtin
       refine wpList_append_own_at _ rfl _ _ 131 rfl 0 24 i1 _ 1 24 Try.underlying131 hi1 hy0 hy1 hy2 rfl (by omega) (.slice Aa n ca) n (ks.map (·.1)) rfl (by have := (HM1.out.below ((Below.refl (w1.setCell ⟨fb, 1, none⟩ (.slice (some ⟨g1, 0, none⟩) (n + 1) cap1)).heap.size _).alloc (Nat.le_refl _) (.cells #[.slice .none 0 0] 24))).args; rw [HKL.out] at this; exact this) ⟨w1.heap.size, 0, none⟩ 1 1 [.slice .none 0 0] rfl rfl
         (World.news_of_block (cs := #[.slice .none 0 0]) (t := 24) (fr := (0, 0)) (by have := heap_alloc_new (w1.setCell ⟨fb, 1, none⟩ (.slice (some ⟨g1, 0, none⟩) (n + 1) cap1)) (.cells #[.slice .none 0 0] 24); rw [size_set] at this; exact this)) (by simp [Value.oneCell']) (by unfold maxLen; omega) (by omega) (Nat.zero_le _) ?_
       intro v2 w2 hown hg _ hv
       have hst := HM1.out.argS (o := .cells #[.slice .none 0 0] 24) (v' := v2) HS1.out (by rw [HKL.out]; exact hown) (by rw [HKL.out]; exact hg) (by rw [HKL.out]; exact hv)
       obtain ⟨g2, cap2, e2, _⟩ := hown.form (by omega)
       subst e2
       obtain ⟨hM2, hB2, ⟨b0, b1, b2, b3, b4⟩, hfz⟩ := hst
       rw [HKL.out] at b2
       rw [HPL.out] at b3
       have fy2 := hfz 2
       have fy3 := hfz 3
       have HM2 := Lib.hid hM2
       have HB2 := Lib.hid (HB1.out.trans hB2)
       have HS2 := Lib.hid ((HB1.out.trans hB2).lt HBS.out)
       clear hown hg hv hM2 hB2 hfz)
    | (at_builtin
       refine wpList_append_own_at _ rfl _ _ 24 rfl 0 3 i0 _ 1 8 Try.underlying24 hi hz0 hz1 hz2 rfl (by omega) (.slice Ap n cp) n ((cI F.prox).map (Value.int .i64)) rfl (by have := (HM2.out.below ((Below.refl (w2.setCell ⟨fb, 2, none⟩ (.slice (some ⟨g2, 0, none⟩) (n + 1) cap2)).heap.size _).alloc (Nat.le_refl _) (.cells #[.int .i64 (n : Int)] 3))).rows.row 1 _ _ rfl; rw [HPL.out] at this; exact this) ⟨w2.heap.size, 0, none⟩ 1 1 [.int .i64 (n : Int)] rfl rfl
         (World.news_of_block (cs := #[.int .i64 (n : Int)]) (t := 3) (fr := (0, 0)) (by have := heap_alloc_new (w2.setCell ⟨fb, 2, none⟩ (.slice (some ⟨g2, 0, none⟩) (n + 1) cap2)) (.cells #[.int .i64 (n : Int)] 3); rw [size_set] at this; exact this)) (by simp [Value.oneCell']) (by unfold maxLen; omega) (by omega) (Nat.zero_le _) ?_
       intro v3 w3 hown hg _ hv
       have hst := HM2.out.prxS (o := .cells #[.int .i64 (n : Int)] 3) (v' := v3) (x := (n : Int)) HS2.out (by rw [HPL.out]; exact hown) (by rw [HPL.out]; exact hg) (by rw [HPL.out]; exact hv)
       obtain ⟨g3, cap3, e3, _⟩ := hown.form (by omega)
       subst e3
       obtain ⟨hM3, hB3, ⟨a0, a1, a2, a3, a4⟩, hfz⟩ := hst
       rw [HPL.out] at a3
       have fx3 := hfz 3
       have HM3 := Lib.hid hM3
       have HB3 := Lib.hid (HB2.out.trans hB3)
       clear hown hg hv hM3 hB3 hfz)
    | fail "goal")
  go_ret
  refine ⟨rfl, ⟨bm, .slice (some ⟨g1, 0, none⟩) (n + 1) cap1, .slice (some ⟨g2, 0, none⟩) (n + 1) cap2, .slice (some ⟨g3, 0, none⟩) (n + 1) cap3, ks ++ [(.slice .none 0 0, [])], ?_, ?_⟩, HB3.out⟩
  · have := HM3.out
    simp only [Fd.push, cI, List.map_append, List.map_cons, List.map_nil, HNN.out]
    exact this
  · rw [List.map_append, HKS.out]
    simp [Fd.push, cI]

set_option maxRecDepth 100000 in
set_option maxHeartbeats 1000000 in
theorem fvar_any (E : Nat → Prop) (fb : Nat) (S : Value) (F : Fd) (top : Int) (w : World) (h : FAt w E fb S F) (hF : F.Ok) (hn : F.tops.length ≤ 100000) (hE : ∀ b, E b → b < w.heap.size) (ht1 : -1000000 ≤ top) (ht2 : top ≤ 1000000) :
    Calls Try.prog 104 #[.pointer (some ⟨fb, 0, none⟩), .int .i64 top] w fun e w' => e = .returned (.int .i64 ((F.vnode top).1 : Int)) ∧ FAt w' E fb S (F.vnode top).2 ∧ KeepE E w w' := by
  have hwf : (Lit.int .i64 top).wf = true := WalkArith.wf_i64 (by omega)
  obtain ⟨bm, vt, va, vp, ks, hM, hks⟩ := id h
  obtain ⟨c0, c1, c2, c3, c4⟩ := hM.c
  obtain ⟨c, hlk, hc⟩ := hM.vars.look top hwf
  cases hg : vget F.vars top with
  | some k =>
    rw [hg] at hlk
    obtain rfl := hc k hg
    have HV := Lib.hid (show F.vnode top = (k, F) by unfold Fd.vnode; rw [hg])
    have HH := Lib.hid h
    simp only [Option.isSome_some] at hlk
    have HB := Lib.hid (KeepE.refl E w)
    clear h hM hks hc hg hF
    go_enter Try.func104, Try.ntmps104
    go_wp2
    go_ret
    exact ⟨by rw [HV.out]; rfl, by rw [HV.out]; exact HH.out, HB.out⟩
  | none =>
    rw [hg] at hlk
    have HV := Lib.hid (show F.vnode top = (F.tops.length, { F.push top with vars := F.vars ++ [(top, F.tops.length)] }) by unfold Fd.vnode; rw [hg])
    have CN := Lib.hid (node_any E fb S F top w h hF hn hE)
    have HVL := Lib.hid hF.vl
    have HG := Lib.hid hg
    have HW := Lib.hid hwf
    simp only [Option.isSome_none] at hlk
    obtain ⟨n, hnn⟩ : ∃ n, F.tops.length = n := ⟨_, rfl⟩
    rw [hnn] at CN hn HVL
    rw [hnn] at HV
    clear h hM hks hc hg hF hwf hnn
    go_enter Try.func104, Try.ntmps104
    go_wp2_with (go_at_call 105; refine CN.out.mono ?_; rintro e w1 ⟨rfl, hA1, hB1⟩
                 obtain ⟨bm1, vt1, va1, vp1, ks1, hM1, hks1⟩ := hA1
                 have d4 := hM1.c.2.2.2.2
                 have HVL1 := HVL.out
                 obtain ⟨w2, hrun, hv2, hg2⟩ := hM1.vars.put top HW.out HG.out (by show F.vars.length < _; unfold maxLen; omega) n (WalkArith.wf_i64 (by omega))
                 have HM2 := Lib.hid (hM1.var hg2 hv2)
                 have HB2 := Lib.hid (hB1.trans (KeepE.of_grown hg2 (hB1.lt hE) (fun k e => by cases e; exact hM1.hm)))
                 have HK1 := Lib.hid hks1
                 clear hM1 hks1 hv2 hg2 hB1 HVL1)
    go_ret
    refine ⟨by rw [HV.out]; rfl, ?_, HB2.out⟩
    rw [HV.out]
    exact ⟨bm1, vt1, va1, vp1, ks1, HM2.out, HK1.out⟩

end Go.Proofs.Ytojofbmpknpggaa

namespace Go.Proofs.Ytojofbmpknpggaa
open Go.RowKit

def Fd.arg (F : Fd) (node a : Nat) : Fd := { F with args := F.args.set node ((F.args[node]?).getD [] ++ [a]) }
theorem Fd.Ok.arg {F : Fd} (h : F.Ok) {node a : Nat} (ha : a < F.tops.length) : (F.arg node a).Ok := by
  refine ⟨h.pl, by simp [Fd.arg, h.al], h.pb, ?_, h.vb, h.vl⟩
  intro l hl k hk
  simp only [Fd.arg] at hl ⊢
  rcases List.mem_or_eq_of_mem_set hl with hl | rfl
  · exact h.ab l hl k hk
  · rcases List.mem_append.1 hk with hk | hk
    · cases e : F.args[node]? with
      | none => rw [e] at hk; cases hk
      | some l => rw [e] at hk; exact h.ab l (List.mem_of_getElem? e) k hk
    · obtain rfl := List.mem_singleton.1 hk
      exact ha
/-- Some arguments are added to a node, one behind the other. -/
def loopK (g : List Int → Fd → Nat × List Int × Fd) (node : Nat) (l : List Int) (F : Fd) : Nat → List Int × Fd
  | 0 => (l, F)
  | c + 1 => ((g (loopK g node l F c).1 (loopK g node l F c).2).2.1, (g (loopK g node l F c).1 (loopK g node l F c).2).2.2.arg node (g (loopK g node l F c).1 (loopK g node l F c).2).1)
/-- What add makes of the part with which a list begins: its node, what is left of the list, what has been found then. -/
def addF (ss : Sg) (sh : Int) : Nat → List Int → Fd → Nat × List Int × Fd
  | 0, l, F => (0, l, F)
  | _ + 1, [], F => (0, [], F)
  | f + 1, t :: r, F =>
    if t < 0 then ((F.vnode (t - sh)).1, r, (F.vnode (t - sh)).2)
    else (F.tops.length, loopK (addF ss sh f) F.tops.length r (F.push t) (arOf ss t))
structure AddOk (l r : List Int) (F : Fd) (x : Nat × List Int × Fd) : Prop where
  rest : x.2.1 = r
  ok : x.2.2.Ok
  lt : x.1 < x.2.2.tops.length
  up : F.tops.length ≤ x.2.2.tops.length
  le : x.2.2.tops.length + r.length ≤ F.tops.length + l.length
  old : ∀ i, i < F.tops.length → x.2.2.args[i]? = F.args[i]?
theorem scan_le (ss : Sg) (l : List Int) (n : Nat) (r : List Int) (h : scan ss n l = some r) : r.length + n ≤ l.length := by
  obtain ⟨p, h1, h2, rfl⟩ := scan_suffix ss l n r h
  rw [List.length_drop]
  omega
theorem Fd.arg_at {F : Fd} {node a i : Nat} (h : node < F.args.length) : (F.arg node a).args[i]? = if i = node then some ((F.args[node]?).getD [] ++ [a]) else F.args[i]? := by
  simp only [Fd.arg, List.getElem?_set]
  by_cases e : node = i
  · subst e; rw [if_pos rfl, if_pos h, if_pos rfl]
  · rw [if_neg e, if_neg (fun e2 => e e2.symm)]
theorem loopK_ok {ss : Sg} {sh : Int} {f node : Nat} (ih : ∀ l r F, l.length < f → scan ss 1 l = some r → F.Ok → AddOk l r F (addF ss sh f l F)) {l : List Int} {F : Fd} (hl : l.length < f) (hF : F.Ok) (hnode : node < F.tops.length) {u0 : List Nat} (hu0 : F.args[node]? = some u0) :
    ∀ c r, scan ss c l = some r → (loopK (addF ss sh f) node l F c).1 = r ∧ (loopK (addF ss sh f) node l F c).2.Ok ∧ F.tops.length ≤ (loopK (addF ss sh f) node l F c).2.tops.length ∧ (loopK (addF ss sh f) node l F c).2.tops.length + r.length ≤ F.tops.length + l.length ∧
      (∀ i, i < F.tops.length → i ≠ node → (loopK (addF ss sh f) node l F c).2.args[i]? = F.args[i]?) ∧ ∃ us, (loopK (addF ss sh f) node l F c).2.args[node]? = some us ∧ us.length = u0.length + c
  | 0, r, h => by
    rw [scan_zero] at h
    cases h
    exact ⟨rfl, hF, Nat.le_refl _, Nat.le_refl _, fun _ _ _ => rfl, u0, hu0, rfl⟩
  | c + 1, r, h => by
    rw [scan_add] at h
    cases hc : scan ss c l with
    | none => rw [hc] at h; cases h
    | some m =>
      rw [hc] at h
      obtain ⟨h1, h2, h3, h4, h5, us, h6, h7⟩ := loopK_ok ih hl hF hnode hu0 c m hc
      have hm := scan_le ss l c m hc
      have hx := ih m r (loopK (addF ss sh f) node l F c).2 (by omega) h h2
      rw [← h1] at hx
      have e1 := hx.rest
      have e2 := hx.lt
      have e3 := hx.up
      have e4 := hx.le
      have e5 := hx.old
      have hna : node < (addF ss sh f (loopK (addF ss sh f) node l F c).1 (loopK (addF ss sh f) node l F c).2).2.2.args.length := by rw [hx.ok.al]; omega
      have h1l : (loopK (addF ss sh f) node l F c).1.length = m.length := by rw [h1]
      refine ⟨e1, hx.ok.arg e2, ?_, ?_, fun i hi hn => ?_, us ++ [(addF ss sh f (loopK (addF ss sh f) node l F c).1 (loopK (addF ss sh f) node l F c).2).1], ?_, by rw [List.length_append, h7]; rfl⟩
      · show F.tops.length ≤ (addF ss sh f _ _).2.2.tops.length
        omega
      · show (addF ss sh f _ _).2.2.tops.length + r.length ≤ _
        omega
      · show ((addF ss sh f _ _).2.2.arg node _).args[i]? = _
        rw [Fd.arg_at hna, if_neg hn, e5 i (by omega), h5 i hi hn]
      · show ((addF ss sh f _ _).2.2.arg node _).args[node]? = _
        rw [Fd.arg_at hna, if_pos rfl, e5 node (by omega), h6]
        rfl
theorem Fd.push_old {F : Fd} (h : F.Ok) {t : Int} {i : Nat} (hi : i < F.tops.length) : (F.push t).args[i]? = F.args[i]? := by
  simp only [Fd.push]
  exact List.getElem?_append_left (by rw [h.al]; exact hi)
theorem Fd.vnode_old {F : Fd} (h : F.Ok) {t : Int} {i : Nat} (hi : i < F.tops.length) : (F.vnode t).2.args[i]? = F.args[i]? := by
  unfold Fd.vnode
  cases vget F.vars t with
  | some k => rfl
  | none => exact Fd.push_old (t := t) h hi
theorem addF_ok (ss : Sg) (sh : Int) : ∀ (f : Nat) (l r : List Int) (F : Fd), l.length < f → scan ss 1 l = some r → F.Ok → AddOk l r F (addF ss sh f l F)
  | 0, l, r, F, h, _, _ => by omega
  | f + 1, [], r, F, _, h, _ => by cases h
  | f + 1, t :: l, r, F, hf, h, hF => by
    have h' : scan ss (arOf ss t) l = some r := by
      have := h
      rw [scan, Nat.zero_add] at this
      exact this
    unfold addF
    by_cases ht : t < 0
    · rw [if_pos ht]
      rw [arOf, if_pos ht, scan_zero] at h'
      cases h'
      obtain ⟨v1, v2, v3, v4⟩ := hF.vnode (t - sh)
      exact ⟨rfl, v1, v2, v3, by simp only [List.length_cons]; omega, fun i hi => Fd.vnode_old hF hi⟩
    · rw [if_neg ht]
      simp only [List.length_cons] at hf
      have hp : (F.push t).tops.length = F.tops.length + 1 := by simp [Fd.push]
      have hu0 : (F.push t).args[F.tops.length]? = some [] := by simp only [Fd.push]; rw [← hF.al]; simp
      obtain ⟨h1, h2, h3, h4, h5, _⟩ := loopK_ok (node := F.tops.length) (addF_ok ss sh f) (l := l) (F := F.push t) (by omega) (hF.push t) (by omega) hu0 (arOf ss t) r h'
      rw [hp] at h3 h4
      exact ⟨h1, h2, by show F.tops.length < (loopK _ _ _ _ _).2.tops.length; omega, by show F.tops.length ≤ (loopK _ _ _ _ _).2.tops.length; omega, by show (loopK _ _ _ _ _).2.tops.length + _ ≤ _; simp only [List.length_cons]; omega, fun i hi => by show (loopK _ _ _ _ _).2.args[i]? = _; rw [h5 i (by omega) (by omega), Fd.push_old hF hi]⟩

set_option maxHeartbeats 400000 in
theorem uarity_any (As : Option Addr) (ns cs : Nat) (ss : Sg) (x : Int) (w : World) (B : Nat) (hs : SigAt w B As ns ss) (hx : x < (ns : Int)) (har : ArOk ss) (hB : B ≤ w.heap.size) :
    Calls Try.prog 106 #[.agg #[.slice As ns cs], .int .i64 x] w fun e w' => e = .returned (.int .i64 (arOf ss x : Int)) ∧ Below w.heap.size w w' := by
  by_cases hneg : x < 0
  · have H := Lib.hid (show arOf ss x = 0 by rw [arOf, if_pos hneg])
    clear hs
    go_enter Try.func106, Try.ntmps106
    go_wp2
    go_ret
    exact ⟨by rw [H.out]; rfl, (Below.refl _ w).alloc (Nat.le_refl _) _⟩
  · obtain ⟨k, rfl⟩ : ∃ k : Nat, x = (k : Int) := ⟨x.toNat, by omega⟩
    have hk : k < ss.length := by have := hs.len; omega
    have H := Lib.hid (arOf_at (ss := ss) hk)
    obtain ⟨b, off, rfl, hb, hsi⟩ := hs.mem (by omega)
    have c1 := hsi.ar k hk
    obtain ⟨a0, a3⟩ := har _ (List.getElem_mem hk)
    obtain ⟨r, hr⟩ : ∃ r : Nat, ss[k].2 = (r : Int) := ⟨ss[k].2.toNat, by omega⟩
    rw [hr] at c1 H
    rw [Int.toNat_natCast] at H
    have hb' : b < w.heap.size := by omega
    have c2 : ∀ o, (w.alloc o).cell? ⟨b, off + k * 2 + 1, none⟩ = some (.int .i64 (r : Int)) := fun o => (alloc_keep w o _ hb').trans c1
    have h0 : (0 : Int) ≤ (k : Int) := by omega
    have hkk : k < ns := by omega
    clear hs hsi hr a0 a3 hb hb'
    go_enter Try.func106, Try.ntmps106
    go_wp2
    go_ret
    exact ⟨by rw [H.out]; rfl, (Below.refl _ w).alloc (Nat.le_refl _) _⟩

end Go.Proofs.Ytojofbmpknpggaa
