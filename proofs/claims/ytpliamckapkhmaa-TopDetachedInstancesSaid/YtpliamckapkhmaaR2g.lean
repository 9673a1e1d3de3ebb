/- Contracts: renamed, Canonical. -/
import Derived.Test.YtpliamckapkhmaaMg
import Derived.Laws.MakeOwn
import Derived.Test.YtpliamckapkhmaaV1g
/- Canonical forms: the plain mathematics, and the words for memory that its walk wants. -/
namespace Go.Proofs.Ytpliamckapkhmaa
open Go.RowKit Go.WideMaps

def Blk (w : World) (g : Nat) (t : TypeId) (cs : Array Value) : Prop := w.heap[g]? = some (.cells cs t (0, 0))
section
variable {w w' : World} {g : Nat} {t : TypeId} {cs : Array Value}
theorem Blk.lt (h : Blk w g t cs) : g < w.heap.size := by
  rcases Nat.lt_or_ge g w.heap.size with hlt | hge
  · exact hlt
  · unfold Blk at h; rw [Array.getElem?_eq_none hge] at h; cases h
theorem Blk.cell (h : Blk w g t cs) (i : Nat) : w.cell? ⟨g, i, none⟩ = cs[i]? := cell_of_row w g i cs t (0, 0) h
theorem Blk.frozen (h : Blk w g t cs) (i : Nat) : w.frozen? ⟨g, i, none⟩ = false := by
  unfold Blk at h
  simp [World.frozen?, h]
theorem Blk.new (w : World) (t : TypeId) (cs : Array Value) : Blk (w.alloc (.cells cs t)) w.heap.size t cs := heap_alloc_new w _
theorem Blk.drewN (h : Blk w g t cs) (n : Nat) : Blk (w.drewN n) g t cs := h
theorem Blk.alloc (h : Blk w g t cs) (o : Obj) : Blk (w.alloc o) g t cs := (Below.heap_alloc w o g h.lt).trans h
theorem Blk.set_ (h : Blk w g t cs) (i : Nat) (u : Value) : Blk (w.setCell ⟨g, i, none⟩ u) g t (cs.setIfInBounds i u) := by
  unfold Blk at h ⊢
  simp [World.setCell, Array.getElem?_modify, h]
theorem Blk.far (h : Blk w g t cs) {p : Addr} (hp : g ≠ p.block) (u : Value) : Blk (w.setCell p u) g t cs := (Below.heap_setCell w p u g hp).trans h
theorem Blk.below {B : Nat} (h : Blk w g t cs) (hb : Below B w w') (hg : g < B) : Blk w' g t cs := (hb.block g hg).trans h
theorem Blk.grown {row : Option Nat} (h : Blk w g t cs) (hb : w.grownBy w' row) (hg : some g ≠ row) : Blk w' g t cs := (hb.block g h.lt hg).trans h
end

theorem run_make_rowN {P : Program} (t e : TypeId) (i : TypeInfo) (z : Value) (ht : P.underlying t = some (.slice e)) (hi : P.info? e = some i) (hz : i.zero = some z)
    (kl kc : IntKind) (n c : Nat) (hnc : n ≤ c) (hbytes : i.bytes * c ≤ 281474976710656) (h63 : c ≤ 9223372036854775807) (w : World) :
    (Instr.makeSlice t (.int kl (n : Int)) (.int kc (c : Int))).run P w = .ok (.slice (some ⟨w.heap.size, 0, none⟩) n c) (w.alloc (.cells (madeCells z.cells (c * i.size)) e)) := by
  have hb : (i.bytes : Int) * (c : Int) ≤ 281474976710656 := by
    have h : ((i.bytes * c : Nat) : Int) ≤ 281474976710656 := by omega
    rwa [Int.natCast_mul] at h
  have hr := run_make (P := P) w t e i z ht hi hz kl kc n c (by omega) (by omega) hb (by omega)
  simp only [Int.toNat_natCast] at hr
  exact hr

def cnum (seen : List Int) (z : Int) : Int := -((seen.idxOf z : Nat) : Int) - 1
def addSeen (seen : List Int) (z : Int) : List Int := if 0 ≤ z then seen else if seen.contains z then seen else seen ++ [z]
def ren1 (seen : List Int) (z : Int) : Int := if 0 ≤ z then z else cnum (addSeen seen z) z
def canonL : List Int → List Int → List Int
  | _, [] => []
  | seen, z :: r => ren1 seen z :: canonL (addSeen seen z) r
def canon (zs : List Int) : List Int := canonL [] zs
def seenTo (zs : List Int) (k : Nat) : List Int := (zs.take k).foldl addSeen []
theorem canonL_length : ∀ (zs seen : List Int), (canonL seen zs).length = zs.length
  | [], _ => rfl
  | z :: r, seen => by simp [canonL, canonL_length r]
theorem canonL_get : ∀ (zs seen : List Int) (k : Nat) (h : k < zs.length), (canonL seen zs)[k]? = some (ren1 ((zs.take k).foldl addSeen seen) zs[k])
  | [], _, k, h => by simp at h
  | z :: r, seen, 0, h => by simp [canonL]
  | z :: r, seen, k + 1, h => by
    simp only [canonL, List.getElem?_cons_succ, List.take_succ_cons, List.foldl_cons, List.getElem_cons_succ]
    exact canonL_get r _ k (by simpa using h)
theorem canon_length (zs : List Int) : (canon zs).length = zs.length := canonL_length _ _
theorem canon_get (zs : List Int) {k : Nat} (h : k < zs.length) : (canon zs)[k]? = some (ren1 (seenTo zs k) zs[k]) := canonL_get zs [] k h
theorem seenTo_succ {zs : List Int} {k : Nat} (h : k < zs.length) : seenTo zs (k + 1) = addSeen (seenTo zs k) zs[k] := by
  unfold seenTo
  rw [List.take_succ_eq_append_getElem h, List.foldl_append]
  rfl
/-- Block b is a map in which just the numbers of 'seen' stand, each with the number of its place. -/
def Numb (w : World) (b n : Nat) (seen : List Int) : Prop :=
  ∃ D : DataW Unit, w.ownsMap Try.prog 3 (plainElem Try.prog 3) b n D ∧ Maps.Tidy D ∧ Maps.size D = seen.length ∧
    (∀ z : Int, Maps.has D (.int .i64 z) = seen.contains z) ∧ ∀ z : Int, seen.contains z = true → D.atKey (.int .i64 z) (.lit (.int .i64 0)) = .lit (.int .i64 (cnum seen z))

theorem Numb.made (w : World) : Numb (w.alloc (.map #[] 0)) w.heap.size 0 [] :=
  ⟨.map [], World.ownsMap_made _ _ _ _, Maps.tidy_empty, rfl, fun _ => rfl, fun z h => by simp at h⟩
theorem Numb.setCell {w : World} {b n : Nat} {l : List Int} (h : Numb w b n l) {a : Addr} (ha : b ≠ a.block) (u : Value) : Numb (w.setCell a u) b n l := by
  obtain ⟨D, h1, h2⟩ := h
  exact ⟨D, h1.setCell ha u, h2⟩
theorem Numb.lt {w : World} {b n : Nat} {l : List Int} (h : Numb w b n l) : b < w.heap.size := by
  obtain ⟨D, h1, h2⟩ := h
  exact h1.lt
theorem Numb.mono {w : World} {b n n' : Nat} {l : List Int} (h : Numb w b n l) (hn : n ≤ n') : Numb w b n' l := by
  obtain ⟨D, h1, h2⟩ := h
  exact ⟨D, h1.mono hn, h2⟩

theorem zeroInt (w : World) : (zeroValue 3).run Try.prog w = .ok (.int .i64 0) w := by kernel_rfl
theorem Numb.look_ok {w : World} {b n : Nat} {l : List Int} (h : Numb w b n l) (z : Int) (hz : (Lit.int .i64 z).wf = true) :
    ∃ c : Int, (Instr.lookup 138 (.map (some b)) (.int .i64 z) true).run Try.prog w = .ok (.tuple #[.int .i64 c, .bool (l.contains z)]) w := by
  obtain ⟨D, h1, h2, h3, h4, h5⟩ := h
  obtain ⟨v, ps, hrun, hv⟩ := h1.look_ok (Maps.int_keyed Try.underlying3) Try.underlying138 (zeroInt w) (plainElem_int Try.underlying3 (by decide)) (key := .int .i64 z) (Maps.keyOf_int_mk Try.underlying3 hz)
  obtain ⟨c, rfl, _, _⟩ := plainElem_int_inv Try.underlying3 hv
  exact ⟨c, by rw [hrun, h4]⟩
theorem Numb.look {w : World} {b n : Nat} {l : List Int} (h : Numb w b n l) (z : Int) (hz : (Lit.int .i64 z).wf = true) (hc : l.contains z = true) :
    (Instr.lookup 138 (.map (some b)) (.int .i64 z) false).run Try.prog w = .ok (.int .i64 (cnum l z)) w := by
  obtain ⟨D, h1, h2, h3, h4, h5⟩ := h
  obtain ⟨c, hrun, hat, _⟩ := h1.lookup_int (Maps.int_keyed Try.underlying3) Try.underlying138 Try.underlying3 (zeroInt w) (key := .int .i64 z) (Maps.keyOf_int_mk Try.underlying3 hz)
  rw [h5 z hc] at hat
  have e : cnum l z = c := by simpa using hat
  rw [hrun, e]
theorem Numb.len {w : World} {b n : Nat} {l : List Int} (h : Numb w b n l) (ty : TypeId) : (Builtin.len_ #[138] ty #[.map (some b)]).run Try.prog w = .ok (.int .i64 l.length) w := by
  obtain ⟨D, h1, h2, h3, h4, h5⟩ := h
  have := h1.len Try.underlying138 ty
  rw [h3] at this
  exact this
theorem Numb.update {w : World} {b n : Nat} {l : List Int} (h : Numb w b n l) (z : Int) (hz : (Lit.int .i64 z).wf = true) (hc : l.contains z = false) (hn : n < maxLen) (v : Int) (hv : v = -(l.length : Int) - 1) (hvw : (Lit.int .i64 v).wf = true) :
    ∃ w', (Instr.mapUpdate 138 (.map (some b)) (.int .i64 z) (.int .i64 v)).run Try.prog w = .ok () w' ∧ Numb w' b (n + 1) (l ++ [z]) ∧ w.grownBy w' (some b) := by
  obtain ⟨D, h1, h2, h3, h4, h5⟩ := h
  obtain ⟨w', hrun, hown, hg⟩ := h1.update (Maps.int_keyed Try.underlying3) Try.underlying138 hn (key := .int .i64 z) (val := .int .i64 v) (Maps.keyOf_int_mk Try.underlying3 hz) (plainElem_int Try.underlying3 hvw)
  have hk : WideAt.IsKeyLit (Lit.int .i64 z) := by trivial
  have hnc : z ∉ l := by simpa using hc
  refine ⟨w', hrun, ⟨_, hown, h2.put hk _, ?_, ?_, ?_⟩, hg⟩
  · rw [Maps.size_put h2, h4, hc]; simp [h3]
  · intro y
    by_cases e : y = z
    · subst e; rw [Maps.has_put_same h2.isMap hk]; simp
    · rw [Maps.has_put_other (by simpa using e), h4]; simp [e]
  · intro y hy
    by_cases e : y = z
    · subst e
      rw [Maps.atKey_put_same h2.isMap hk, hv]
      unfold cnum
      rw [List.idxOf_append, if_neg hnc]
      simp
    · have hyl : l.contains y = true := by simpa [e] using hy
      rw [Maps.atKey_put_other (by simpa using e), h5 y hyl]
      unfold cnum
      rw [List.idxOf_append, if_pos (by simpa using hyl)]

end Go.Proofs.Ytpliamckapkhmaa

namespace Go.Proofs.Ytpliamckapkhmaa
open Go.RowKit

theorem info_int : (Try.prog.info? 3).map (fun i => (i.zero, i.size, i.bytes)) = some (some (.int .i64 0), 1, 8) := by kernel_rfl

theorem wf_small {z : Int} (h1 : -1000000 ≤ z) (h2 : z ≤ 1000000) : (Lit.int .i64 z).wf = true := by
  have e1 : IntKind.i64.min = -9223372036854775808 := by decide
  have e2 : IntKind.i64.max = 9223372036854775807 := by decide
  simp only [Lit.wf, e1, e2, Bool.and_eq_true, decide_eq_true_eq]
  omega

end Go.Proofs.Ytpliamckapkhmaa
