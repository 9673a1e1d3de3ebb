/- Contract: the reference's Compose. -/
import Derived.Test.YtpliamckapkhmaaN13g
import Derived.Test.YtpliamckapkhmaaB4g
/- Words: rows of binds that grow; contracts: the reference's SameBinds, Compose. -/
namespace Go.Proofs.Ytpliamckapkhmaa
open Go.RowKit

theorem info_bind : (Try.prog.info? 78).map (fun i => (i.zero, i.size, i.bytes)) = some (some (.agg #[.int .i64 0, .slice none 0 0]), 2, 32) := by kernel_rfl
/-- The cells of binds. -/
def flatB : List Hd → List Bd → List Value
  | h :: ls, x :: bb => .int .i64 x.1 :: .slice h.1 h.2.1 h.2.2 :: flatB ls bb
  | _, _ => []
theorem flatB_snoc : ∀ (ls : List Hd) (bb : List Bd) (h : Hd) (x : Bd), ls.length = bb.length → flatB (ls ++ [h]) (bb ++ [x]) = flatB ls bb ++ [.int .i64 x.1, .slice h.1 h.2.1 h.2.2]
  | [], [], _, _, _ => rfl
  | [], _ :: _, _, _, h => by simp at h
  | _ :: _, [], _, _, h => by simp at h
  | y :: ls, z :: bb, h, x, e => by
    simp only [List.cons_append, flatB]
    rw [flatB_snoc ls bb h x (by simpa using e)]
theorem flatB_get : ∀ (ls : List Hd) (bb : List Bd) (j : Nat) (h : j < ls.length) (h' : j < bb.length), (flatB ls bb)[j * 2]? = some (.int .i64 bb[j].1) ∧ (flatB ls bb)[j * 2 + 1]? = some (.slice ls[j].1 ls[j].2.1 ls[j].2.2)
  | [], _, _, h, _ => by simp at h
  | _ :: _, [], _, _, h => by simp at h
  | y :: ls, z :: bb, 0, _, _ => ⟨rfl, rfl⟩
  | y :: ls, z :: bb, j + 1, h, h' => by
    have := flatB_get ls bb j (by simpa using h) (by simpa using h')
    simp only [flatB, List.getElem_cons_succ]
    rw [show (j + 1) * 2 = j * 2 + 1 + 1 from by omega]
    simpa using this

/-- A row of the call's own, of binds: the blocks of their terms are not the row's. -/
structure BRowAt (w : World) (base : Nat) (v : Value) (k : Nat) (ls : List Hd) (bb : List Bd) : Prop where
  row : w.ownsRow base 78 2 v k (flatB ls bb)
  ll : ls.length = k
  bl : bb.length = k
  each : ∀ j (h : j < ls.length) (h' : j < bb.length), IntsBut w v.ownBlock ls[j].1 ls[j].2.1 bb[j].2
theorem BRowAt.nil (w : World) (base : Nat) : BRowAt w base (.slice none 0 0) 0 [] [] := ⟨World.ownsRow_nil _ _ _ _, rfl, rfl, fun j hj => by simp at hj⟩
theorem BRowAt.below {w w' : World} {base k : Nat} {v : Value} {ls : List Hd} {bb : List Bd} (h : BRowAt w base v k ls bb) (hb : Below w.heap.size w w') : BRowAt w' base v k ls bb :=
  ⟨row_below h.row hb, h.ll, h.bl, fun j a b => (h.each j a b).below hb⟩
theorem BRowAt.push {w w' : World} {base k : Nat} {v v' : Value} {ls : List Hd} {bb : List Bd} {x : Hd} {t : Bd} (h : BRowAt w base v k ls bb) (hx : IntsBut w v.ownBlock x.1 x.2.1 t.2)
    (hrow : w'.ownsRow base 78 2 v' (k + 1) (flatB ls bb ++ [.int .i64 t.1, .slice x.1 x.2.1 x.2.2])) (hg : w.grownBy w' v.ownBlock) (hv : v'.ownBlock = v.ownBlock ∨ v'.ownBlock = some w.heap.size) : BRowAt w' base v' (k + 1) (ls ++ [x]) (bb ++ [t]) := by
  have hll := h.ll
  have hlt := h.bl
  refine ⟨by rw [flatB_snoc _ _ _ _ (by omega)]; exact hrow, by simp [hll], by simp [hlt], fun j a b => ?_⟩
  by_cases hj : j < k
  · rw [List.getElem_append_left (by omega), List.getElem_append_left (by omega)]
    exact (h.each j (by omega) (by omega)).grown hg hv
  · have : j = k := by simp at a; omega
    subst this
    rw [List.getElem_append_right (by omega), List.getElem_append_right (by omega)]
    simp only [hll, hlt, Nat.sub_self, List.getElem_cons_zero]
    exact hx.grown hg hv
theorem BRowAt.binds {w : World} {base k : Nat} {v : Value} {ls : List Hd} {bb : List Bd} (h : BRowAt w base v k ls bb) (hk : k ≤ 1000000) : ∃ A c, v = .slice A k c ∧ BindsAt w w.heap.size A k ls bb := by
  have hll := h.ll
  have hbl := h.bl
  obtain ⟨hl, ⟨rfl, rfl⟩ | ⟨g, cap, cur, rfl, hbg, hcur, hn1, hn2, hsz, htk⟩⟩ := h.row
  · have e1 : ls = [] := List.eq_nil_of_length_eq_zero hll
    have e2 : bb = [] := List.eq_nil_of_length_eq_zero hbl
    subst e1
    subst e2
    exact ⟨none, 0, rfl, ⟨rfl, rfl, by omega, fun h => absurd h (by omega), fun j hj => by simp at hj⟩⟩
  · refine ⟨some ⟨g, 0, none⟩, cap, rfl, ⟨hbl.symm, hll.symm, by omega, fun _ => ⟨g, 0, rfl, Blk.lt (t := 78) hcur, fun j hj hj' => ?_⟩, fun j a b => (h.each j a b).ints⟩⟩
    have hf := flatB_get ls bb j hj' hj
    have key : ∀ i, i < k * 2 → cur[i]? = (flatB ls bb)[i]? := by
      intro i hi
      rw [← htk, List.getElem?_take, if_pos hi, Array.getElem?_toList]
    refine ⟨?_, ?_⟩
    · rw [Blk.cell (t := 78) hcur, Nat.zero_add, key _ (by omega)]
      exact hf.1
    · rw [Blk.cell (t := 78) hcur, Nat.zero_add, key _ (by omega)]
      exact hf.2

theorem BindsAt.none (w : World) (B : Nat) : BindsAt w B none 0 [] [] := ⟨rfl, rfl, by omega, fun h => absurd h (by omega), fun j hj => by simp at hj⟩

end Go.Proofs.Ytpliamckapkhmaa

namespace Go.Proofs.Ytpliamckapkhmaa
open Go.RowKit

theorem LongTo.more {bb mm : List Bd} {k : Nat} (h : 60 < (appl mm (ofB bb (k : Int))).length) (hk : k < 12) : LongTo bb mm 12 := ⟨k, hk, h⟩
theorem blk_nx (w : World) (o : Obj) (k : Nat) (T : TypeId) (cs : Array Value) : Blk (((w.alloc o).drewN k).alloc (.cells cs T)) (w.heap.size + 1) T cs := by
  have := Blk.new ((w.alloc o).drewN k) T cs
  rw [show ((w.alloc o).drewN k).heap.size = w.heap.size + 1 from World.size_alloc w o] at this
  exact this

end Go.Proofs.Ytpliamckapkhmaa
