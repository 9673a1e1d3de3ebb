/- Contract: the reference's Compose. -/
import Derived.Test.YtgbfccbnbgbknaaN13g
import Derived.Test.YtgbfccbnbgbknaaB4g
/- Words: rows of binds that grow; contracts: the reference's SameBinds, Compose. -/
namespace Go.Proofs.Ytgbfccbnbgbknaa
open Go.RowKit

theorem info_bind : (Try.prog.info? 81).map (fun i => (i.zero, i.size, i.bytes)) = some (some (.agg #[.int .i64 0, .slice none 0 0]), 2, 32) := by kernel_rfl
/-- The cells of binds. -/
def flatB : List Hd → List Bd → List Value
  | h :: ls, x :: bb => .int .i64 x.1 :: .slice h.1 h.2.1 h.2.2 :: flatB ls bb
  | _, _ => []
theorem flatB_len : ∀ (ls : List Hd) (bb : List Bd), ls.length = bb.length → (flatB ls bb).length = 2 * bb.length
  | [], [], _ => rfl
  | [], _ :: _, h => by simp at h
  | _ :: _, [], h => by simp at h
  | h :: ls, x :: bb, e => by simp only [flatB, List.length_cons]; rw [flatB_len ls bb (by simpa using e)]; omega
theorem flatB_snoc : ∀ (ls : List Hd) (bb : List Bd) (h : Hd) (x : Bd), ls.length = bb.length → flatB (ls ++ [h]) (bb ++ [x]) = flatB ls bb ++ [.int .i64 x.1, .slice h.1 h.2.1 h.2.2]
  | [], [], _, _, _ => rfl
  | [], _ :: _, _, _, h => by simp at h
  | _ :: _, [], _, _, h => by simp at h
  | y :: ls, z :: bb, h, x, e => by
    simp only [List.cons_append, flatB]
    rw [flatB_snoc ls bb h x (by simpa using e)]
theorem flatB_get : ∀ (ls : List Hd) (bb : List Bd) (j : Nat) (h : j < ls.length) (h' : j < bb.length), (flatB ls bb)[j * 2]? = some (.int .i64 bb[j].1) ∧ (flatB ls bb)[j * 2 + 1]? = some (.slice ls[j].1 ls[j].2.1 ls[j].2.2)
  | [], _, _, h, _ => by simp at h
  | _ :: _, [], _, _, h => by simp at h
  | y :: ls, z :: bb, 0, _, _ => ⟨rfl, rfl⟩
  | y :: ls, z :: bb, j + 1, h, h' => by
    have := flatB_get ls bb j (by simpa using h) (by simpa using h')
    simp only [flatB, List.getElem_cons_succ]
    rw [show (j + 1) * 2 = j * 2 + 1 + 1 from by omega]
    simpa using this

/-- A row of the call's own, of binds: the blocks of their terms are not the row's. -/
structure BRowAt (w : World) (base : Nat) (v : Value) (k : Nat) (ls : List Hd) (bb : List Bd) : Prop where
  row : w.ownsRow base 81 2 v k (flatB ls bb)
  ll : ls.length = k
  bl : bb.length = k
  each : ∀ j (h : j < ls.length) (h' : j < bb.length), IntsBut w v.ownBlock ls[j].1 ls[j].2.1 bb[j].2
theorem BRowAt.nil (w : World) (base : Nat) : BRowAt w base (.slice none 0 0) 0 [] [] := ⟨World.ownsRow_nil _ _ _ _, rfl, rfl, fun j hj => by simp at hj⟩
theorem BRowAt.below {w w' : World} {base k : Nat} {v : Value} {ls : List Hd} {bb : List Bd} (h : BRowAt w base v k ls bb) (hb : Below w.heap.size w w') : BRowAt w' base v k ls bb :=
  ⟨row_below h.row hb, h.ll, h.bl, fun j a b => (h.each j a b).below hb⟩
theorem BRowAt.push {w w' : World} {base k : Nat} {v v' : Value} {ls : List Hd} {bb : List Bd} {x : Hd} {t : Bd} (h : BRowAt w base v k ls bb) (hx : IntsBut w v.ownBlock x.1 x.2.1 t.2)
    (hrow : w'.ownsRow base 81 2 v' (k + 1) (flatB ls bb ++ [.int .i64 t.1, .slice x.1 x.2.1 x.2.2])) (hg : w.grownBy w' v.ownBlock) (hv : v'.ownBlock = v.ownBlock ∨ v'.ownBlock = some w.heap.size) : BRowAt w' base v' (k + 1) (ls ++ [x]) (bb ++ [t]) := by
  have hll := h.ll
  have hlt := h.bl
  refine ⟨by rw [flatB_snoc _ _ _ _ (by omega)]; exact hrow, by simp [hll], by simp [hlt], fun j a b => ?_⟩
  by_cases hj : j < k
  · rw [List.getElem_append_left (by omega), List.getElem_append_left (by omega)]
    exact (h.each j (by omega) (by omega)).grown hg hv
  · have : j = k := by simp at a; omega
    subst this
    rw [List.getElem_append_right (by omega), List.getElem_append_right (by omega)]
    simp only [hll, hlt, Nat.sub_self, List.getElem_cons_zero]
    exact hx.grown hg hv
theorem BRowAt.binds {w : World} {base k : Nat} {v : Value} {ls : List Hd} {bb : List Bd} (h : BRowAt w base v k ls bb) (hk : k ≤ 1000000) : ∃ A c, v = .slice A k c ∧ BindsAt w w.heap.size A k ls bb := by
  have hll := h.ll
  have hbl := h.bl
  obtain ⟨hl, ⟨rfl, rfl⟩ | ⟨g, cap, cur, rfl, hbg, hcur, hn1, hn2, hsz, htk⟩⟩ := h.row
  · have e1 : ls = [] := List.eq_nil_of_length_eq_zero hll
    have e2 : bb = [] := List.eq_nil_of_length_eq_zero hbl
    subst e1
    subst e2
    exact ⟨none, 0, rfl, ⟨rfl, rfl, by omega, fun h => absurd h (by omega), fun j hj => by simp at hj⟩⟩
  · refine ⟨some ⟨g, 0, none⟩, cap, rfl, ⟨hbl.symm, hll.symm, by omega, fun _ => ⟨g, 0, rfl, Blk.lt (t := 81) hcur, fun j hj hj' => ?_⟩, fun j a b => (h.each j a b).ints⟩⟩
    have hf := flatB_get ls bb j hj' hj
    have key : ∀ i, i < k * 2 → cur[i]? = (flatB ls bb)[i]? := by
      intro i hi
      rw [← htk, List.getElem?_take, if_pos hi, Array.getElem?_toList]
    refine ⟨?_, ?_⟩
    · rw [Blk.cell (t := 81) hcur, Nat.zero_add, key _ (by omega)]
      exact hf.1
    · rw [Blk.cell (t := 81) hcur, Nat.zero_add, key _ (by omega)]
      exact hf.2

set_option maxRecDepth 100000 in
set_option maxHeartbeats 2000000 in
theorem sameBinds_self (A A2 : Option Addr) (n c n2 c2 : Nat) (ls ls2 : List Hd) (bb : List Bd) (w : World) (B : Nat) (hx : BindsAt w B A n ls bb) (hy : BindsAt w B A2 n2 ls2 bb) :
    Calls Try.prog 41 #[.slice A n c, .slice A2 n2 c2] w fun e w' => e = .returned (.bool true) ∧ ∃ k, w' = w.drewN k := by
  have hlx := hx.len
  have hly := hy.len
  have hmx := hx.max
  obtain rfl : n = n2 := by omega
  have HX := Lib.hid hx
  have HY := Lib.hid hy
  clear hx hy hlx hly
  have hb : ((n : Int) != (n : Int)) = false := by simp
  go_enter Try.func41, Try.ntmps41
  go_wp2
  go_loopw [5] (fun i wr => ∃ k : Nat, k ≤ n ∧ i = .int .i64 k ∧ ∃ m, wr = w.drewN m) (fun i _ => n - (intOf i).toNat)
  case atStart => exact ⟨0, Nat.zero_le _, rfl, 0, rfl⟩
  case round =>
    obtain ⟨k, hk, rfl, m, hm⟩ := hrel
    have HM := Lib.hid hm
    have hxw : BindsAt wr B A n ls bb := by rw [hm]; exact HX.out.keep fun _ _ => rfl
    have hyw : BindsAt wr B A2 n ls2 bb := by rw [hm]; exact HY.out.keep fun _ _ => rfl
    clear hm
    by_cases hlt : k < n
    · obtain ⟨b, off, v, t, A', n', c', rfl, hbl, q1, q2, e1, e2, hI⟩ := hxw.cellAt hlt
      obtain ⟨b2, off2, v2, t2, A2', n2', c2', rfl, hbl2, p1, p2, f1, f2, hI2⟩ := hyw.cellAt hlt
      rw [e1] at f1
      cases f1
      have hk0 : (0 : Int) ≤ (k : Int) := by omega
      have hk1 : (k : Int) < (n : Int) := by omega
      have hv : (v != v) = false := by simp
      have CS := Lib.hid (fun nq => same_self A' A2' n' c' n2' c2' t (wr.drewN nq) B (hI.keep fun _ _ => rfl) (hI2.keep fun _ _ => rfl))
      clear e1 e2 f2 hI hI2 hxw hyw
      go_wp2_with fail
      go_quiet ((go_at_call 21; with_reducible exact quiet_draw2 (CS.out _)))
      go_wp2
      go_roundw
      case rel => exact ⟨k + 1, by omega, by go_num, _, by rw [HM.out]; exact World.drewN_drewN ..⟩
      case measure => simp [intOf]; omega
    · obtain rfl : k = n := by omega
      clear hxw hyw
      go_wp2
      go_ret
      exact ⟨rfl, m, HM.out⟩

/-- What Compose hands back: the binds and the error. -/
noncomputable def compZ (ss : Sg) (bb mm : List Bd) : List Bd × Int := by
  classical
  exact if (bindsOk ss bb && bindsOk ss mm) = true then (if LongTo bb mm 12 then ([], 4) else (compB bb mm, 0)) else ([], 1)
/-- Binds and an error are returned. -/
def RetB (w : World) (bb : List Bd) (er : Int) (e : Ending) (w' : World) : Prop :=
  ∃ A n c ls, e = .returned (.tuple #[.slice A n c, .int .i64 er]) ∧ BindsAt w' w'.heap.size A n ls bb ∧ Below w.heap.size w w'
theorem BindsAt.none (w : World) (B : Nat) : BindsAt w B none 0 [] [] := ⟨rfl, rfl, by omega, fun h => absurd h (by omega), fun j hj => by simp at hj⟩

end Go.Proofs.Ytgbfccbnbgbknaa

namespace Go.Proofs.Ytgbfccbnbgbknaa
open Go.RowKit

theorem compZ_bad1 {ss : Sg} {bb mm : List Bd} (h : bindsOk ss bb = false) : compZ ss bb mm = ([], 1) := by simp [compZ, h]
theorem compZ_bad2 {ss : Sg} {bb mm : List Bd} (h : bindsOk ss mm = false) : compZ ss bb mm = ([], 1) := by simp [compZ, h]
theorem compZ_long {ss : Sg} {bb mm : List Bd} (h1 : bindsOk ss bb = true) (h2 : bindsOk ss mm = true) (h : LongTo bb mm 12) : compZ ss bb mm = ([], 4) := by simp [compZ, h1, h2, h]
theorem compZ_ok {ss : Sg} {bb mm : List Bd} (h1 : bindsOk ss bb = true) (h2 : bindsOk ss mm = true) (h : ¬ LongTo bb mm 12) : compZ ss bb mm = (compB bb mm, 0) := by simp [compZ, h1, h2, h]
theorem LongTo.more {bb mm : List Bd} {k : Nat} (h : 60 < (appl mm (ofB bb (k : Int))).length) (hk : k < 12) : LongTo bb mm 12 := ⟨k, hk, h⟩
theorem LongTo.not_succ {bb mm : List Bd} {k : Nat} (h : ¬ LongTo bb mm k) (h1 : ¬ 60 < (appl mm (ofB bb (k : Int))).length) : ¬ LongTo bb mm (k + 1) := by
  rintro ⟨v, hv, h2⟩
  by_cases e : v < k
  · exact h ⟨v, e, h2⟩
  · obtain rfl : v = k := by omega
    exact h1 h2

theorem blk_nx (w : World) (o : Obj) (k : Nat) (T : TypeId) (cs : Array Value) : Blk (((w.alloc o).drewN k).alloc (.cells cs T)) (w.heap.size + 1) T cs := by
  have := Blk.new ((w.alloc o).drewN k) T cs
  rw [show ((w.alloc o).drewN k).heap.size = w.heap.size + 1 from World.size_alloc w o] at this
  exact this

end Go.Proofs.Ytgbfccbnbgbknaa
