/- Contract: Compose. -/
import Derived.Test.YtippmpcaongolaaN13g
import Derived.Test.YtippmpcaongolaaB4g
/- Words: rows of binds that grow; contracts: the reference's SameBinds, Compose. -/
namespace Go.Proofs.Ytippmpcaongolaa
open Go.RowKit

theorem info_bind : (Try.prog.info? 92).map (fun i => (i.zero, i.size, i.bytes)) = some (some (.agg #[.int .i64 0, .slice none 0 0]), 2, 32) := by kernel_rfl
/-- The cells of binds. -/
def flatB : List Hd → List Bd → List Value
  | h :: ls, x :: bb => .int .i64 x.1 :: .slice h.1 h.2.1 h.2.2 :: flatB ls bb
  | _, _ => []
theorem flatB_snoc : ∀ (ls : List Hd) (bb : List Bd) (h : Hd) (x : Bd), ls.length = bb.length → flatB (ls ++ [h]) (bb ++ [x]) = flatB ls bb ++ [.int .i64 x.1, .slice h.1 h.2.1 h.2.2]
  | [], [], _, _, _ => rfl
  | [], _ :: _, _, _, h => by simp at h
  | _ :: _, [], _, _, h => by simp at h
  | y :: ls, z :: bb, h, x, e => by
    simp only [List.cons_append, flatB]
    rw [flatB_snoc ls bb h x (by simpa using e)]
theorem flatB_get : ∀ (ls : List Hd) (bb : List Bd) (j : Nat) (h : j < ls.length) (h' : j < bb.length), (flatB ls bb)[j * 2]? = some (.int .i64 bb[j].1) ∧ (flatB ls bb)[j * 2 + 1]? = some (.slice ls[j].1 ls[j].2.1 ls[j].2.2)
  | [], _, _, h, _ => by simp at h
  | _ :: _, [], _, _, h => by simp at h
  | y :: ls, z :: bb, 0, _, _ => ⟨rfl, rfl⟩
  | y :: ls, z :: bb, j + 1, h, h' => by
    have := flatB_get ls bb j (by simpa using h) (by simpa using h')
    simp only [flatB, List.getElem_cons_succ]
    rw [show (j + 1) * 2 = j * 2 + 1 + 1 from by omega]
    simpa using this

/-- A row of the call's own, of binds: the blocks of their terms are not the row's. -/
structure BRowAt (w : World) (base : Nat) (v : Value) (k : Nat) (ls : List Hd) (bb : List Bd) : Prop where
  row : w.ownsRow base 92 2 v k (flatB ls bb)
  ll : ls.length = k
  bl : bb.length = k
  each : ∀ j (h : j < ls.length) (h' : j < bb.length), IntsBut w v.ownBlock ls[j].1 ls[j].2.1 bb[j].2
theorem BRowAt.nil (w : World) (base : Nat) : BRowAt w base (.slice none 0 0) 0 [] [] := ⟨World.ownsRow_nil _ _ _ _, rfl, rfl, fun j hj => by simp at hj⟩
theorem BRowAt.below {w w' : World} {base k : Nat} {v : Value} {ls : List Hd} {bb : List Bd} (h : BRowAt w base v k ls bb) (hb : Below w.heap.size w w') : BRowAt w' base v k ls bb :=
  ⟨row_below h.row hb, h.ll, h.bl, fun j a b => (h.each j a b).below hb⟩
theorem BRowAt.push {w w' : World} {base k : Nat} {v v' : Value} {ls : List Hd} {bb : List Bd} {x : Hd} {t : Bd} (h : BRowAt w base v k ls bb) (hx : IntsBut w v.ownBlock x.1 x.2.1 t.2)
    (hrow : w'.ownsRow base 92 2 v' (k + 1) (flatB ls bb ++ [.int .i64 t.1, .slice x.1 x.2.1 x.2.2])) (hg : w.grownBy w' v.ownBlock) (hv : v'.ownBlock = v.ownBlock ∨ v'.ownBlock = some w.heap.size) : BRowAt w' base v' (k + 1) (ls ++ [x]) (bb ++ [t]) := by
  have hll := h.ll
  have hlt := h.bl
  refine ⟨by rw [flatB_snoc _ _ _ _ (by omega)]; exact hrow, by simp [hll], by simp [hlt], fun j a b => ?_⟩
  by_cases hj : j < k
  · rw [List.getElem_append_left (by omega), List.getElem_append_left (by omega)]
    exact (h.each j (by omega) (by omega)).grown hg hv
  · have : j = k := by simp at a; omega
    subst this
    rw [List.getElem_append_right (by omega), List.getElem_append_right (by omega)]
    simp only [hll, hlt, Nat.sub_self, List.getElem_cons_zero]
    exact hx.grown hg hv
theorem BRowAt.binds {w : World} {base k : Nat} {v : Value} {ls : List Hd} {bb : List Bd} (h : BRowAt w base v k ls bb) (hk : k ≤ 1000000) : ∃ A c, v = .slice A k c ∧ BindsAt w w.heap.size A k ls bb := by
  have hll := h.ll
  have hbl := h.bl
  obtain ⟨hl, ⟨rfl, rfl⟩ | ⟨g, cap, cur, rfl, hbg, hcur, hn1, hn2, hsz, htk⟩⟩ := h.row
  · have e1 : ls = [] := List.eq_nil_of_length_eq_zero hll
    have e2 : bb = [] := List.eq_nil_of_length_eq_zero hbl
    subst e1
    subst e2
    exact ⟨none, 0, rfl, ⟨rfl, rfl, by omega, fun h => absurd h (by omega), fun j hj => by simp at hj⟩⟩
  · refine ⟨some ⟨g, 0, none⟩, cap, rfl, ⟨hbl.symm, hll.symm, by omega, fun _ => ⟨g, 0, rfl, Blk.lt (t := 92) hcur, fun j hj hj' => ?_⟩, fun j a b => (h.each j a b).ints⟩⟩
    have hf := flatB_get ls bb j hj' hj
    have key : ∀ i, i < k * 2 → cur[i]? = (flatB ls bb)[i]? := by
      intro i hi
      rw [← htk, List.getElem?_take, if_pos hi, Array.getElem?_toList]
    refine ⟨?_, ?_⟩
    · rw [Blk.cell (t := 92) hcur, Nat.zero_add, key _ (by omega)]
      exact hf.1
    · rw [Blk.cell (t := 92) hcur, Nat.zero_add, key _ (by omega)]
      exact hf.2

theorem BindsAt.none (w : World) (B : Nat) : BindsAt w B none 0 [] [] := ⟨rfl, rfl, by omega, fun h => absurd h (by omega), fun j hj => by simp at hj⟩

end Go.Proofs.Ytippmpcaongolaa

/- Contract: the reference's Compose. -/
namespace Go.Proofs.Ytippmpcaongolaa
open Go.RowKit

theorem LongTo.more {bb mm : List Bd} {k : Nat} (h : 60 < (appl mm (ofB bb (k : Int))).length) (hk : k < 12) : LongTo bb mm 12 := ⟨k, hk, h⟩
theorem blk_nx (w : World) (o : Obj) (k : Nat) (T : TypeId) (cs : Array Value) : Blk (((w.alloc o).drewN k).alloc (.cells cs T)) (w.heap.size + 1) T cs := by
  have := Blk.new ((w.alloc o).drewN k) T cs
  rw [show ((w.alloc o).drewN k).heap.size = w.heap.size + 1 from World.size_alloc w o] at this
  exact this

end Go.Proofs.Ytippmpcaongolaa

/- Contracts: bound, Compose. -/
namespace Go.Proofs.Ytippmpcaongolaa
open Go.RowKit Go.Shelf
attribute [local go_sem] Oper.semAt_some

theorem row_cells2 {w : World} {base : Nat} {e : TypeId} {size : Nat} {v : Value} {n : Nat} {xs : List Value} (h : w.ownsRow base e size v n xs) {g : Nat} (hg : v.ownBlock = some g) : ∃ cs, w.heap[g]? = some (.cells cs e (0, 0)) := by
  obtain ⟨_, ⟨rfl, _⟩ | ⟨g', cap, cur, rfl, _, hcur, _⟩⟩ := h
  · cases hg
  · cases hg; exact ⟨cur, hcur⟩
theorem keeps_grown2 {W W' : World} {row : Option Nat} (hg : W.grownBy W' row) (hr : ∀ r, row = some r → ∃ cs t z, W.heap[r]? = some (.cells cs t z)) : KeepsOthers W W' :=
  ⟨hg.size, fun k o hk ho => by
    refine (hg.block k (Array.getElem?_eq_some_iff.1 hk).1 fun e => ?_).trans hk
    obtain ⟨cs, t, z, h1⟩ := hr k e.symm
    rw [h1] at hk
    cases hk
    cases ho⟩
theorem BRowAt.kept {W W' : World} {base k : Nat} {v : Value} {ls : List Hd} {bb : List Bd} {row : Option Nat} (h : BRowAt W base v k ls bb) (hg : W.grownBy W' row) (hr : ∀ r, row = some r → ∃ o : Obj, W.heap[r]? = some o ∧ o.isCells = false) : BRowAt W' base v k ls bb := by
  refine ⟨h.row.kept hg ?_, h.ll, h.bl, fun j a b => ?_⟩
  · cases e : v.ownBlock with
    | none => exact .inl rfl
    | some g =>
      refine .inr fun e2 => ?_
      obtain ⟨cs, hcs⟩ := row_cells2 h.row e
      obtain ⟨o, ho, hc⟩ := hr g e2.symm
      rw [hcs] at ho
      cases ho
      cases hc
  · have hx := h.each j a b
    refine ⟨hx.len, hx.max, fun hn => ?_⟩
    obtain ⟨b', off, e, hb, hne, hc⟩ := hx.mem hn
    exact ⟨b', off, e, Nat.lt_of_lt_of_le hb hg.size, hne, fun j hj => cell_kept (hc j hj) hg hr⟩
theorem grown_comp {A B C : World} {row : Option Nat} (h : Below A.heap.size A B) (g : B.grownBy C row) : A.grownBy C row :=
  ⟨g.os.trans h.os, g.tape.trans h.tape, g.output.trans h.output, Nat.le_trans h.size g.size, fun k hk hr => (g.block k (Nat.lt_of_lt_of_le hk h.size) hr).trans (h.block k hk)⟩
theorem grown_row {A B : World} (row : Option Nat) (h : Below A.heap.size A B) : A.grownBy B row := ⟨h.os, h.tape, h.output, h.size, fun k hk _ => h.block k hk⟩

set_option maxRecDepth 100000 in
set_option maxHeartbeats 2000000 in
theorem bound_any (Av A4 : Option Addr) (L cv m c4 base : Nat) (v : Int) (lr : List Hd) (cc : List Bd) (ts : List Int) (w : World) (hr : BRowAt w base (.slice Av L cv) L lr cc) (ht : IntsBut w (Value.slice Av L cv).ownBlock A4 m ts) (hL : L ≤ 12) (hbase : base ≤ w.heap.size) (h0 : 0 ≤ v) (h1 : v < 12) :
    Calls Try.prog 116 #[.slice Av L cv, .int .i64 v, .slice A4 m c4] w fun e w' => ∃ A7 L7 c7 l7, e = .returned (.slice A7 L7 c7) ∧ BRowAt w' base (.slice A7 L7 c7) L7 l7 (cc ++ if ts = [-v - 1] then [] else [(v, ts)]) ∧ L7 ≤ L + 1 ∧ w.grownBy w' (Value.slice Av L cv).ownBlock := by
  obtain ⟨i0, hi, hz0, hz1, hz2⟩ := info_parts info_bind
  have CVAR := Lib.hid (variable_any v w (by omega) (by omega))
  have hB1 : Below w.heap.size w (w.alloc (.cells #[.int .i64 (-v - 1)] 3)) := bel_al (Below.refl _ _) _
  have CEQ := Lib.hid (eqT_any A4 (some ⟨w.heap.size, 0, none⟩) m c4 1 1 ts [-v - 1] _ _ (ht.below hB1).ints (ints_var w _))
  have HR := Lib.hid hr
  have HT := Lib.hid ht
  have HB1 := Lib.hid hB1
  by_cases hq : ts = [-v - 1]
  · have HQ := Lib.hid (show decide (ts = [-v - 1]) = true from decide_eq_true hq)
    rw [if_pos hq, List.append_nil]
    clear hr ht hB1 hq
    go_enter Try.func116, Try.ntmps116
    go_wp2_with (first
      | (go_at_call 121; ((with_reducible refine CVAR.out.mono ?_); rintro e w1 ⟨rfl, rfl⟩))
      | (go_at_call 71; refine CEQ.out.mono ?_; rintro e w2 ⟨rfl, j2, rfl⟩; rw [HQ.out]; have HB2 := Lib.hid (below_drewN HB1.out j2)))
    go_ret
    exact ⟨_, _, _, lr, rfl, HR.out.below HB2.out, by omega, grown_row _ HB2.out⟩
  · have HQ := Lib.hid (show decide (ts = [-v - 1]) = false from decide_eq_false hq)
    rw [if_neg hq]
    clear hr ht hB1 hq
    go_enter Try.func116, Try.ntmps116
    go_wp2_with (first
      | (go_at_call 121; ((with_reducible refine CVAR.out.mono ?_); rintro e w1 ⟨rfl, rfl⟩))
      | (go_at_call 71; refine CEQ.out.mono ?_; rintro e w2 ⟨rfl, j2, rfl⟩; rw [HQ.out]; have HB6 := Lib.hid (bel_al (below_drewN HB1.out j2) (.cells #[.int .i64 v, .slice A4 m c4] 92)); have HI6 := Lib.hid (HT.out.below HB6.out))
      | (at_builtin
         refine wpList_append_own_at _ rfl _ _ 28 rfl base 92 i0 _ 2 32 Try.underlying28 hi hz0 hz1 hz2 rfl (by omega) (.slice Av L cv) L (flatB lr cc) rfl (HR.out.below HB6.out).row ⟨w.heap.size + 1, 0, none⟩ 1 1 [.int .i64 v, .slice A4 m c4] rfl rfl
           ?_ (by simp [Value.oneCell']) (by unfold maxLen; omega) (by omega) (Nat.le_trans hbase HB6.out.size) ?_
         · exact World.news_of_block (cs := #[.int .i64 v, .slice A4 m c4]) (t := 92) (fr := (0, 0)) (blk_nx w _ j2 _ _)
         intro v7 w7 hown7 hg7 _ hv7
         have hrow7 := (HR.out.below HB6.out).push (x := (A4, m, c4)) (t := (v, ts)) HI6.out hown7 hg7 hv7
         obtain ⟨A7, c7, e7, _⟩ := hrow7.binds (by omega)
         subst e7
         have HROW7 := Lib.hid hrow7
         have HG7 := Lib.hid (grown_comp HB6.out hg7)
         clear hrow7 hown7 hg7 hv7))
    go_ret
    exact ⟨_, _, _, _, rfl, HROW7.out, by omega, HG7.out⟩

end Go.Proofs.Ytippmpcaongolaa

namespace Go.Proofs.Ytippmpcaongolaa
open Go.RowKit Go.Shelf
attribute [local go_sem] Oper.semAt_some

/-- What the rounds of Compose keep. -/
def IComp (w : World) (d : Nat) (Ab Am : Option Addr) (nb cb nm cm : Nat) (bb mm : List Bd) (k : Nat) (W : World) : Prop :=
  ∃ (Av : Option Addr) (cv L : Nat) (lr : List Hd) (cc : List Bd), Blk W (d + 1) 28 #[.slice Av L cv] ∧ BRowAt W d (.slice Av L cv) L lr cc ∧ cc = compTo bb mm k ∧
    (Blk W w.heap.size 28 #[.slice Am nm cm] ∧ Blk W (w.heap.size + 1) 28 #[.slice none 0 0] ∧ Blk W (w.heap.size + 1 + 1) 29 #[.int .i64 0] ∧ Blk W (d + 1 + 1) 28 #[.slice Ab nb cb]) ∧ ¬ LongTo bb mm k ∧ Below w.heap.size w W
theorem IComp.own {w : World} {d B nb cb nm cm : Nat} {Ab Am : Option Addr} {bb mm : List Bd} (hB : w.heap.size ≤ B) : OwnFrom B (IComp w d Ab Am nb cb nm cm bb mm) := by
  rintro k W W' row ⟨Av, cv, L, lr, cc, h1, h2, h3, ⟨h4, h5, h6, h7⟩, h8, h9⟩ hg hr
  have hr' := fun r e => (hr r e).2
  exact ⟨Av, cv, L, lr, cc, (grownBy_keeps_cells hg hr' h1 rfl).trans h1, h2.kept hg hr', h3, ⟨(grownBy_keeps_cells hg hr' h4 rfl).trans h4, (grownBy_keeps_cells hg hr' h5 rfl).trans h5, (grownBy_keeps_cells hg hr' h6 rfl).trans h6, (grownBy_keeps_cells hg hr' h7 rfl).trans h7⟩, h8, below_grown h9 hg hr hB⟩
def XComp (w : World) (CZ : List Bd × Int) (W : World) : Prop := CZ = ([], 4) ∧ Blk W (w.heap.size + 1) 28 #[.slice none 0 0] ∧ Blk W (w.heap.size + 1 + 1) 29 #[.int .i64 4] ∧ Below w.heap.size w W
theorem XComp.own {w : World} {B : Nat} {CZ : List Bd × Int} (hB : w.heap.size ≤ B) : OwnFrom B (fun (_ : Unit) W => XComp w CZ W) := by
  rintro _ W W' row ⟨h0, h4, h5, h7⟩ hg hr
  have hr' := fun r e => (hr r e).2
  exact ⟨h0, (grownBy_keeps_cells hg hr' h4 rfl).trans h4, (grownBy_keeps_cells hg hr' h5 rfl).trans h5, below_grown h7 hg hr hB⟩

end Go.Proofs.Ytippmpcaongolaa
