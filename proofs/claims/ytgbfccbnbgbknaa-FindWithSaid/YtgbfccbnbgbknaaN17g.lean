/- Contract: Compose. -/
import Derived.Test.YtgbfccbnbgbknaaN15g
/- Contracts: bound, Compose. -/
namespace Go.Proofs.Ytgbfccbnbgbknaa
open Go.RowKit Go.Shelf
attribute [local go_sem] Oper.semAt_some

theorem row_cells2 {w : World} {base : Nat} {e : TypeId} {size : Nat} {v : Value} {n : Nat} {xs : List Value} (h : w.ownsRow base e size v n xs) {g : Nat} (hg : v.ownBlock = some g) : ∃ cs, w.heap[g]? = some (.cells cs e (0, 0)) := by
  obtain ⟨_, ⟨rfl, _⟩ | ⟨g', cap, cur, rfl, _, hcur, _⟩⟩ := h
  · cases hg
  · cases hg; exact ⟨cur, hcur⟩
theorem row_not {w : World} {base d : Nat} {e T : TypeId} {size : Nat} {v : Value} {n : Nat} {xs : List Value} {cs : Array Value} (h : w.ownsRow base e size v n xs) (hk : Blk w d T cs) (hT : T ≠ e) : some d ≠ v.ownBlock := fun e1 => by
  obtain ⟨cs', h1⟩ := row_cells2 h e1.symm
  rw [show w.heap[d]? = _ from hk] at h1
  cases h1
  exact hT rfl
theorem keeps_grown2 {W W' : World} {row : Option Nat} (hg : W.grownBy W' row) (hr : ∀ r, row = some r → ∃ cs t z, W.heap[r]? = some (.cells cs t z)) : KeepsOthers W W' :=
  ⟨hg.size, fun k o hk ho => by
    refine (hg.block k (Array.getElem?_eq_some_iff.1 hk).1 fun e => ?_).trans hk
    obtain ⟨cs, t, z, h1⟩ := hr k e.symm
    rw [h1] at hk
    cases hk
    cases ho⟩
theorem results_cells2 {fn : Func} {p q : Tmp} {ty tz : TypeId} (h : fn.results = #[.cell p ty, .cell q tz]) (tmps : Array Value) (P : Program) (w : World) :
    (results fn tmps).run P w = ((asAddr (tmps.getD p undef)).run P w).andThen fun a w₁ => ((loadVar ty a).run P w₁).andThen fun v w₂ => ((asAddr (tmps.getD q undef)).run P w₂).andThen fun b w₃ => ((loadVar tz b).run P w₃).andThen fun u w₄ => .ok (.tuple #[v, u]) w₄ := by
  simp only [results, h]
  simp [Sem.run_bind, Result.andThen]
theorem but_set_blk {W : World} {d j n : Nat} {T : TypeId} {A' : Option Addr} {n' c' : Nat} {g : Option Nat} {A : Option Addr} {t : List Int} {v : Value} (hk : Blk W d T #[.slice A' n' c']) (h : IntsBut W g A n t) : IntsBut (W.setCell ⟨d, j, none⟩ v) g A n t := by
  refine ⟨h.len, h.max, fun hn => ?_⟩
  obtain ⟨b, off, e, hb, hne, hc⟩ := h.mem hn
  refine ⟨b, off, e, by simpa using hb, hne, fun i hi => (World.cell?_setCell_other W ⟨d, j, none⟩ ⟨b, off + i, none⟩ v (fun e2 => ?_)).trans (hc i hi)⟩
  have e3 : b = d := by cases e2; rfl
  subst e3
  have h1 := hc i hi
  rw [hk.cell] at h1
  cases hoi : off + i with
  | zero => rw [hoi] at h1; simp at h1
  | succ m => rw [hoi] at h1; simp at h1
theorem BRowAt.set_blk {W : World} {d j base k : Nat} {v u : Value} {ls : List Hd} {bb : List Bd} {T : TypeId} {A' : Option Addr} {n' c' : Nat} (h : BRowAt W base v k ls bb) (hk : Blk W d T #[.slice A' n' c']) (hT : T ≠ 81) : BRowAt (W.setCell ⟨d, j, none⟩ u) base v k ls bb := by
  have hg : W.grownBy (W.setCell ⟨d, j, none⟩ u) (some d) := ⟨rfl, rfl, rfl, by simp, fun k _ hk => heap_setCell_other W ⟨d, j, none⟩ k u (fun e => hk (by rw [e]))⟩
  exact ⟨h.row.kept hg (.inr fun e => row_not h.row hk hT e.symm), h.ll, h.bl, fun j a b => but_set_blk hk (h.each j a b)⟩
theorem BRowAt.kept {W W' : World} {base k : Nat} {v : Value} {ls : List Hd} {bb : List Bd} {row : Option Nat} (h : BRowAt W base v k ls bb) (hg : W.grownBy W' row) (hr : ∀ r, row = some r → ∃ o : Obj, W.heap[r]? = some o ∧ o.isCells = false) : BRowAt W' base v k ls bb := by
  refine ⟨h.row.kept hg ?_, h.ll, h.bl, fun j a b => ?_⟩
  · cases e : v.ownBlock with
    | none => exact .inl rfl
    | some g =>
      refine .inr fun e2 => ?_
      obtain ⟨cs, hcs⟩ := row_cells2 h.row e
      obtain ⟨o, ho, hc⟩ := hr g e2.symm
      rw [hcs] at ho
      cases ho
      cases hc
  · have hx := h.each j a b
    refine ⟨hx.len, hx.max, fun hn => ?_⟩
    obtain ⟨b', off, e, hb, hne, hc⟩ := hx.mem hn
    exact ⟨b', off, e, Nat.lt_of_lt_of_le hb hg.size, hne, fun j hj => cell_kept (hc j hj) hg hr⟩
theorem grown_comp {A B C : World} {row : Option Nat} (h : Below A.heap.size A B) (g : B.grownBy C row) : A.grownBy C row :=
  ⟨g.os.trans h.os, g.tape.trans h.tape, g.output.trans h.output, Nat.le_trans h.size g.size, fun k hk hr => (g.block k (Nat.lt_of_lt_of_le hk h.size) hr).trans (h.block k hk)⟩
theorem grown_row {A B : World} (row : Option Nat) (h : Below A.heap.size A B) : A.grownBy B row := ⟨h.os, h.tape, h.output, h.size, fun k hk _ => h.block k hk⟩

set_option maxRecDepth 100000 in
set_option maxHeartbeats 2000000 in
theorem bound_any (Av A4 : Option Addr) (L cv m c4 base : Nat) (v : Int) (lr : List Hd) (cc : List Bd) (ts : List Int) (w : World) (hr : BRowAt w base (.slice Av L cv) L lr cc) (ht : IntsBut w (Value.slice Av L cv).ownBlock A4 m ts) (hL : L ≤ 12) (hbase : base ≤ w.heap.size) (h0 : 0 ≤ v) (h1 : v < 12) :
    Calls Try.prog 177 #[.slice Av L cv, .int .i64 v, .slice A4 m c4] w fun e w' => ∃ A7 L7 c7 l7, e = .returned (.slice A7 L7 c7) ∧ BRowAt w' base (.slice A7 L7 c7) L7 l7 (cc ++ if ts = [-v - 1] then [] else [(v, ts)]) ∧ L7 ≤ L + 1 ∧ w.grownBy w' (Value.slice Av L cv).ownBlock := by
  obtain ⟨i0, hi, hz0, hz1, hz2⟩ := info_parts info_bind
  have CVAR := Lib.hid (variable_any v w (by omega) (by omega))
  have hB1 : Below w.heap.size w (w.alloc (.cells #[.int .i64 (-v - 1)] 3)) := bel_al (Below.refl _ _) _
  have CEQ := Lib.hid (eqT_any A4 (some ⟨w.heap.size, 0, none⟩) m c4 1 1 ts [-v - 1] _ _ (ht.below hB1).ints (ints_var w _))
  have HR := Lib.hid hr
  have HT := Lib.hid ht
  have HB1 := Lib.hid hB1
  by_cases hq : ts = [-v - 1]
  · have HQ := Lib.hid (show decide (ts = [-v - 1]) = true from decide_eq_true hq)
    rw [if_pos hq, List.append_nil]
    clear hr ht hB1 hq
    go_enter Try.func177, Try.ntmps177
    go_wp2_with (first
      | (go_at_call 107; ((with_reducible refine CVAR.out.mono ?_); rintro e w1 ⟨rfl, rfl⟩))
      | (go_at_call 103; refine CEQ.out.mono ?_; rintro e w2 ⟨rfl, j2, rfl⟩; rw [HQ.out]; have HB2 := Lib.hid (below_drewN HB1.out j2)))
    go_ret
    exact ⟨_, _, _, lr, rfl, HR.out.below HB2.out, by omega, grown_row _ HB2.out⟩
  · have HQ := Lib.hid (show decide (ts = [-v - 1]) = false from decide_eq_false hq)
    rw [if_neg hq]
    clear hr ht hB1 hq
    go_enter Try.func177, Try.ntmps177
    go_wp2_with (first
      | (go_at_call 107; ((with_reducible refine CVAR.out.mono ?_); rintro e w1 ⟨rfl, rfl⟩))
      | (go_at_call 103; refine CEQ.out.mono ?_; rintro e w2 ⟨rfl, j2, rfl⟩; rw [HQ.out]; have HB6 := Lib.hid (bel_al (below_drewN HB1.out j2) (.cells #[.int .i64 v, .slice A4 m c4] 81)); have HI6 := Lib.hid (HT.out.below HB6.out))
      | (at_builtin
         refine wpList_append_own_at _ rfl _ _ 34 rfl base 81 i0 _ 2 32 Try.underlying34 hi hz0 hz1 hz2 rfl (by omega) (.slice Av L cv) L (flatB lr cc) rfl (HR.out.below HB6.out).row ⟨w.heap.size + 1, 0, none⟩ 1 1 [.int .i64 v, .slice A4 m c4] rfl rfl
           ?_ (by simp [Value.oneCell']) (by unfold maxLen; omega) (by omega) (Nat.le_trans hbase HB6.out.size) ?_
         · exact World.news_of_block (cs := #[.int .i64 v, .slice A4 m c4]) (t := 81) (fr := (0, 0)) (blk_nx w _ j2 _ _)
         intro v7 w7 hown7 hg7 _ hv7
         have hrow7 := (HR.out.below HB6.out).push (x := (A4, m, c4)) (t := (v, ts)) HI6.out hown7 hg7 hv7
         obtain ⟨A7, c7, e7, _⟩ := hrow7.binds (by omega)
         subst e7
         have HROW7 := Lib.hid hrow7
         have HG7 := Lib.hid (grown_comp HB6.out hg7)
         clear hrow7 hown7 hg7 hv7))
    go_ret
    exact ⟨_, _, _, _, rfl, HROW7.out, by omega, HG7.out⟩

end Go.Proofs.Ytgbfccbnbgbknaa

namespace Go.Proofs.Ytgbfccbnbgbknaa
open Go.RowKit Go.Shelf
attribute [local go_sem] Oper.semAt_some

theorem BRowAt.set_same {W : World} {d base k : Nat} {v u : Value} {ls : List Hd} {bb : List Bd} {T : TypeId} {cs : Array Value} (h : BRowAt W base v k ls bb) (hk : Blk W d T cs) (hT : T ≠ 81) (hc : W.cell? ⟨d, 0, none⟩ = some u) : BRowAt (W.setCell ⟨d, 0, none⟩ u) base v k ls bb := by
  have hg : W.grownBy (W.setCell ⟨d, 0, none⟩ u) (some d) := ⟨rfl, rfl, rfl, by simp, fun k _ hk => heap_setCell_other W ⟨d, 0, none⟩ k u (fun e => hk (by rw [e]))⟩
  refine ⟨h.row.kept hg (.inr fun e => row_not h.row hk hT e.symm), h.ll, h.bl, fun j a b => ?_⟩
  have hx := h.each j a b
  refine ⟨hx.len, hx.max, fun hn => ?_⟩
  obtain ⟨b', off, e, hb, hne, hcc⟩ := hx.mem hn
  refine ⟨b', off, e, by simpa using hb, hne, fun i hi => ?_⟩
  by_cases e2 : (⟨d, 0, none⟩ : Addr) = ⟨b', off + i, none⟩
  · rw [← e2, World.cell?_setCell_same' _ _ _ (by rw [hc]; rfl), ← hc, e2]
    exact hcc i hi
  · exact (World.cell?_setCell_other W ⟨d, 0, none⟩ ⟨b', off + i, none⟩ u e2).trans (hcc i hi)
/-- What the rounds of Compose keep. -/
def IComp (w : World) (d : Nat) (Ab Am : Option Addr) (nb cb nm cm : Nat) (bb mm : List Bd) (k : Nat) (W : World) : Prop :=
  ∃ (Av : Option Addr) (cv L : Nat) (lr : List Hd) (cc : List Bd), Blk W (d + 1) 34 #[.slice Av L cv] ∧ BRowAt W d (.slice Av L cv) L lr cc ∧ cc = compTo bb mm k ∧
    (Blk W w.heap.size 34 #[.slice Am nm cm] ∧ Blk W (w.heap.size + 1) 34 #[.slice none 0 0] ∧ Blk W (w.heap.size + 1 + 1) 28 #[.int .i64 0] ∧ Blk W (d + 1 + 1) 34 #[.slice Ab nb cb]) ∧ ¬ LongTo bb mm k ∧ Below w.heap.size w W
theorem IComp.own {w : World} {d B nb cb nm cm : Nat} {Ab Am : Option Addr} {bb mm : List Bd} (hB : w.heap.size ≤ B) : OwnFrom B (IComp w d Ab Am nb cb nm cm bb mm) := by
  rintro k W W' row ⟨Av, cv, L, lr, cc, h1, h2, h3, ⟨h4, h5, h6, h7⟩, h8, h9⟩ hg hr
  have hr' := fun r e => (hr r e).2
  exact ⟨Av, cv, L, lr, cc, (grownBy_keeps_cells hg hr' h1 rfl).trans h1, h2.kept hg hr', h3, ⟨(grownBy_keeps_cells hg hr' h4 rfl).trans h4, (grownBy_keeps_cells hg hr' h5 rfl).trans h5, (grownBy_keeps_cells hg hr' h6 rfl).trans h6, (grownBy_keeps_cells hg hr' h7 rfl).trans h7⟩, h8, below_grown h9 hg hr hB⟩
def XComp (w : World) (CZ : List Bd × Int) (W : World) : Prop := CZ = ([], 4) ∧ Blk W (w.heap.size + 1) 34 #[.slice none 0 0] ∧ Blk W (w.heap.size + 1 + 1) 28 #[.int .i64 4] ∧ Below w.heap.size w W
theorem XComp.own {w : World} {B : Nat} {CZ : List Bd × Int} (hB : w.heap.size ≤ B) : OwnFrom B (fun (_ : Unit) W => XComp w CZ W) := by
  rintro _ W W' row ⟨h0, h4, h5, h7⟩ hg hr
  have hr' := fun r e => (hr r e).2
  exact ⟨h0, (grownBy_keeps_cells hg hr' h4 rfl).trans h4, (grownBy_keeps_cells hg hr' h5 rfl).trans h5, below_grown h7 hg hr hB⟩

end Go.Proofs.Ytgbfccbnbgbknaa
