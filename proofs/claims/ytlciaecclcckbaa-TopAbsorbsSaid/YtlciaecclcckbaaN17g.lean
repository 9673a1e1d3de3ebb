/- Contract: Compose. -/
import Derived.Test.YtlciaecclcckbaaN15g
/- Contracts: bound, Compose. -/
namespace Go.Proofs.Ytlciaecclcckbaa
open Go.RowKit Go.Shelf
attribute [local go_sem] Oper.semAt_some

theorem row_cells2 {w : World} {base : Nat} {e : TypeId} {size : Nat} {v : Value} {n : Nat} {xs : List Value} (h : w.ownsRow base e size v n xs) {g : Nat} (hg : v.ownBlock = some g) : ∃ cs, w.heap[g]? = some (.cells cs e (0, 0)) := by
  obtain ⟨_, ⟨rfl, _⟩ | ⟨g', cap, cur, rfl, _, hcur, _⟩⟩ := h
  · cases hg
  · cases hg; exact ⟨cur, hcur⟩
theorem row_not {w : World} {base d : Nat} {e T : TypeId} {size : Nat} {v : Value} {n : Nat} {xs : List Value} {cs : Array Value} (h : w.ownsRow base e size v n xs) (hk : Blk w d T cs) (hT : T ≠ e) : some d ≠ v.ownBlock := fun e1 => by
  obtain ⟨cs', h1⟩ := row_cells2 h e1.symm
  rw [show w.heap[d]? = _ from hk] at h1
  cases h1
  exact hT rfl
theorem keeps_grown2 {W W' : World} {row : Option Nat} (hg : W.grownBy W' row) (hr : ∀ r, row = some r → ∃ cs t z, W.heap[r]? = some (.cells cs t z)) : KeepsOthers W W' :=
  ⟨hg.size, fun k o hk ho => by
    refine (hg.block k (Array.getElem?_eq_some_iff.1 hk).1 fun e => ?_).trans hk
    obtain ⟨cs, t, z, h1⟩ := hr k e.symm
    rw [h1] at hk
    cases hk
    cases ho⟩
theorem results_cells2 {fn : Func} {p q : Tmp} {ty tz : TypeId} (h : fn.results = #[.cell p ty, .cell q tz]) (tmps : Array Value) (P : Program) (w : World) :
    (results fn tmps).run P w = ((asAddr (tmps.getD p undef)).run P w).andThen fun a w₁ => ((loadVar ty a).run P w₁).andThen fun v w₂ => ((asAddr (tmps.getD q undef)).run P w₂).andThen fun b w₃ => ((loadVar tz b).run P w₃).andThen fun u w₄ => .ok (.tuple #[v, u]) w₄ := by
  simp only [results, h]
  simp [Sem.run_bind, Result.andThen]
theorem but_set_blk {W : World} {d j n : Nat} {T : TypeId} {A' : Option Addr} {n' c' : Nat} {g : Option Nat} {A : Option Addr} {t : List Int} {v : Value} (hk : Blk W d T #[.slice A' n' c']) (h : IntsBut W g A n t) : IntsBut (W.setCell ⟨d, j, none⟩ v) g A n t := by
  refine ⟨h.len, h.max, fun hn => ?_⟩
  obtain ⟨b, off, e, hb, hne, hc⟩ := h.mem hn
  refine ⟨b, off, e, by simpa using hb, hne, fun i hi => (World.cell?_setCell_other W ⟨d, j, none⟩ ⟨b, off + i, none⟩ v (fun e2 => ?_)).trans (hc i hi)⟩
  have e3 : b = d := by cases e2; rfl
  subst e3
  have h1 := hc i hi
  rw [hk.cell] at h1
  cases hoi : off + i with
  | zero => rw [hoi] at h1; simp at h1
  | succ m => rw [hoi] at h1; simp at h1
theorem BRowAt.set_blk {W : World} {d j base k : Nat} {v u : Value} {ls : List Hd} {bb : List Bd} {T : TypeId} {A' : Option Addr} {n' c' : Nat} (h : BRowAt W base v k ls bb) (hk : Blk W d T #[.slice A' n' c']) (hT : T ≠ 77) : BRowAt (W.setCell ⟨d, j, none⟩ u) base v k ls bb := by
  have hg : W.grownBy (W.setCell ⟨d, j, none⟩ u) (some d) := ⟨rfl, rfl, rfl, by simp, fun k _ hk => heap_setCell_other W ⟨d, j, none⟩ k u (fun e => hk (by rw [e]))⟩
  exact ⟨h.row.kept hg (.inr fun e => row_not h.row hk hT e.symm), h.ll, h.bl, fun j a b => but_set_blk hk (h.each j a b)⟩
theorem BRowAt.kept {W W' : World} {base k : Nat} {v : Value} {ls : List Hd} {bb : List Bd} {row : Option Nat} (h : BRowAt W base v k ls bb) (hg : W.grownBy W' row) (hr : ∀ r, row = some r → ∃ o : Obj, W.heap[r]? = some o ∧ o.isCells = false) : BRowAt W' base v k ls bb := by
  refine ⟨h.row.kept hg ?_, h.ll, h.bl, fun j a b => ?_⟩
  · cases e : v.ownBlock with
    | none => exact .inl rfl
    | some g =>
      refine .inr fun e2 => ?_
      obtain ⟨cs, hcs⟩ := row_cells2 h.row e
      obtain ⟨o, ho, hc⟩ := hr g e2.symm
      rw [hcs] at ho
      cases ho
      cases hc
  · have hx := h.each j a b
    refine ⟨hx.len, hx.max, fun hn => ?_⟩
    obtain ⟨b', off, e, hb, hne, hc⟩ := hx.mem hn
    exact ⟨b', off, e, Nat.lt_of_lt_of_le hb hg.size, hne, fun j hj => cell_kept (hc j hj) hg hr⟩
theorem grown_comp {A B C : World} {row : Option Nat} (h : Below A.heap.size A B) (g : B.grownBy C row) : A.grownBy C row :=
  ⟨g.os.trans h.os, g.tape.trans h.tape, g.output.trans h.output, Nat.le_trans h.size g.size, fun k hk hr => (g.block k (Nat.lt_of_lt_of_le hk h.size) hr).trans (h.block k hk)⟩
theorem grown_row {A B : World} (row : Option Nat) (h : Below A.heap.size A B) : A.grownBy B row := ⟨h.os, h.tape, h.output, h.size, fun k hk _ => h.block k hk⟩

set_option maxRecDepth 100000 in
set_option maxHeartbeats 2000000 in
theorem bound_any (Av A4 : Option Addr) (L cv m c4 base : Nat) (v : Int) (lr : List Hd) (cc : List Bd) (ts : List Int) (w : World) (hr : BRowAt w base (.slice Av L cv) L lr cc) (ht : IntsBut w (Value.slice Av L cv).ownBlock A4 m ts) (hL : L ≤ 12) (hbase : base ≤ w.heap.size) (h0 : 0 ≤ v) (h1 : v < 12) :
    Calls Try.prog 76 #[.slice Av L cv, .int .i64 v, .slice A4 m c4] w fun e w' => ∃ A7 L7 c7 l7, e = .returned (.slice A7 L7 c7) ∧ BRowAt w' base (.slice A7 L7 c7) L7 l7 (cc ++ if ts = [-v - 1] then [] else [(v, ts)]) ∧ L7 ≤ L + 1 ∧ w.grownBy w' (Value.slice Av L cv).ownBlock := by
  obtain ⟨i0, hi, hz0, hz1, hz2⟩ := info_parts info_bind
  have CVAR := Lib.hid (variable_any v w (by omega) (by omega))
  have hB1 : Below w.heap.size w (w.alloc (.cells #[.int .i64 (-v - 1)] 3)) := bel_al (Below.refl _ _) _
  have CEQ := Lib.hid (eqT_any A4 (some ⟨w.heap.size, 0, none⟩) m c4 1 1 ts [-v - 1] _ _ (ht.below hB1).ints (ints_var w _))
  have HR := Lib.hid hr
  have HT := Lib.hid ht
  have HB1 := Lib.hid hB1
  by_cases hq : ts = [-v - 1]
  · have HQ := Lib.hid (show decide (ts = [-v - 1]) = true from decide_eq_true hq)
    rw [if_pos hq, List.append_nil]
    clear hr ht hB1 hq
    go_enter Try.func76, Try.ntmps76
    go_wp2_with (first
      | (go_at_call 66; ((with_reducible refine CVAR.out.mono ?_); rintro e w1 ⟨rfl, rfl⟩))
      | (go_at_call 65; refine CEQ.out.mono ?_; rintro e w2 ⟨rfl, j2, rfl⟩; rw [HQ.out]; have HB2 := Lib.hid (below_drewN HB1.out j2)))
    go_ret
    exact ⟨_, _, _, lr, rfl, HR.out.below HB2.out, by omega, grown_row _ HB2.out⟩
  · have HQ := Lib.hid (show decide (ts = [-v - 1]) = false from decide_eq_false hq)
    rw [if_neg hq]
    clear hr ht hB1 hq
    go_enter Try.func76, Try.ntmps76
    go_wp2_with (first
      | (go_at_call 66; ((with_reducible refine CVAR.out.mono ?_); rintro e w1 ⟨rfl, rfl⟩))
      | (go_at_call 65; refine CEQ.out.mono ?_; rintro e w2 ⟨rfl, j2, rfl⟩; rw [HQ.out]; have HB6 := Lib.hid (bel_al (below_drewN HB1.out j2) (.cells #[.int .i64 v, .slice A4 m c4] 77)); have HI6 := Lib.hid (HT.out.below HB6.out))
      | (at_builtin
         refine wpList_append_own_at _ rfl _ _ 36 rfl base 77 i0 _ 2 32 Try.underlying36 hi hz0 hz1 hz2 rfl (by omega) (.slice Av L cv) L (flatB lr cc) rfl (HR.out.below HB6.out).row ⟨w.heap.size + 1, 0, none⟩ 1 1 [.int .i64 v, .slice A4 m c4] rfl rfl
           ?_ (by simp [Value.oneCell']) (by unfold maxLen; omega) (by omega) (Nat.le_trans hbase HB6.out.size) ?_
         · exact World.news_of_block (cs := #[.int .i64 v, .slice A4 m c4]) (t := 77) (fr := (0, 0)) (blk_nx w _ j2 _ _)
         intro v7 w7 hown7 hg7 _ hv7
         have hrow7 := (HR.out.below HB6.out).push (x := (A4, m, c4)) (t := (v, ts)) HI6.out hown7 hg7 hv7
         obtain ⟨A7, c7, e7, _⟩ := hrow7.binds (by omega)
         subst e7
         have HROW7 := Lib.hid hrow7
         have HG7 := Lib.hid (grown_comp HB6.out hg7)
         clear hrow7 hown7 hg7 hv7))
    go_ret
    exact ⟨_, _, _, _, rfl, HROW7.out, by omega, HG7.out⟩

end Go.Proofs.Ytlciaecclcckbaa

namespace Go.Proofs.Ytlciaecclcckbaa
open Go.RowKit Go.Shelf
attribute [local go_sem] Oper.semAt_some

theorem BRowAt.set_same {W : World} {d base k : Nat} {v u : Value} {ls : List Hd} {bb : List Bd} {T : TypeId} {cs : Array Value} (h : BRowAt W base v k ls bb) (hk : Blk W d T cs) (hT : T ≠ 77) (hc : W.cell? ⟨d, 0, none⟩ = some u) : BRowAt (W.setCell ⟨d, 0, none⟩ u) base v k ls bb := by
  have hg : W.grownBy (W.setCell ⟨d, 0, none⟩ u) (some d) := ⟨rfl, rfl, rfl, by simp, fun k _ hk => heap_setCell_other W ⟨d, 0, none⟩ k u (fun e => hk (by rw [e]))⟩
  refine ⟨h.row.kept hg (.inr fun e => row_not h.row hk hT e.symm), h.ll, h.bl, fun j a b => ?_⟩
  have hx := h.each j a b
  refine ⟨hx.len, hx.max, fun hn => ?_⟩
  obtain ⟨b', off, e, hb, hne, hcc⟩ := hx.mem hn
  refine ⟨b', off, e, by simpa using hb, hne, fun i hi => ?_⟩
  by_cases e2 : (⟨d, 0, none⟩ : Addr) = ⟨b', off + i, none⟩
  · rw [← e2, World.cell?_setCell_same' _ _ _ (by rw [hc]; rfl), ← hc, e2]
    exact hcc i hi
  · exact (World.cell?_setCell_other W ⟨d, 0, none⟩ ⟨b', off + i, none⟩ u e2).trans (hcc i hi)
/-- What the rounds of Compose keep. -/
def IComp (w : World) (d : Nat) (Ab Am : Option Addr) (nb cb nm cm : Nat) (bb mm : List Bd) (k : Nat) (W : World) : Prop :=
  ∃ (Av : Option Addr) (cv L : Nat) (lr : List Hd) (cc : List Bd), Blk W (d + 1) 36 #[.slice Av L cv] ∧ BRowAt W d (.slice Av L cv) L lr cc ∧ cc = compTo bb mm k ∧
    (Blk W w.heap.size 36 #[.slice Am nm cm] ∧ Blk W (w.heap.size + 1) 36 #[.slice none 0 0] ∧ Blk W (w.heap.size + 1 + 1) 30 #[.int .i64 0] ∧ Blk W (d + 1 + 1) 36 #[.slice Ab nb cb]) ∧ ¬ LongTo bb mm k ∧ Below w.heap.size w W
theorem IComp.own {w : World} {d B nb cb nm cm : Nat} {Ab Am : Option Addr} {bb mm : List Bd} (hB : w.heap.size ≤ B) : OwnFrom B (IComp w d Ab Am nb cb nm cm bb mm) := by
  rintro k W W' row ⟨Av, cv, L, lr, cc, h1, h2, h3, ⟨h4, h5, h6, h7⟩, h8, h9⟩ hg hr
  have hr' := fun r e => (hr r e).2
  exact ⟨Av, cv, L, lr, cc, (grownBy_keeps_cells hg hr' h1 rfl).trans h1, h2.kept hg hr', h3, ⟨(grownBy_keeps_cells hg hr' h4 rfl).trans h4, (grownBy_keeps_cells hg hr' h5 rfl).trans h5, (grownBy_keeps_cells hg hr' h6 rfl).trans h6, (grownBy_keeps_cells hg hr' h7 rfl).trans h7⟩, h8, below_grown h9 hg hr hB⟩
def XComp (w : World) (CZ : List Bd × Int) (W : World) : Prop := CZ = ([], 4) ∧ Blk W (w.heap.size + 1) 36 #[.slice none 0 0] ∧ Blk W (w.heap.size + 1 + 1) 30 #[.int .i64 4] ∧ Below w.heap.size w W
theorem XComp.own {w : World} {B : Nat} {CZ : List Bd × Int} (hB : w.heap.size ≤ B) : OwnFrom B (fun (_ : Unit) W => XComp w CZ W) := by
  rintro _ W W' row ⟨h0, h4, h5, h7⟩ hg hr
  have hr' := fun r e => (hr r e).2
  exact ⟨h0, (grownBy_keeps_cells hg hr' h4 rfl).trans h4, (grownBy_keeps_cells hg hr' h5 rfl).trans h5, below_grown h7 hg hr hB⟩

set_option maxRecDepth 100000 in
set_option maxHeartbeats 2000000 in
theorem compose_bad (As Ab Am : Option Addr) (ns cs nb cb nm cm : Nat) (ss : Sg) (ls lm : List Hd) (bb mm : List Bd) (w : World) (hs : SigAt w w.heap.size As ns ss) (hb : BindsAt w w.heap.size Ab nb ls bb) (hm : BindsAt w w.heap.size Am nm lm mm) (hn : nb ≤ 1000000) (hn2 : nm ≤ 1000000) (hbad : bindsOk ss bb = false ∨ bindsOk ss mm = false) :
    Calls Try.prog 33 #[.slice As ns cs, .slice Ab nb cb, .slice Am nm cm] w (RetB w (compZ ss bb mm).1 (compZ ss bb mm).2) := by
  obtain ⟨W0, hW0⟩ : ∃ W0, ((w.alloc (.cells #[.slice Am nm cm] 36)).alloc (.cells #[.slice none 0 0] 36)).alloc (.cells #[.int .i64 0] 30) = W0 := ⟨_, rfl⟩
  have hB0 : Below w.heap.size w W0 := by rw [← hW0]; exact bel_al (bel_al (bel_al (Below.refl _ _) _) _) _
  have sz0 : W0.heap.size = w.heap.size + 3 := by rw [← hW0]; simp
  have a0 : Blk W0 w.heap.size 36 #[.slice Am nm cm] := by rw [← hW0]; exact ((Blk.new w _ _).alloc _).alloc _
  have a1 : Blk W0 (w.heap.size + 1) 36 #[.slice none 0 0] := by
    rw [← hW0]
    have := Blk.new (w.alloc (.cells #[.slice Am nm cm] 36)) 36 #[.slice none 0 0]
    rw [World.size_alloc] at this
    exact this.alloc _
  have a2 : Blk W0 (w.heap.size + 1 + 1) 30 #[.int .i64 0] := by
    rw [← hW0]
    have := Blk.new ((w.alloc (.cells #[.slice Am nm cm] 36)).alloc (.cells #[.slice none 0 0] 36)) 30 #[.int .i64 0]
    rw [World.size_alloc, World.size_alloc] at this
    exact this
  have C1 := Lib.hid (validBinds_any As Ab ns cs nb cb ss ls bb W0 (hs.up hB0) (hb.up hB0) hn)
  have C2 := Lib.hid (fun V (h : Below w.heap.size w V) => validBinds_any As Am ns cs nm cm ss lm mm V (hs.up h) (hm.up h) hn2)
  have HCB := Lib.hid (fun V (h : Below W0.heap.size W0 V) => show V.cell? ⟨w.heap.size, 0, none⟩ = some (.slice Am nm cm) by have := (a0.below h (by omega)).cell 0; simpa using this)
  have HCC := Lib.hid (fun V (h : Below W0.heap.size W0 V) => And.intro (show V.cell? ⟨w.heap.size + 1, 0, none⟩ = some (.slice none 0 0) by have := (a1.below h (by omega)).cell 0; simpa using this) (And.intro ((a1.below h (by omega)).frozen 0) (And.intro (show V.cell? ⟨w.heap.size + 1 + 1, 0, none⟩ = some (.int .i64 0) by have := (a2.below h (by omega)).cell 0; simpa using this) ((a2.below h (by omega)).frozen 0))))
  have HB0 := Lib.hid hB0
  have HW0 := Lib.hid hW0
  have hz : compZ ss bb mm = ([], 1) := by rcases hbad with h | h; exact compZ_bad1 h; exact compZ_bad2 h
  rw [hz]
  have HFIN : ∀ V : World, Below w.heap.size w V → Below w.heap.size w ((V.setCell ⟨w.heap.size + 1, 0, none⟩ (.slice none 0 0)).setCell ⟨w.heap.size + 1 + 1, 0, none⟩ (.int .i64 1)) := fun V h => (h.setCell (p := ⟨w.heap.size + 1, 0, none⟩) (by show w.heap.size ≤ w.heap.size + 1; omega) _).setCell (p := ⟨w.heap.size + 1 + 1, 0, none⟩) (by show w.heap.size ≤ w.heap.size + 1 + 1; omega) _
  have HFN := Lib.hid HFIN
  cases hok : bindsOk ss bb
  · rw [hok] at C1
    clear hs hb hm hB0 sz0 a0 a1 a2 hW0 hz hbad HFIN C2 HCB hok
    go_enter Try.func33, Try.ntmps33
    go_wp2_with fail
    rw [HW0.out]
    go_wp2_with (go_at_call 23; ((with_reducible refine C1.out.mono ?_); clear C1; rintro e w1 ⟨rfl, hB1⟩; obtain ⟨x1, y1, x2, y2⟩ := HCC.out _ hB1; have HB1 := Lib.hid (below_then HB0.out hB1); clear hB1))
    refine bodyPost_ret (v := .tuple #[.slice none 0 0, .int .i64 1]) (by rw [results_cells2 rfl]; go_simp) rfl ?_
    exact ⟨none, 0, 0, [], rfl, BindsAt.none _ _, HFN.out _ HB1.out⟩
  · have hok2 : bindsOk ss mm = false := by rcases hbad with h | h; rw [hok] at h; cases h; exact h
    rw [hok] at C1
    simp only [hok2] at C2
    clear hs hb hm hB0 sz0 a0 a1 a2 hW0 hz hbad HFIN hok hok2
    go_enter Try.func33, Try.ntmps33
    go_wp2_with fail
    rw [HW0.out]
    go_wp2_with (first
      | (go_at_call 23; ((with_reducible refine C1.out.mono ?_); clear C1; rintro e w1 ⟨rfl, hB1⟩; have x0 := HCB.out _ hB1; have HB1 := Lib.hid hB1; clear hB1))
      | (go_at_call 23; ((with_reducible refine (C2.out _ (below_then HB0.out HB1.out)).mono ?_); rintro e w2 ⟨rfl, hB2⟩; obtain ⟨x1, y1, x2, y2⟩ := HCC.out _ (below_then HB1.out hB2); have HB2 := Lib.hid (below_then (below_then HB0.out HB1.out) hB2); clear hB2)))
    refine bodyPost_ret (v := .tuple #[.slice none 0 0, .int .i64 1]) (by rw [results_cells2 rfl]; go_simp) rfl ?_
    exact ⟨none, 0, 0, [], rfl, BindsAt.none _ _, HFN.out _ HB2.out⟩

set_option maxRecDepth 100000 in
set_option maxHeartbeats 4000000 in
theorem compose_ok (As Ab Am : Option Addr) (ns cs nb cb nm cm : Nat) (ss : Sg) (ls lm : List Hd) (bb mm : List Bd) (w : World) (hs : SigAt w w.heap.size As ns ss) (hb : BindsAt w w.heap.size Ab nb ls bb) (hm : BindsAt w w.heap.size Am nm lm mm) (hn : nb ≤ 1000000) (hn2 : nm ≤ 1000000) (hok : bindsOk ss bb = true) (hok2 : bindsOk ss mm = true) :
    Calls Try.prog 33 #[.slice As ns cs, .slice Ab nb cb, .slice Am nm cm] w (RetB w (compZ ss bb mm).1 (compZ ss bb mm).2) := by
  obtain ⟨W0, hW0⟩ : ∃ W0, ((w.alloc (.cells #[.slice Am nm cm] 36)).alloc (.cells #[.slice none 0 0] 36)).alloc (.cells #[.int .i64 0] 30) = W0 := ⟨_, rfl⟩
  have hB0 : Below w.heap.size w W0 := by rw [← hW0]; exact bel_al (bel_al (bel_al (Below.refl _ _) _) _) _
  have sz0 : W0.heap.size = w.heap.size + 3 := by rw [← hW0]; simp
  have a0 : Blk W0 w.heap.size 36 #[.slice Am nm cm] := by rw [← hW0]; exact ((Blk.new w _ _).alloc _).alloc _
  have a1 : Blk W0 (w.heap.size + 1) 36 #[.slice none 0 0] := by
    rw [← hW0]
    have := Blk.new (w.alloc (.cells #[.slice Am nm cm] 36)) 36 #[.slice none 0 0]
    rw [World.size_alloc] at this
    exact this.alloc _
  have a2 : Blk W0 (w.heap.size + 1 + 1) 30 #[.int .i64 0] := by
    rw [← hW0]
    have := Blk.new ((w.alloc (.cells #[.slice Am nm cm] 36)).alloc (.cells #[.slice none 0 0] 36)) 30 #[.int .i64 0]
    rw [World.size_alloc, World.size_alloc] at this
    exact this
  have C1 := Lib.hid (validBinds_any As Ab ns cs nb cb ss ls bb W0 (hs.up hB0) (hb.up hB0) hn)
  have C2 := Lib.hid (fun V (h : Below w.heap.size w V) => validBinds_any As Am ns cs nm cm ss lm mm V (hs.up h) (hm.up h) hn2)
  rw [hok] at C1
  simp only [hok2] at C2
  have HCA := Lib.hid (fun V (h : Below W0.heap.size W0 V) => And.intro (a0.below h (by omega)) (And.intro (a1.below h (by omega)) (a2.below h (by omega))))
  have HCB := Lib.hid (fun V (h : Below W0.heap.size W0 V) => by have := (a0.below h (by omega)).cell 0; simpa using this)
  have HB0 := Lib.hid hB0
  have HW0 := Lib.hid hW0
  have HSZ := Lib.hid sz0
  have HOK := Lib.hid hok
  have HOK2 := Lib.hid hok2
  have HBD := Lib.hid hb
  have HMD := Lib.hid hm
  have HLONG : Hid (LongTo bb mm 12 → compZ ss bb mm = ([], 4)) := Lib.hid (compZ_long hok hok2)
  have HFINE : Hid (¬ LongTo bb mm 12 → compZ ss bb mm = (compB bb mm, 0)) := Lib.hid (compZ_ok hok hok2)
  obtain ⟨CZ, hcz⟩ : ∃ CZ, compZ ss bb mm = CZ := ⟨_, rfl⟩
  rw [hcz] at HLONG HFINE ⊢
  clear hs hb hm hok hok2 hB0 sz0 a0 a1 a2 hcz hW0
  refine callsIn_wide (n := 5) |>.1 ?_
  refine callsIn_of_wp_marks Try.func33 rfl trivial ?_ rfl
  simp only [Try.ntmps33, List.size_toArray, List.length_cons, List.length_nil, Nat.reduceAdd, Nat.reduceSub, Array.replicate_succ, Array.replicate_zero, List.push_toArray, List.append_toArray, List.nil_append, List.cons_append]
  gi_wp2_with fail
  rw [HW0.out]
  gi_wp2_with (first
    | (refine ⟨trivial, ?_⟩; gi_at_call 23; ((with_reducible refine (callsIn_wide.2 C1.out).mono ?_); clear C1; rintro e w1 ⟨rfl, hB1⟩; have cm1 := HCB.out _ hB1; have HB1 := Lib.hid hB1; clear hB1))
    | (refine ⟨trivial, ?_⟩; gi_at_call 23; ((with_reducible refine (callsIn_wide.2 (C2.out _ (below_then HB0.out HB1.out))).mono ?_); rintro e w2 ⟨rfl, hB2⟩; have HB2 := Lib.hid (below_then HB1.out hB2); clear hB2))
    | (refine ⟨trivial, ?_⟩; gi_at_call 71; refine (callsIn_wide.2 (outcomes_any _ _ _ _)).mono ?_; rintro e w3 ⟨rfl, rfl⟩))
  obtain ⟨d, hd⟩ : ∃ d, w2.heap.size = d := ⟨_, rfl⟩
  obtain ⟨W9, hW9⟩ : ∃ W9, ((w2.alloc (.cells #[] 77)).alloc (.cells #[.slice (some ⟨w2.heap.size, 0, none⟩) 0 0] 36)).alloc (.cells #[.slice Ab nb cb] 36) = W9 := ⟨_, rfl⟩
  rw [hW9]
  have hs0 := HSZ.out
  have hs2 := HB2.out.size
  have hwd : w.heap.size + 3 ≤ d := by rw [← hd, ← hs0]; exact hs2
  have sz : W9.heap.size = d + 3 := by rw [← hW9]; simp [hd]
  have hB29 : Below w2.heap.size w2 W9 := by rw [← hW9]; exact bel_al (bel_al (bel_al (Below.refl _ _) _) _) _
  have hB9 : Below w.heap.size w W9 := below_then (below_then HB0.out HB2.out) hB29
  obtain ⟨a0, a1, a2⟩ := HCA.out W9 (below_then HB2.out hB29)
  have b0 : Blk W9 d 77 #[] := by
    rw [← hW9, ← hd]; exact ((Blk.new w2 _ _).alloc _).alloc _
  have b1 : Blk W9 (d + 1) 36 #[.slice (some ⟨d, 0, none⟩) 0 0] := by
    rw [← hW9, hd]
    have := (Blk.new (w2.alloc (.cells #[] 77)) 36 #[.slice (some ⟨d, 0, none⟩) 0 0]).alloc (.cells #[.slice Ab nb cb] 36)
    rw [World.size_alloc, hd] at this
    exact this
  have b2 : Blk W9 (d + 1 + 1) 36 #[.slice Ab nb cb] := by
    rw [← hW9, hd]
    have := Blk.new ((w2.alloc (.cells #[] 77)).alloc (.cells #[.slice (some ⟨d, 0, none⟩) 0 0] 36)) 36 #[.slice Ab nb cb]
    rw [World.size_alloc, World.size_alloc, hd] at this
    exact this
  have i0' : IComp w d Ab Am nb cb nm cm bb mm 0 W9 := by
    refine ⟨some ⟨d, 0, none⟩, 0, 0, [], [], b1, ⟨?_, rfl, rfl, fun j hj => by simp at hj⟩, rfl, ⟨a0, a1, a2, b2⟩, (fun ⟨v, hv, _⟩ => by omega), hB9⟩
    exact ⟨rfl, .inr ⟨d, 0, #[], rfl, Nat.le_refl _, b0, Nat.le_refl _, by unfold maxLen; omega, rfl, rfl⟩⟩
  rw [hd]
  clear hW9 b0 b1 b2 a0 a1 a2 hB9 hB29 hs0 hs2
  refine range_k (gf := 97) (lb := #[.pointer (some ⟨d + 1 + 1, 0, none⟩)]) rfl (enters_of Try.func97 (by kernel_rfl) rfl) (encs := encO) (fun _ _ => rfl)
    (HxO bb) 12 (IComp w d Ab Am nb cb nm cm bb mm) (XComp w CZ) (IComp.own (by omega)) (XComp.own (by omega)) (fun k x W l o o' hx hl ho hc => hx.putObj ho hc) i0'
    ?seq (fun k x => { tmps := #[.slice As ns cs, .slice Ab nb cb, .slice Am nm cm, undef, undef, .pointer (some ⟨w.heap.size, 0, none⟩), .pointer (some ⟨w.heap.size + 1, 0, none⟩), .pointer (some ⟨w.heap.size + 1 + 1, 0, none⟩), .pointer (some ⟨d + 1, 0, none⟩), .int .i64 (k : Int), .slice x.1 x.2.1 x.2.2, undef, .slice As ns cs, .slice Ab nb cb, .bool true, .bool false, .bool false, .slice As ns cs, .slice Am nm cm, .bool true, .bool false, .bool false, .slice (some ⟨d, 0, none⟩) 0 0, .slice Ab nb cb, .func (.func 97) #[] #[.pointer (some ⟨d + 1 + 1, 0, none⟩)], .int .i64 (k : Int), .slice x.1 x.2.1 x.2.2, undef, undef, undef, undef, undef, undef, undef, undef, undef, undef, undef], defers := [] }) ?assign ?body ?done ?stop
  case seq =>
    intro l J JL V hV hJ hJL hJI hY hJ0
    exact outC_in l 4 (d + 1 + 1) nb cb Ab ls bb ss J JL HOK.out hn hJ hJL (fun k A hA => by
      obtain ⟨Av, cv, L, lr, cc, h1, h2, h3, ⟨h4, h5, h6, h7⟩, h8, h9⟩ := hJI k A hA
      exact ⟨h7, HBD.out.up h9⟩) hY V hJ0
  case assign =>
    intro l m k x W K hK
    unfold encO
    gi_wp2
    exact hK
  case body =>
    rintro l mq k ⟨A', n', c'⟩ W ⟨Av, cv, L, lr, cc, h1, h2, h3, ⟨h4, h5, h6, h7⟩, h8, h9⟩ hx hk
    have hnums := ofB_nums HOK.out (v := (k : Int)) (by omega) (by omega)
    have hvl := ofB_len HOK.out (v := (k : Int)) (by omega) (by omega)
    have hsucc := compTo_succ bb mm k
    have hal := appl_len_take HOK2.out (zs := ofB bb (k : Int)) hnums
    have hLs := HLONG.out
    have hmore := @LongTo.more bb mm k
    have hnot := @LongTo.not_succ bb mm k h8
    have hx1 : IntsAt W W.heap.size A' n' (ofB bb (k : Int)) := hx
    obtain ⟨zs, hzs⟩ : ∃ zs, ofB bb (k : Int) = zs := ⟨_, rfl⟩
    rw [hzs] at hx1 hnums hvl hsucc hal hmore hnot
    obtain ⟨ts, hts⟩ : ∃ ts, appl mm zs = ts := ⟨_, rfl⟩
    have CA := appliedR_any Am A' nm cm n' c' ss lm mm zs W (HMD.out.up h9) hx1 hn2 HOK2.out hnums (by rw [hx1.len]; omega)
    rw [hts] at CA hsucc hal hmore hnot
    rw [← h3] at hsucc
    have hbl : ∀ g, (Value.slice Av L cv).ownBlock = some g → g < W.heap.size := fun g e => (h2.row.lt g e).2
    obtain ⟨m, hm⟩ : ∃ m, ts.length = m := ⟨_, rfl⟩
    rw [hm] at hal hmore hnot
    have hL : L ≤ 12 := by
      have e1 := h2.bl
      have e2 := compTo_le bb mm k
      rw [← h3] at e2
      omega
    have CA2 := Lib.hid (CA.mono (R' := fun e w' => ∃ A3 c3, e = .returned (.slice A3 m c3) ∧ IntsBut w' (Value.slice Av L cv).ownBlock A3 m ts ∧ Below W.heap.size W w' ∧ w'.cell? ⟨d + 1, 0, none⟩ = some (.slice Av L cv) ∧ w'.frozen? ⟨d + 1, 0, none⟩ = false ∧ w'.cell? ⟨w.heap.size + 1, 0, none⟩ = some (.slice none 0 0) ∧ w'.frozen? ⟨w.heap.size + 1, 0, none⟩ = false ∧ w'.cell? ⟨w.heap.size + 1 + 1, 0, none⟩ = some (.int .i64 0) ∧ w'.frozen? ⟨w.heap.size + 1 + 1, 0, none⟩ = false) (fun e w' ⟨v3, base3, e1, e2, e3, e4⟩ => by
      obtain ⟨A3, c3, rfl, hbut⟩ := IntsBut.of_row e3 (by omega) (g := (Value.slice Av L cv).ownBlock) (fun g eg => by have := hbl g eg; omega)
      rw [hm] at hbut e1
      have k1 := h1.below e4 h1.lt
      have k5 := h5.below e4 h5.lt
      have k6 := h6.below e4 h6.lt
      exact ⟨A3, c3, e1, hbut, e4, by simpa using k1.cell 0, k1.frozen 0, by simpa using k5.cell 0, k5.frozen 0, by simpa using k6.cell 0, k6.frozen 0⟩))
    have hm2 : m ≤ 10000 := by omega
    have c4 := h4.cell 0
    simp only [Array.getElem?_singleton, if_true] at c4
    have H1 := Lib.hid h1
    have H2 := Lib.hid h2
    have H4 := Lib.hid h4
    have H5 := Lib.hid h5
    have H6 := Lib.hid h6
    have H7 := Lib.hid h7
    have H9 := Lib.hid h9
    have HM := Lib.hid hm
    have hWs : d + 2 ≤ W.heap.size := by have := h7.lt; omega
    by_cases h60 : 60 < m
    · have H := Lib.hid (hLs (hmore h60 hk))
      have h60' : (60 : Int) < (m : Int) := by omega
      clear h1 h2 h3 h4 h5 h6 h7 h8 h9 hx hx1 hnums hvl hsucc hal hLs hmore hnot hzs hts CA hbl hm
      gi_wp2_with ((first | refine ⟨trivial, fun h => (by cases h), ?_⟩ | refine ⟨trivial, ?_⟩); gi_at_call 74; refine (CallsIn.inRound l (callsIn_wide.2 CA2.out)).mono ?_; rintro e W3 ⟨A3, c3, rfl, hI3, hB3, u1, f1, u5, f5, u6, f6⟩; have HB3 := Lib.hid hB3; clear hI3 hB3)
      have k5 := H5.out.below HB3.out H5.out.lt
      have k6 := H6.out.below HB3.out H6.out.lt
      refine ⟨?_, H.out, (k5.set_ 0 _).far (by show w.heap.size + 1 ≠ w.heap.size + 1 + 1; omega) _, (k6.far (by show w.heap.size + 1 + 1 ≠ w.heap.size + 1; omega) _).set_ 0 _, ((below_then H9.out HB3.out).setCell (p := ⟨w.heap.size + 1, 0, none⟩) (by show w.heap.size ≤ w.heap.size + 1; omega) _).setCell (p := ⟨w.heap.size + 1 + 1, 0, none⟩) (by show w.heap.size ≤ w.heap.size + 1 + 1; omega) _⟩
      exact (((keeps_grown2 (grown_row none HB3.out) (fun r e => by cases e)).trans (KeepsOthers.setCell _ _ _)).trans (KeepsOthers.setCell _ _ _)).from _
    · have HN := Lib.hid (hnot h60)
      have h60' : ¬ (60 : Int) < (m : Int) := by omega
      have HSUC := Lib.hid hsucc
      have CBO := Lib.hid (fun (V : World) (A4 : Option Addr) (c4 : Nat) (h : Below W.heap.size W V) (hI : IntsBut V (Value.slice Av L cv).ownBlock A4 m ts) => bound_any Av A4 L cv m c4 d (k : Int) lr cc ts V (h2.below h) hI hL (by have := h.size; omega) (by omega) (by omega))
      have CBO2 := Lib.hid (fun (V : World) (A4 : Option Addr) (c4 : Nat) (h : Below W.heap.size W V) (hI : IntsBut V (Value.slice Av L cv).ownBlock A4 m ts) => (CBO.out V A4 c4 h hI).mono (R' := fun e w' => ∃ A7 L7 c7 l7, e = .returned (.slice A7 L7 c7) ∧ BRowAt w' d (.slice A7 L7 c7) L7 l7 (cc ++ if ts = [-(k : Int) - 1] then [] else [((k : Int), ts)]) ∧ V.grownBy w' (Value.slice Av L cv).ownBlock ∧ w'.cell? ⟨d + 1, 0, none⟩ = some (.slice Av L cv) ∧ w'.frozen? ⟨d + 1, 0, none⟩ = false) (fun e w' ⟨A7, L7, c7, l7, e1, e2, _, e4⟩ => by
        have k1 := (h1.below h h1.lt).grown e4 (row_not (h2.below h).row (h1.below h h1.lt) (by decide))
        exact ⟨A7, L7, c7, l7, e1, e2, e4, by simpa using k1.cell 0, k1.frozen 0⟩))
      clear h1 h2 h3 h4 h5 h6 h7 h8 h9 hx hx1 hnums hvl hsucc hal hLs hmore hnot hzs hts CA hbl hm CBO
      gi_wp2_with (first
        | ((first | refine ⟨trivial, fun h => (by cases h), ?_⟩ | refine ⟨trivial, ?_⟩); gi_at_call 74; refine (CallsIn.inRound l (callsIn_wide.2 CA2.out)).mono ?_; rintro e W3 ⟨A3, c3, rfl, hI3, hB3, u1, f1, u5, f5, u6, f6⟩; have HB3 := Lib.hid hB3; have HI3 := Lib.hid hI3; clear hI3 hB3)
        | ((first | refine ⟨trivial, fun h => (by cases h), ?_⟩ | refine ⟨trivial, ?_⟩); gi_at_call 76; refine (CallsIn.inRound l (callsIn_wide.2 (CBO2.out _ _ _ HB3.out HI3.out))).mono ?_; rintro e W4 ⟨A7, L7, c7, l7, rfl, hR7, hG7, u7, f7⟩; have HR7 := Lib.hid hR7; have HG7 := Lib.hid hG7; clear hR7 hG7))
      have r3 := H2.out.below HB3.out
      have hrowc : ∀ g, (Value.slice Av L cv).ownBlock = some g → d ≤ g ∧ ∃ cs t z, W3.heap[g]? = some (.cells cs t z) := fun g e => ⟨(r3.row.lt g e).1, by obtain ⟨cs', h⟩ := row_cells2 r3.row e; exact ⟨cs', _, _, h⟩⟩
      have q1 := (H1.out.below HB3.out H1.out.lt)
      have q4 := (H4.out.below HB3.out H4.out.lt)
      have q5 := (H5.out.below HB3.out H5.out.lt)
      have q6 := (H6.out.below HB3.out H6.out.lt)
      have q7 := (H7.out.below HB3.out H7.out.lt)
      have p1 := q1.grown HG7.out (row_not r3.row q1 (by decide))
      refine ⟨?_, A7, c7, L7, l7, _, p1.set_ 0 _, HR7.out.set_blk p1 (by decide), HSUC.out.symm, ⟨(q4.grown HG7.out (row_not r3.row q4 (by decide))).far (by show w.heap.size ≠ d + 1; omega) _, (q5.grown HG7.out (row_not r3.row q5 (by decide))).far (by show w.heap.size + 1 ≠ d + 1; omega) _, (q6.grown HG7.out (row_not r3.row q6 (by decide))).far (by show w.heap.size + 1 + 1 ≠ d + 1; omega) _, (q7.grown HG7.out (row_not r3.row q7 (by decide))).far (by show d + 1 + 1 ≠ d + 1; omega) _⟩, HN.out, ?_⟩
      · exact (((keeps_grown2 (grown_row none HB3.out) (fun r e => by cases e)).trans (keeps_grown2 HG7.out (fun g e => (hrowc g e).2))).trans (KeepsOthers.setCell _ _ _)).from _
      · exact ((below_then H9.out HB3.out).grown HG7.out (below_then H9.out HB3.out).size (fun g e => by have := (hrowc g e).1; omega)).setCell (p := ⟨d + 1, 0, none⟩) (by show w.heap.size ≤ d + 1; omega) _
  case done =>
    rintro D W hD ⟨Av, cv, L, lr, cc, h1, h2, h3, ⟨h4, h5, h6, h7⟩, h8, h9⟩ hK
    have H := Lib.hid (HFINE.out h8)
    have c1 := h1.cell 0
    have c5 := h5.cell 0
    have f5 := h5.frozen 0
    have c6 := h6.cell 0
    have f6 := h6.frozen 0
    simp only [Array.getElem?_singleton, if_true] at c1 c5 c6
    have H2 := Lib.hid h2
    have H3 := Lib.hid h3
    have H5 := Lib.hid h5
    have H6 := Lib.hid h6
    have H9 := Lib.hid h9
    have hLb : L ≤ 12 := by
      have e1 := h2.bl
      have e2 := compTo_le bb mm 12
      rw [← h3] at e2
      omega
    clear h1 h2 h3 h4 h5 h6 h7 h8 h9
    gi_wp2
    have e5 := H5.out.set_ 0 (.slice Av L cv)
    have e6 := H6.out.far (p := ⟨w.heap.size + 1, 0, none⟩) (by show w.heap.size + 1 + 1 ≠ w.heap.size + 1; omega) (.slice Av L cv)
    obtain ⟨Wa, hWa⟩ : ∃ Wa, W.setCell ⟨w.heap.size + 1, 0, none⟩ (.slice Av L cv) = Wa := ⟨_, rfl⟩
    have ra := H2.out.set_blk (j := 0) (u := .slice Av L cv) H5.out (by decide)
    have ba := H9.out.setCell (p := ⟨w.heap.size + 1, 0, none⟩) (by show w.heap.size ≤ w.heap.size + 1; omega) (.slice Av L cv)
    have ka : Wa.heap[D]? = some (.deferred (some [])) := by rw [← hWa]; exact (Below.heap_setCell W ⟨w.heap.size + 1, 0, none⟩ _ D (by show D ≠ w.heap.size + 1; omega)).trans hK
    rw [hWa] at e5 e6 ra ba ⊢
    have c6a := e6.cell 0
    simp only [Array.getElem?_singleton, if_true] at c6a
    have g5 := e5.far (p := ⟨w.heap.size + 1 + 1, 0, none⟩) (by show w.heap.size + 1 ≠ w.heap.size + 1 + 1; omega) (.int .i64 0)
    have g6 := e6.set_ 0 (.int .i64 0)
    have rb := ra.set_same (u := .int .i64 0) e6 (by decide) c6a
    have bb' := ba.setCell (p := ⟨w.heap.size + 1 + 1, 0, none⟩) (by show w.heap.size ≤ w.heap.size + 1 + 1; omega) (.int .i64 0)
    have kb : (Wa.setCell ⟨w.heap.size + 1 + 1, 0, none⟩ (.int .i64 0)).heap[D]? = some (.deferred (some [])) := (Below.heap_setCell Wa ⟨w.heap.size + 1 + 1, 0, none⟩ _ D (by show D ≠ w.heap.size + 1 + 1; omega)).trans ka
    obtain ⟨Wb, hWb⟩ : ∃ Wb, Wa.setCell ⟨w.heap.size + 1 + 1, 0, none⟩ (.int .i64 0) = Wb := ⟨_, rfl⟩
    rw [hWb] at g5 g6 rb bb' kb ⊢
    have rc := rb.kept (grownBy_putObj' Wb D (.deferred none)) (fun r e => by cases e; exact ⟨_, kb, rfl⟩)
    have q5 : (Wb.putObj D (.deferred none)).cell? ⟨w.heap.size + 1, 0, none⟩ = some (.slice Av L cv) := cell_kept (by simpa using g5.cell 0) (grownBy_putObj' Wb D _) (fun r e => by cases e; exact ⟨_, kb, rfl⟩)
    have q6 : (Wb.putObj D (.deferred none)).cell? ⟨w.heap.size + 1 + 1, 0, none⟩ = some (.int .i64 0) := cell_kept (by simpa using g6.cell 0) (grownBy_putObj' Wb D _) (fun r e => by cases e; exact ⟨_, kb, rfl⟩)
    obtain ⟨Ar, cr, er, hr⟩ := rc.binds (by omega)
    cases er
    refine ⟨by simp, .inl ⟨_, _, rfl, run_takeDeferred kb, ?_⟩⟩
    refine ⟨.tuple #[.slice Av L cv, .int .i64 0], (by rw [results_cells2 rfl]; go_simp), ?_⟩
    rw [H.out]
    refine ⟨Av, L, cv, lr, rfl, ?_, bb'.trans (belowK_b (w := W9) (by omega) _ D _ _ (by omega) kb rfl rfl)⟩
    show BindsAt _ _ _ _ _ (compTo bb mm 12)
    rw [← H3.out]
    exact hr
  case stop =>
    rintro D W hD ⟨h0, h5, h6, h9⟩ hK
    gi_wp2
    have q5 : (W.putObj D (.deferred none)).cell? ⟨w.heap.size + 1, 0, none⟩ = some (.slice none 0 0) := cell_kept (by simpa using h5.cell 0) (grownBy_putObj' W D _) (fun r e => by cases e; exact ⟨_, hK, rfl⟩)
    have q6 : (W.putObj D (.deferred none)).cell? ⟨w.heap.size + 1 + 1, 0, none⟩ = some (.int .i64 4) := cell_kept (by simpa using h6.cell 0) (grownBy_putObj' W D _) (fun r e => by cases e; exact ⟨_, hK, rfl⟩)
    refine ⟨by simp, .inl ⟨_, _, rfl, run_takeDeferred hK, ?_⟩⟩
    refine ⟨.tuple #[.slice none 0 0, .int .i64 4], (by rw [results_cells2 rfl]; go_simp), ?_⟩
    rw [h0]
    exact ⟨none, 0, 0, [], rfl, BindsAt.none _ _, h9.trans (belowK_b (w := W9) (by omega) _ D _ _ (by omega) hK rfl rfl)⟩

theorem compose_any (As Ab Am : Option Addr) (ns cs nb cb nm cm : Nat) (ss : Sg) (ls lm : List Hd) (bb mm : List Bd) (w : World) (hs : SigAt w w.heap.size As ns ss) (hb : BindsAt w w.heap.size Ab nb ls bb) (hm : BindsAt w w.heap.size Am nm lm mm) (hn : nb ≤ 1000000) (hn2 : nm ≤ 1000000) :
    Calls Try.prog 33 #[.slice As ns cs, .slice Ab nb cb, .slice Am nm cm] w (RetB w (compZ ss bb mm).1 (compZ ss bb mm).2) := by
  cases h1 : bindsOk ss bb
  · exact compose_bad As Ab Am ns cs nb cb nm cm ss ls lm bb mm w hs hb hm hn hn2 (.inl h1)
  · cases h2 : bindsOk ss mm
    · exact compose_bad As Ab Am ns cs nb cb nm cm ss ls lm bb mm w hs hb hm hn hn2 (.inr h2)
    · exact compose_ok As Ab Am ns cs nb cb nm cm ss ls lm bb mm w hs hb hm hn hn2 h1 h2

end Go.Proofs.Ytlciaecclcckbaa
