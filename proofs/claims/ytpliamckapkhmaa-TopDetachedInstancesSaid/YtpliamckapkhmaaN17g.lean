/- Contract: Compose. -/
import Derived.Test.YtpliamckapkhmaaN15g
/- Contracts: bound, Compose. -/
namespace Go.Proofs.Ytpliamckapkhmaa
open Go.RowKit Go.Shelf
attribute [local go_sem] Oper.semAt_some

theorem row_cells2 {w : World} {base : Nat} {e : TypeId} {size : Nat} {v : Value} {n : Nat} {xs : List Value} (h : w.ownsRow base e size v n xs) {g : Nat} (hg : v.ownBlock = some g) : ∃ cs, w.heap[g]? = some (.cells cs e (0, 0)) := by
  obtain ⟨_, ⟨rfl, _⟩ | ⟨g', cap, cur, rfl, _, hcur, _⟩⟩ := h
  · cases hg
  · cases hg; exact ⟨cur, hcur⟩
theorem BRowAt.kept {W W' : World} {base k : Nat} {v : Value} {ls : List Hd} {bb : List Bd} {row : Option Nat} (h : BRowAt W base v k ls bb) (hg : W.grownBy W' row) (hr : ∀ r, row = some r → ∃ o : Obj, W.heap[r]? = some o ∧ o.isCells = false) : BRowAt W' base v k ls bb := by
  refine ⟨h.row.kept hg ?_, h.ll, h.bl, fun j a b => ?_⟩
  · cases e : v.ownBlock with
    | none => exact .inl rfl
    | some g =>
      refine .inr fun e2 => ?_
      obtain ⟨cs, hcs⟩ := row_cells2 h.row e
      obtain ⟨o, ho, hc⟩ := hr g e2.symm
      rw [hcs] at ho
      cases ho
      cases hc
  · have hx := h.each j a b
    refine ⟨hx.len, hx.max, fun hn => ?_⟩
    obtain ⟨b', off, e, hb, hne, hc⟩ := hx.mem hn
    exact ⟨b', off, e, Nat.lt_of_lt_of_le hb hg.size, hne, fun j hj => cell_kept (hc j hj) hg hr⟩
theorem grown_comp {A B C : World} {row : Option Nat} (h : Below A.heap.size A B) (g : B.grownBy C row) : A.grownBy C row :=
  ⟨g.os.trans h.os, g.tape.trans h.tape, g.output.trans h.output, Nat.le_trans h.size g.size, fun k hk hr => (g.block k (Nat.lt_of_lt_of_le hk h.size) hr).trans (h.block k hk)⟩
theorem grown_row {A B : World} (row : Option Nat) (h : Below A.heap.size A B) : A.grownBy B row := ⟨h.os, h.tape, h.output, h.size, fun k hk _ => h.block k hk⟩

set_option maxRecDepth 100000 in
set_option maxHeartbeats 2000000 in
theorem bound_any (Av A4 : Option Addr) (L cv m c4 base : Nat) (v : Int) (lr : List Hd) (cc : List Bd) (ts : List Int) (w : World) (hr : BRowAt w base (.slice Av L cv) L lr cc) (ht : IntsBut w (Value.slice Av L cv).ownBlock A4 m ts) (hL : L ≤ 12) (hbase : base ≤ w.heap.size) (h0 : 0 ≤ v) (h1 : v < 12) :
    Calls Try.prog 83 #[.slice Av L cv, .int .i64 v, .slice A4 m c4] w fun e w' => ∃ A7 L7 c7 l7, e = .returned (.slice A7 L7 c7) ∧ BRowAt w' base (.slice A7 L7 c7) L7 l7 (cc ++ if ts = [-v - 1] then [] else [(v, ts)]) ∧ L7 ≤ L + 1 ∧ w.grownBy w' (Value.slice Av L cv).ownBlock := by
  obtain ⟨i0, hi, hz0, hz1, hz2⟩ := info_parts info_bind
  have CVAR := Lib.hid (variable_any v w (by omega) (by omega))
  have hB1 : Below w.heap.size w (w.alloc (.cells #[.int .i64 (-v - 1)] 3)) := bel_al (Below.refl _ _) _
  have CEQ := Lib.hid (eqT_any A4 (some ⟨w.heap.size, 0, none⟩) m c4 1 1 ts [-v - 1] _ _ (ht.below hB1).ints (ints_var w _))
  have HR := Lib.hid hr
  have HT := Lib.hid ht
  have HB1 := Lib.hid hB1
  by_cases hq : ts = [-v - 1]
  · have HQ := Lib.hid (show decide (ts = [-v - 1]) = true from decide_eq_true hq)
    rw [if_pos hq, List.append_nil]
    clear hr ht hB1 hq
    go_enter Try.func83, Try.ntmps83
    go_wp2_with (first
      | (go_at_call 72; ((with_reducible refine CVAR.out.mono ?_); rintro e w1 ⟨rfl, rfl⟩))
      | (go_at_call 71; refine CEQ.out.mono ?_; rintro e w2 ⟨rfl, j2, rfl⟩; rw [HQ.out]; have HB2 := Lib.hid (below_drewN HB1.out j2)))
    go_ret
    exact ⟨_, _, _, lr, rfl, HR.out.below HB2.out, by omega, grown_row _ HB2.out⟩
  · have HQ := Lib.hid (show decide (ts = [-v - 1]) = false from decide_eq_false hq)
    rw [if_neg hq]
    clear hr ht hB1 hq
    go_enter Try.func83, Try.ntmps83
    go_wp2_with (first
      | (go_at_call 72; ((with_reducible refine CVAR.out.mono ?_); rintro e w1 ⟨rfl, rfl⟩))
      | (go_at_call 71; refine CEQ.out.mono ?_; rintro e w2 ⟨rfl, j2, rfl⟩; rw [HQ.out]; have HB6 := Lib.hid (bel_al (below_drewN HB1.out j2) (.cells #[.int .i64 v, .slice A4 m c4] 78)); have HI6 := Lib.hid (HT.out.below HB6.out))
      | (at_builtin
         refine wpList_append_own_at _ rfl _ _ 36 rfl base 78 i0 _ 2 32 Try.underlying36 hi hz0 hz1 hz2 rfl (by omega) (.slice Av L cv) L (flatB lr cc) rfl (HR.out.below HB6.out).row ⟨w.heap.size + 1, 0, none⟩ 1 1 [.int .i64 v, .slice A4 m c4] rfl rfl
           ?_ (by simp [Value.oneCell']) (by unfold maxLen; omega) (by omega) (Nat.le_trans hbase HB6.out.size) ?_
         · exact World.news_of_block (cs := #[.int .i64 v, .slice A4 m c4]) (t := 78) (fr := (0, 0)) (blk_nx w _ j2 _ _)
         intro v7 w7 hown7 hg7 _ hv7
         have hrow7 := (HR.out.below HB6.out).push (x := (A4, m, c4)) (t := (v, ts)) HI6.out hown7 hg7 hv7
         obtain ⟨A7, c7, e7, _⟩ := hrow7.binds (by omega)
         subst e7
         have HROW7 := Lib.hid hrow7
         have HG7 := Lib.hid (grown_comp HB6.out hg7)
         clear hrow7 hown7 hg7 hv7))
    go_ret
    exact ⟨_, _, _, _, rfl, HROW7.out, by omega, HG7.out⟩

end Go.Proofs.Ytpliamckapkhmaa

namespace Go.Proofs.Ytpliamckapkhmaa
open Go.RowKit Go.Shelf
attribute [local go_sem] Oper.semAt_some

/-- What the rounds of Compose keep. -/
def IComp (w : World) (d : Nat) (Ab Am : Option Addr) (nb cb nm cm : Nat) (bb mm : List Bd) (k : Nat) (W : World) : Prop :=
  ∃ (Av : Option Addr) (cv L : Nat) (lr : List Hd) (cc : List Bd), Blk W (d + 1) 36 #[.slice Av L cv] ∧ BRowAt W d (.slice Av L cv) L lr cc ∧ cc = compTo bb mm k ∧
    (Blk W w.heap.size 36 #[.slice Am nm cm] ∧ Blk W (w.heap.size + 1) 36 #[.slice none 0 0] ∧ Blk W (w.heap.size + 1 + 1) 30 #[.int .i64 0] ∧ Blk W (d + 1 + 1) 36 #[.slice Ab nb cb]) ∧ ¬ LongTo bb mm k ∧ Below w.heap.size w W
theorem IComp.own {w : World} {d B nb cb nm cm : Nat} {Ab Am : Option Addr} {bb mm : List Bd} (hB : w.heap.size ≤ B) : OwnFrom B (IComp w d Ab Am nb cb nm cm bb mm) := by
  rintro k W W' row ⟨Av, cv, L, lr, cc, h1, h2, h3, ⟨h4, h5, h6, h7⟩, h8, h9⟩ hg hr
  have hr' := fun r e => (hr r e).2
  exact ⟨Av, cv, L, lr, cc, (grownBy_keeps_cells hg hr' h1 rfl).trans h1, h2.kept hg hr', h3, ⟨(grownBy_keeps_cells hg hr' h4 rfl).trans h4, (grownBy_keeps_cells hg hr' h5 rfl).trans h5, (grownBy_keeps_cells hg hr' h6 rfl).trans h6, (grownBy_keeps_cells hg hr' h7 rfl).trans h7⟩, h8, below_grown h9 hg hr hB⟩
def XComp (w : World) (CZ : List Bd × Int) (W : World) : Prop := CZ = ([], 4) ∧ Blk W (w.heap.size + 1) 36 #[.slice none 0 0] ∧ Blk W (w.heap.size + 1 + 1) 30 #[.int .i64 4] ∧ Below w.heap.size w W
theorem XComp.own {w : World} {B : Nat} {CZ : List Bd × Int} (hB : w.heap.size ≤ B) : OwnFrom B (fun (_ : Unit) W => XComp w CZ W) := by
  rintro _ W W' row ⟨h0, h4, h5, h7⟩ hg hr
  have hr' := fun r e => (hr r e).2
  exact ⟨h0, (grownBy_keeps_cells hg hr' h4 rfl).trans h4, (grownBy_keeps_cells hg hr' h5 rfl).trans h5, below_grown h7 hg hr hB⟩

end Go.Proofs.Ytpliamckapkhmaa
