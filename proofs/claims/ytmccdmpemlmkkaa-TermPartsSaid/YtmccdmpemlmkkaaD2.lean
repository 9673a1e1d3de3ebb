/- Contract: the reference's Ways. -/
import Derived.Test.YtmccdmpemlmkkaaH9
import Derived.Test.YtmccdmpemlmkkaaB5
import Derived.Test.YtmccdmpemlmkkaaC2
import Derived.Deep.RegionHeld3
import Derived.Deep.AppendLies
namespace Go.Proofs.Ytmccdmpemlmkkaa
open Go.RowKit

theorem info_ints : (Try.prog.info? 24).map (fun i => (i.zero, i.size, i.bytes)) = some (some (.slice none 0 0), 1, 24) := by kernel_rfl

/-- Nothing is appended. -/
theorem step_append_nil {P : Program} {ops : Array Oper} {o : Oper} {a : Act} {w : World} {K : Act → World → Prop} {Q : Exit → Act → World → Prop} {E : Prop} (hgd : o.guard = none) (s x : Operand) (t : TypeId)
    (ho : o.op = .call { callee := .builtin .append, args := #[s, x], argTypes := #[t, t] })
    (base : Nat) (e : TypeId) (i : TypeInfo) (size : Nat) (ht : P.underlying t = some (.slice e)) (hi : P.info? e = some i)
    (v : Value) (n : Nat) (xs : List Value) (hs : a.eval s = v) (hown : w.ownsRow base e size v n xs) (hx : a.eval x = .slice none 0 0)
    (h : K (a.put o.dst v) w) :
    if Region.wanted o (yielded ops a.tmps) = true then Oper.wp P o a w K Q else E := by
  have hw : Region.wanted o (yielded ops a.tmps) = true := by simp [Region.wanted, hgd]
  rw [if_pos hw]
  have hr := run_append_owned_none (P := P) w base t o.type e i size ht hi v n xs hown
  unfold Oper.wp execOp
  simp only [ho, resolve, invoke, builtin, Sem.run_bind, Sem.run_pure, Result.andThen_ok, List.map_toArray, List.map_cons, List.map_nil, hs, hx, hr]
  exact h

theorem cell_set_far {w : World} {b q : Nat} {u : Value} {p : Addr} (h : p.block ≠ b) : (w.setCell ⟨b, q, none⟩ u).cell? p = w.cell? p :=
  World.cell?_of_block (w := w) (heap_setCell_other w ⟨b, q, none⟩ p.block u h)
theorem cell_set_near {w : World} {b q a : Nat} {u : Value} (h : a ≠ q) : (w.setCell ⟨b, q, none⟩ u).cell? ⟨b, a, none⟩ = w.cell? ⟨b, a, none⟩ := World.cell?_setCell_other w ⟨b, q, none⟩ ⟨b, a, none⟩ u (fun e => h (by cases e; rfl))
/-- Ints are copied into an empty row of the call's own. -/
theorem step_copy_ints {ops : Array Oper} {o : Oper} {a : Act} {W : World} {K : Act → World → Prop} {Q : Exit → Act → World → Prop} {E : Prop} (hgd : o.guard = none) (s x : Operand)
    (ho : o.op = .call { callee := .builtin .append, args := #[s, x], argTypes := #[24, 24] })
    {H g : Nat} (hown : W.ownsRow H 3 1 (.slice (some ⟨g, 0, none⟩) 0 0) 0 []) (hs : a.eval s = .slice (some ⟨g, 0, none⟩) 0 0)
    {ad : Addr} {n c : Nat} {xs : List Int} (hx : a.eval x = .slice (some ad) n c) (hl : xs.length = n) (hnews : ∀ j u, (xs.map (Value.int .i64))[j]? = some u → W.cell? (ad.add j) = some u) (hn : 0 < n) (hn2 : n ≤ 1000) (hb : H ≤ W.heap.size)
    (h : ∀ g' cap W', W'.ownsRow H 3 1 (.slice (some ⟨g', 0, none⟩) n cap) n (xs.map (Value.int .i64)) → W.grownBy W' (some g) → K (a.put o.dst (.slice (some ⟨g', 0, none⟩) n cap)) W') :
    if Region.wanted o (yielded ops a.tmps) = true then Oper.wp Try.prog o a W K Q else E := by
  obtain ⟨i0, hi, hz0, hz1, hz2⟩ := info_parts info_int
  refine step_append_lies W hgd s x 24 ho H 3 i0 _ 1 8 Try.underlying24 hi hz0 hz1 hz2 rfl (by omega) _ 0 [] hs hown ad n c (xs.map (Value.int .i64)) hx (by simp [hl]) hnews (ints_one xs) hn (by unfold maxLen; omega) (by omega) hb _ rfl ?_
  intro g' cap W' h1 h2 _ _
  rw [Nat.zero_add, List.nil_append] at h1
  rw [Nat.zero_add]
  exact h g' cap W' h1 h2
/-- One more int. -/
theorem step_push_int {ops : Array Oper} {o : Oper} {a : Act} {W : World} {K : Act → World → Prop} {Q : Exit → Act → World → Prop} {E : Prop} (hgd : o.guard = none) (s x : Operand)
    (ho : o.op = .call { callee := .builtin .append, args := #[s, x], argTypes := #[24, 24] })
    {H g n cap : Nat} {xs : List Int} (hown : W.ownsRow H 3 1 (.slice (some ⟨g, 0, none⟩) n cap) n (xs.map (Value.int .i64))) (hs : a.eval s = .slice (some ⟨g, 0, none⟩) n cap)
    {b : Nat} {k : Int} (hx : a.eval x = .slice (some ⟨b, 0, none⟩) 1 1) (hk : W.heap[b]? = some (.cells #[.int .i64 k] 3 (0, 0))) (hn2 : n ≤ 1000) (hb : H ≤ W.heap.size)
    (h : ∀ g' cap' W', W'.ownsRow H 3 1 (.slice (some ⟨g', 0, none⟩) (n + 1) cap') (n + 1) ((xs ++ [k]).map (Value.int .i64)) → W.grownBy W' (some g) → K (a.put o.dst (.slice (some ⟨g', 0, none⟩) (n + 1) cap')) W') :
    if Region.wanted o (yielded ops a.tmps) = true then Oper.wp Try.prog o a W K Q else E := by
  obtain ⟨i0, hi, hz0, hz1, hz2⟩ := info_parts info_int
  refine step_append_lies W hgd s x 24 ho H 3 i0 _ 1 8 Try.underlying24 hi hz0 hz1 hz2 rfl (by omega) _ n (xs.map (Value.int .i64)) hs hown ⟨b, 0, none⟩ 1 1 [.int .i64 k] hx rfl (World.news_of_block (cs := #[.int .i64 k]) (t := 3) (fr := (0, 0)) hk) (by simp [Value.oneCell']) (by omega) (by unfold maxLen; omega) (by omega) hb _ rfl ?_
  intro g' cap' W' h1 h2 _ _
  have e : xs.map (Value.int .i64) ++ [.int .i64 k] = (xs ++ [k]).map (Value.int .i64) := by simp
  rw [e] at h1
  exact h g' cap' W' h1 h2

theorem step_push_first {ops : Array Oper} {o : Oper} {a : Act} {W : World} {K : Act → World → Prop} {Q : Exit → Act → World → Prop} {E : Prop} (hgd : o.guard = none) (s x : Operand)
    (ho : o.op = .call { callee := .builtin .append, args := #[s, x], argTypes := #[24, 24] })
    {H g cap : Nat} (hown : W.ownsRow H 3 1 (.slice (some ⟨g, 0, none⟩) 0 cap) 0 []) (hs : a.eval s = .slice (some ⟨g, 0, none⟩) 0 cap)
    {b : Nat} {k : Int} (hx : a.eval x = .slice (some ⟨b, 0, none⟩) 1 1) (hk : W.heap[b]? = some (.cells #[.int .i64 k] 3 (0, 0))) (hb : H ≤ W.heap.size)
    (h : ∀ g' cap' W', W'.ownsRow H 3 1 (.slice (some ⟨g', 0, none⟩) 1 cap') 1 ([k].map (Value.int .i64)) → W.grownBy W' (some g) → K (a.put o.dst (.slice (some ⟨g', 0, none⟩) 1 cap')) W') :
    if Region.wanted o (yielded ops a.tmps) = true then Oper.wp Try.prog o a W K Q else E :=
  step_push_int (xs := []) hgd s x ho hown hs hx hk (by omega) hb (fun g' cap' W' h1 h2 => h g' cap' W' h1 h2)

/-- The part at an index is known: the first, or argument k of an earlier one. -/
def Dn (ss : Sg) (zs : List Int) (a j i : Nat) : Prop := i = 0 ∨ ∃ a' k, (a' < a ∨ (a' = a ∧ k < j)) ∧ a' < zs.length ∧ k < arOf ss (zs.getD a' 0) ∧ psA ss zs a' k = i
structure WaysAt (ss : Sg) (zs : List Int) (W : World) (b0 n a j : Nat) (ls : List Hd) : Prop where
  len : ls.length = n
  blk : Blk W b0 24 (ls.map Hd.val).toArray
  zero : ls[0]? = some (none, 0, 0)
  done : ∀ i x, ls[i]? = some x → Dn ss zs a j i → IntsBut W (some b0) x.1 x.2.1 (pthI ss zs i)
section
variable {ss : Sg} {zs : List Int} {W : World} {b0 n a j : Nat} {ls : List Hd}
theorem WaysAt.below {W' : World} (h : WaysAt ss zs W b0 n a j ls) (hb : Below W.heap.size W W') : WaysAt ss zs W' b0 n a j ls :=
  ⟨h.len, h.blk.below hb h.blk.lt, h.zero, fun i x h1 h2 => (h.done i x h1 h2).below hb⟩
theorem WaysAt.start (hn : 1 ≤ n) (hb : Blk W b0 24 (madeCells #[.slice none 0 0] (n * 1))) (hz : pthI ss zs 0 = []) : WaysAt ss zs W b0 n 0 0 (List.replicate n (none, 0, 0)) := by
  refine ⟨by simp, ?_, by rw [List.getElem?_replicate, if_pos (by omega)], fun i x h1 h2 => ?_⟩
  · have : madeCells #[Value.slice none 0 0] (n * 1) = ((List.replicate n ((none, 0, 0) : Hd)).map Hd.val).toArray := by
      unfold madeCells
      apply Array.ext
      · simp
      · intro i h1 h2
        simp [Nat.mod_one, Hd.val]
    rw [← this]; exact hb
  · rcases h2 with rfl | ⟨a', k, h3, _⟩
    · have : x = (none, 0, 0) := by
        have := List.mem_of_getElem? h1
        exact List.eq_of_mem_replicate this
      subst this
      rw [hz]
      exact ⟨rfl, by simp, fun h => absurd h (by simp)⟩
    · omega
theorem WaysAt.next (h : WaysAt ss zs W b0 n a j ls) (hj : arOf ss (zs.getD a 0) ≤ j) : WaysAt ss zs W b0 n (a + 1) 0 ls :=
  ⟨h.len, h.blk, h.zero, fun i x h1 h2 => h.done i x h1 (by
    rcases h2 with rfl | ⟨a', k, h3, h4, h5, h6⟩
    · exact .inl rfl
    · refine .inr ⟨a', k, ?_, h4, h5, h6⟩
      rcases h3 with h3 | ⟨_, h3⟩
      · by_cases e : a' = a
        · subst e; exact .inr ⟨rfl, by omega⟩
        · exact .inl (by omega)
      · omega)⟩
theorem WaysAt.put (h : WaysAt ss zs W b0 n a j ls) {x : Hd} (hq : 1 ≤ psA ss zs a j) (hx : IntsBut W (some b0) x.1 x.2.1 (pthI ss zs (psA ss zs a j))) :
    WaysAt ss zs (W.setCell ⟨b0, psA ss zs a j, none⟩ x.val) b0 n a (j + 1) (ls.set (psA ss zs a j) x) := by
  refine ⟨by rw [List.length_set]; exact h.len, ?_, by rw [List.getElem?_set_ne (by omega)]; exact h.zero, fun i y h1 h2 => ?_⟩
  · have := h.blk.set_ (psA ss zs a j) x.val
    rw [List.setIfInBounds_toArray, ← List.map_set] at this
    exact this
  · by_cases e : psA ss zs a j = i
    · subst e
      have hlt : psA ss zs a j < ls.length := by
        have := (List.getElem?_eq_some_iff.1 h1).1
        rwa [List.length_set] at this
      rw [List.getElem?_set_self hlt] at h1
      obtain rfl := Option.some.inj h1
      exact hx.setCell
    · rw [List.getElem?_set_ne e] at h1
      refine (h.done i y h1 ?_).setCell
      rcases h2 with rfl | ⟨a', k, h3, h4, h5, h6⟩
      · exact .inl rfl
      · refine .inr ⟨a', k, ?_, h4, h5, h6⟩
        rcases h3 with h3 | ⟨rfl, h3⟩
        · exact .inl h3
        · by_cases e2 : k = j
          · subst e2; exact absurd h6 e
          · exact .inr ⟨rfl, by omega⟩
end

set_option maxRecDepth 100000 in
set_option maxHeartbeats 2000000 in
theorem refWays_any (As At : Option Addr) (ns cs nt ct : Nat) (ss : Sg) (zs : List Int) (w : World) (hs : SigAt w w.heap.size As ns ss) (ht : IntsAt w w.heap.size At nt zs) (hv : valOk ss zs = true) :
    Calls Try.prog 59 #[.slice As ns cs, .slice At nt ct] w fun e w' => ∃ ls, e = .returned (.slice (some ⟨w.heap.size, 0, none⟩) nt nt) ∧ WaysAt ss zs w' w.heap.size nt nt 0 ls ∧ Below w.heap.size w w' := by
  obtain ⟨i0, hi, hz0, hz1, hz2⟩ := info_parts info_int
  obtain ⟨i1, hj, hy0, hy1, hy2⟩ := info_parts info_ints
  obtain ⟨h1, h60, hnum, hscan⟩ := valOk_term hv
  have har := sigOk_ar (valOk_sig hv)
  have hh : HeadsOk ss zs := fun z hz => (hnum z hz).2
  have hlt := ht.len
  have HWI := Lib.hid (walk_of hv)
  have HZ := Lib.hid (pth_zero hv)
  have HST := Lib.hid (fun a k (ha : a < zs.length) (hk : k < arOf ss (zs.getD a 0)) => pth_step hv ha hk)
  have HPL := Lib.hid (fun i => pthI_len hv i)
  have HAR3 := Lib.hid (fun z => arOf_le har z)
  have C1 := Lib.hid (fun V (hb : Below w.heap.size w V) b (hpt : PartAt ss zs b) => by
    obtain ⟨p1, r0, p2⟩ := hpt
    have := refArgs_any As At ns cs nt ct ss zs r0 b V (hs.up hb) (ht.up hb) har hh (by omega) p1 p2
    rw [← PartAt.getD ⟨p1, r0, p2⟩] at this
    exact this)
  have HPS := Lib.hid (fun b (hpt : PartAt ss zs b) k (hk : k < arOf ss (zs.getD b 0)) => show b < psA ss zs b k ∧ psA ss zs b k < nt by
    have h3 := (hpt.arg hk).1
    have hk' := hk
    rw [hpt.getD] at hk'
    obtain ⟨p1, p2, _⟩ := prt_pos hpt.is hpt.1 (Nat.le_of_lt hk')
    omega)
  have hmk : ∀ W : World, (Instr.makeSlice 49 (.int .i64 (nt : Int)) (.int .i64 (nt : Int))).run Try.prog W = .ok (.slice (some ⟨W.heap.size, 0, none⟩) nt nt) (W.alloc (.cells (madeCells #[.slice none 0 0] (nt * 1)) 24)) := by
    intro W
    have := run_make_rowN (P := Try.prog) 49 24 i1 _ Try.underlying49 hj hy0 .i64 .i64 nt nt (Nat.le_refl _) (by rw [hy2]; omega) (by omega) W
    rw [hy1] at this
    exact this
  have HLT := Lib.hid hlt
  have hn1 : 1 ≤ nt := by omega
  have hn60 : nt ≤ 60 := by omega
  clear hs ht hv h1 h60 hnum hscan har hh hlt hj hy0 hy1 hy2
  obtain ⟨mc, hmc⟩ : ∃ mc, madeCells #[Value.slice none 0 0] (nt * 1) = mc := ⟨_, rfl⟩
  simp only [hmc] at hmk
  have HMC := Lib.hid hmc
  clear hmc
  go_enter Try.func59, Try.ntmps59
  go_wp2
  clear hmk
  go_loopw [6] (fun i wr => ∃ (a : Nat) (ls : List Hd), a ≤ nt ∧ i = .int .i64 a ∧ WaysAt ss zs wr w.heap.size nt a 0 ls ∧ Below w.heap.size w wr) (fun i _ => nt - (intOf i).toNat)
  case atStart => exact ⟨0, _, Nat.zero_le _, rfl, WaysAt.start hn1 (by rw [HMC.out]; exact Blk.new _ _ _) HZ.out, (Below.refl _ _).alloc (Nat.le_refl _) _⟩
  case round =>
    obtain ⟨a, ls, ha, rfl, hW, hB⟩ := hrel
    by_cases hlt : a < nt
    · have haz : a < zs.length := by rw [← HLT.out]; exact hlt
      have hpt := HWI.out.part a haz
      have hr3 := HAR3.out (zs.getD a 0)
      have hps := fun k hk => HPS.out a hpt k hk
      have hst := fun k hk => HST.out a k haz hk
      have C2 := Lib.hid (C1.out _ hB a hpt)
      have hdn : ∀ j, Dn ss zs a j a := fun j => by
        rcases Nat.eq_zero_or_pos a with h | h
        · exact .inl h
        · obtain ⟨a', k, q1, q2, q3⟩ := HWI.out.par a h haz
          exact .inr ⟨a', k, .inl q1, by omega, q2, q3⟩
      have hnx := fun (W : World) (ls : List Hd) j (h : WaysAt ss zs W w.heap.size nt a j ls) (hj : arOf ss (zs.getD a 0) ≤ j) => h.next hj
      obtain ⟨r, hr⟩ : ∃ r, arOf ss (zs.getD a 0) = r := ⟨_, rfl⟩
      rw [hr] at hr3 hps hst C2 hnx
      have HDN := Lib.hid hdn
      have HNX := Lib.hid hnx
      have HBL := Lib.hid (begs_len ss zs a r)
      have HBG := Lib.hid (fun k (hk : k < r) => show (begs ss zs a r)[k]? = some ((psA ss zs a k : Nat) : Int) by simp [begs, hk])
      have HWA := Lib.hid hW
      have HB := Lib.hid hB
      have HPS2 := Lib.hid hps
      have HST2 := Lib.hid hst
      clear hpt hps hst hdn hnx hr hW hB haz
      go_wp2_with (go_at_call 51; refine C2.out.mono ?_; rintro e w2 ⟨v, rfl, hrow, hB2⟩
                   obtain ⟨Ar, cr, her, hra⟩ := IntsBut.of_row (g := some w.heap.size) hrow (by omega) (fun k e => by cases e; exact HWA.out.blk.lt)
                   subst her
                   have HW2 := Lib.hid (HWA.out.below hB2)
                   have HB2 := Lib.hid (below_then HB.out hB2)
                   have HRA := Lib.hid hra
                   clear hrow hB2 hra)
      go_loopw [8] (fun i wr => ∃ (j : Nat) (ls : List Hd), j ≤ r ∧ i = .int .i64 j ∧ WaysAt ss zs wr w.heap.size nt a j ls ∧ IntsBut wr (some w.heap.size) Ar r (begs ss zs a r) ∧ Below w.heap.size w wr) (fun i _ => r - (intOf i).toNat)
      case atStart => exact ⟨0, ls, Nat.zero_le _, rfl, HW2.out, HRA.out, HB2.out⟩
      case round =>
        obtain ⟨j, ls, hj, rfl, hW, hR, hB⟩ := hrel
        by_cases hlt2 : j < r
        · obtain ⟨hq1, hq2⟩ := HPS2.out j hlt2
          have hst := HST2.out j hlt2
          obtain ⟨gl, ol, rfl, hgl, hgn, hgc⟩ := hR.mem (by omega)
          have cl := hgc j (by rw [HBL.out]; exact hlt2)
          have hbg := HBG.out j hlt2
          rw [List.getElem?_eq_getElem (by rw [HBL.out]; exact hlt2)] at hbg
          rw [Option.some.inj hbg] at cl
          have hla : a < ls.length := by rw [hW.len]; exact hlt
          obtain ⟨⟨A1, n1, c1⟩, hx⟩ : ∃ x, ls[a]? = some x := ⟨_, List.getElem?_eq_getElem hla⟩
          have hd := hW.done a _ hx (HDN.out j)
          simp only at hd
          have ca := (hW.blk.cell a).trans (by rw [List.getElem?_toArray, List.getElem?_map, hx]; rfl : _ = some (Value.slice A1 n1 c1))
          have hz0' := hW.zero
          have hput := fun (W5 : World) (hb : Below wr.heap.size wr W5) (x : Hd) (hx : IntsBut W5 (some w.heap.size) x.1 x.2.1 (pthI ss zs a ++ [(j : Int)])) => (hW.below hb).put (x := x) (by omega) (by rw [hst]; exact hx)
          have cq := (hW.blk.cell (psA ss zs a j)).trans (by rw [List.getElem?_toArray, List.getElem?_map, List.getElem?_eq_getElem (show psA ss zs a j < ls.length by rw [hW.len]; exact hq2)]; rfl : _ = some (Hd.val (ls[psA ss zs a j]'(by rw [hW.len]; exact hq2))))
          have fq := hW.blk.frozen (psA ss zs a j)
          obtain ⟨uq, huq⟩ : ∃ u, Hd.val (ls[psA ss zs a j]'(by rw [hW.len]; exact hq2)) = u := ⟨_, rfl⟩
          rw [huq] at cq
          have hNl := hW.blk.lt
          obtain ⟨q, hq⟩ : ∃ q, psA ss zs a j = q := ⟨_, rfl⟩
          rw [hq] at hq1 hq2 cl cq fq hput
          obtain ⟨N, hN⟩ : ∃ N, w.heap.size = N := ⟨_, rfl⟩
          rw [hN] at hNl ca cq fq hd hput hgn
          have hpl := HPL.out a
          have hn1l := hd.len
          have hNH : N < wr.heap.size := by omega
          have hrow : ∀ (W5 : World) (g5 cap5 : Nat), W5.ownsRow wr.heap.size 3 1 (.slice (some ⟨g5, 0, none⟩) (n1 + 1) cap5) (n1 + 1) ((pthI ss zs a ++ [(j : Int)]).map (Value.int .i64)) → IntsBut W5 (some N) (some ⟨g5, 0, none⟩) (n1 + 1) (pthI ss zs a ++ [(j : Int)]) := by
            intro W5 g5 cap5 h
            obtain ⟨A, c, e2, hI⟩ := IntsBut.of_row (g := some N) h (by omega) (fun k e => by cases e; exact hNH)
            cases e2
            exact hI
          have HROWX := Lib.hid hrow
          have hglN : gl ≠ N := fun e => hgn (by rw [e])
          have HPUT := Lib.hid hput
          have HRR := Lib.hid hR
          have HBw := Lib.hid hB
          have HN := Lib.hid hN
          have HQ := Lib.hid hq
          have hj0 : (0 : Int) ≤ (j : Int) := by omega
          have hj1 : (j : Int) < (r : Int) := by omega
          have ha0 : (0 : Int) ≤ (a : Int) := by omega
          have ha1 : (a : Int) < (nt : Int) := by omega
          have hq0 : (0 : Int) ≤ (q : Int) := by omega
          have hq3 : (q : Int) < (nt : Int) := by omega
          have HD0 : Hid (Below wr.heap.size wr wr.drew) := Lib.hid ((Below.refl _ _).drew)
          have HOA : Hid ((wr.drew.alloc (.cells #[] 3)).ownsRow wr.heap.size 3 1 (.slice (some ⟨wr.heap.size, 0, none⟩) 0 0) 0 []) := Lib.hid (World.ownsRow_lit wr.drew #[] 0 (Nat.le_refl _) (by unfold maxLen; omega) rfl)
          have HBA : Hid (Below wr.heap.size wr (wr.drew.alloc (.cells #[] 3))) := Lib.hid (HD0.out.alloc (Nat.le_refl _) _)
          have HOB := Lib.hid (HOA.out.alloc (.cells #[.int .i64 (j : Int)] 3))
          have HBB : Hid (Below wr.heap.size wr ((wr.drew.alloc (.cells #[] 3)).alloc (.cells #[.int .i64 (j : Int)] 3))) := Lib.hid (HBA.out.alloc HBA.out.size _)
          have HOC : Hid (((wr.drew.alloc (.cells #[.int .i64 (j : Int)] 3)).alloc (.cells #[] 3)).ownsRow wr.heap.size 3 1 (.slice (some ⟨wr.heap.size + 1, 0, none⟩) 0 0) 0 []) := Lib.hid (by
            have := World.ownsRow_lit (base := wr.heap.size) (e := 3) (size := 1) (wr.drew.alloc (.cells #[.int .i64 (j : Int)] 3)) #[] 0 (by rw [World.size_alloc]; exact Nat.le_succ _) (by unfold maxLen; omega) rfl
            rw [World.size_alloc, show wr.drew.heap.size = wr.heap.size from rfl] at this
            exact this)
          have HBC : Hid (Below wr.heap.size wr ((wr.drew.alloc (.cells #[.int .i64 (j : Int)] 3)).alloc (.cells #[] 3))) := Lib.hid ((HD0.out.alloc (Nat.le_refl _) _).alloc (by rw [World.size_alloc]; exact Nat.le_succ _) _)
          have HKB : Hid (((wr.drew.alloc (.cells #[] 3)).alloc (.cells #[.int .i64 (j : Int)] 3)).heap[wr.heap.size + 1]? = some (.cells #[.int .i64 (j : Int)] 3 (0, 0))) := Lib.hid (by
            have := heap_alloc_new (wr.drew.alloc (.cells #[] 3)) (.cells #[.int .i64 (j : Int)] 3)
            rw [World.size_alloc, show wr.drew.heap.size = wr.heap.size from rfl] at this
            exact this)
          have HKC : Hid (((wr.drew.alloc (.cells #[.int .i64 (j : Int)] 3)).alloc (.cells #[] 3)).heap[wr.heap.size]? = some (.cells #[.int .i64 (j : Int)] 3 (0, 0))) := Lib.hid (by
            exact (Below.heap_alloc _ _ _ (by simp)).trans (heap_alloc_new wr.drew _))
          rw [hN]
          by_cases hap : a = 0
          · have hz1' : ls[a]? = some (none, 0, 0) := by rw [hap]; exact hz0'
            have hx0 : (A1, n1, c1) = (none, 0, 0) := Option.some.inj (hx.symm.trans hz1')
            have hpe : pthI ss zs a = [] := by rw [hap]; exact HZ.out
            cases hx0
            have hrow0 : ∀ (W5 : World) (g5 cap5 : Nat), W5.ownsRow wr.heap.size 3 1 (.slice (some ⟨g5, 0, none⟩) 1 cap5) 1 ([(j : Int)].map (Value.int .i64)) → IntsBut W5 (some N) (some ⟨g5, 0, none⟩) 1 (pthI ss zs a ++ [(j : Int)]) := by
              intro W5 g5 cap5 h
              rw [hpe]
              obtain ⟨A, c, e2, hI⟩ := IntsBut.of_row (g := some N) h (by omega) (fun k e => by cases e; exact hNH)
              cases e2
              exact hI
            have HROW0 := Lib.hid hrow0
            clear hst hgc hgn hbg hla hx hd hput hrow hrow0 hW hR hB hz0' huq hq hN hn1l hpl HROWX hap hpe hz1'
            go_wp2_with fail
            go_region_held3 (fun w' => w'.cell? ⟨gl, ol + j, none⟩ = some (.int .i64 (q : Int)) ∧ w'.cell? ⟨N, a, none⟩ = some (.slice none 0 0))
              (first | go_keep | assumption | (exact ⟨by assumption, by assumption⟩))
              (first
            | (refine step_append_nil (by rfl) _ _ 24 (by rfl) wr.heap.size 3 i0 1 Try.underlying24 hi (.slice (some ⟨wr.heap.size, 0, none⟩) 0 0) 0 [] (by rfl) HOA.out (by rfl) ?_)
            | (refine step_append_nil (by rfl) _ _ 24 (by rfl) wr.heap.size 3 i0 1 Try.underlying24 hi (.slice (some ⟨wr.heap.size, 0, none⟩) 0 0) 0 [] (by rfl) HOB.out (by rfl) ?_)
            | (refine step_append_nil (by rfl) _ _ 24 (by rfl) wr.heap.size 3 i0 1 Try.underlying24 hi (.slice (some ⟨wr.heap.size + 1, 0, none⟩) 0 0) 0 [] (by rfl) HOC.out (by rfl) ?_)
            | (refine step_push_first (by rfl) _ _ (by rfl) HOB.out (by rfl) (by rfl) HKB.out HBB.out.size ?_
               intro g5 cap5 W5 hrow5 hg5
               have hb5 := HBB.out.grown hg5 HBB.out.size (fun j e => (HOB.out.lt j e).1)
               have cl5 := (hb5.cell (p := ⟨gl, ol + j, none⟩) hgl).trans cl
               have ca5 := (hb5.cell (p := ⟨N, a, none⟩) hNl).trans ca
               have cq5 := (hb5.cell (p := ⟨N, q, none⟩) hNl).trans cq
               have fq5 := (hb5.frozen (p := ⟨N, q, none⟩) hNl).trans fq
               have cl6 := (cell_set_far (w := W5) (q := q) (u := .slice (some ⟨g5, 0, none⟩) 1 cap5) (p := ⟨gl, ol + j, none⟩) hglN).trans cl5
               have ca6 := (cell_set_near (w := W5) (b := N) (q := q) (u := .slice (some ⟨g5, 0, none⟩) 1 cap5) (show a ≠ q by omega)).trans ca5
               have HX5 := Lib.hid (HROW0.out W5 g5 cap5 hrow5)
               have HB5 := Lib.hid hb5
               clear hrow5 hg5 hb5)
            | (refine step_push_first (by rfl) _ _ (by rfl) HOC.out (by rfl) (by rfl) HKC.out HBC.out.size ?_
               intro g5 cap5 W5 hrow5 hg5
               have hb5 := HBC.out.grown hg5 HBC.out.size (fun j e => (HOC.out.lt j e).1)
               have cl5 := (hb5.cell (p := ⟨gl, ol + j, none⟩) hgl).trans cl
               have ca5 := (hb5.cell (p := ⟨N, a, none⟩) hNl).trans ca
               have cq5 := (hb5.cell (p := ⟨N, q, none⟩) hNl).trans cq
               have fq5 := (hb5.frozen (p := ⟨N, q, none⟩) hNl).trans fq
               have cl6 := (cell_set_far (w := W5) (q := q) (u := .slice (some ⟨g5, 0, none⟩) 1 cap5) (p := ⟨gl, ol + j, none⟩) hglN).trans cl5
               have ca6 := (cell_set_near (w := W5) (b := N) (q := q) (u := .slice (some ⟨g5, 0, none⟩) 1 cap5) (show a ≠ q by omega)).trans ca5
               have HX5 := Lib.hid (HROW0.out W5 g5 cap5 hrow5)
               have HB5 := Lib.hid hb5
               clear hrow5 hg5 hb5))
            all_goals
              go_wp2
              go_roundw
              case rel =>
                refine ⟨j + 1, ls.set q (some ⟨g5, 0, none⟩, 1, cap5), by omega, by go_num, ?_, ?_, ?_⟩
                · first | exact HPUT.out W5 HB5.out (some ⟨g5, 0, none⟩, 1, cap5) HX5.out | (rw [HN.out]; exact HPUT.out W5 HB5.out (some ⟨g5, 0, none⟩, 1, cap5) HX5.out)
                · have := (HRR.out.below HB5.out).setCell (k := q) (u := .slice (some ⟨g5, 0, none⟩) (1) cap5)
                  rw [HN.out] at this
                  first | exact this | (rw [HN.out]; exact this)
                · have := (HBw.out.trans (HB5.out.mono HBw.out.size)).setCell (p := ⟨N, q, none⟩) (Nat.le_of_eq HN.out) (.slice (some ⟨g5, 0, none⟩) 1 cap5)
                  first | exact this | (rw [HN.out] at this; exact this)
              case measure => simp [intOf]; omega
          · have hn1 : 0 < n1 := by
              rcases Nat.eq_zero_or_pos n1 with h | h
              · exfalso
                obtain ⟨a', k, q1, q2, q3⟩ := HWI.out.par a (by omega) (by rw [← HLT.out]; exact hlt)
                have e1 := HST.out a' k (by have := HLT.out; omega) q2
                rw [q3] at e1
                have e2 := hd.len
                rw [e1] at e2
                simp at e2
                omega
              · exact h
            obtain ⟨b1, o1, rfl, hb1, _, hc1⟩ := hd.mem hn1
            have HN1 : Hid (∀ V, Below wr.heap.size wr V → ∀ j u, ((pthI ss zs a).map (Value.int .i64))[j]? = some u → V.cell? ((⟨b1, o1, none⟩ : Addr).add j) = some u) := Lib.hid (fun V hb => ints_news' (B := wr.heap.size) (n := n1) ⟨hd.len, hd.max, fun _ => ⟨b1, o1, rfl, hb1, fun j hj => (hb.cell (p := ⟨b1, o1 + j, none⟩) hb1).trans (hc1 j hj)⟩⟩)
            have HL1 := Lib.hid (show (pthI ss zs a).length = n1 by omega)
            have hn60' : n1 ≤ 1000 := by omega
            have HO1 := Lib.hid (ints_one (pthI ss zs a))
            clear hst hgc hgn hbg hla hx hd hput hrow hW hR hB hz0' huq hq hN hc1 hn1l hpl
            go_wp2_with fail
            go_region_held3 (fun w' => w'.cell? ⟨gl, ol + j, none⟩ = some (.int .i64 (q : Int)) ∧ w'.cell? ⟨N, a, none⟩ = some (.slice (some ⟨b1, o1, none⟩) n1 c1))
              (first | go_keep | assumption | (exact ⟨by assumption, by assumption⟩))
              (first
            | (refine step_copy_ints (by rfl) _ _ (by rfl) HOA.out (by rfl) (by rfl) HL1.out (HN1.out _ HBA.out) hn1 hn60' HBA.out.size ?_
               intro g3a cap3a W3a hrow3 hg3
               have hb3 := HBA.out.grown hg3 HBA.out.size (fun j e => (HOA.out.lt j e).1)
               have cl3a := (hb3.cell (p := ⟨gl, ol + j, none⟩) hgl).trans cl
               have ca3a := (hb3.cell (p := ⟨N, a, none⟩) hNl).trans ca
               have HROW3a := Lib.hid hrow3
               have HB3a := Lib.hid hb3
               clear hrow3 hg3 hb3)
            | (refine step_copy_ints (by rfl) _ _ (by rfl) HOB.out (by rfl) (by rfl) HL1.out (HN1.out _ HBB.out) hn1 hn60' HBB.out.size ?_
               intro g3b cap3b W3b hrow3 hg3
               have hb3 := HBB.out.grown hg3 HBB.out.size (fun j e => (HOB.out.lt j e).1)
               have cl3b := (hb3.cell (p := ⟨gl, ol + j, none⟩) hgl).trans cl
               have ca3b := (hb3.cell (p := ⟨N, a, none⟩) hNl).trans ca
               have HROW3b := Lib.hid hrow3
               have HB3b := Lib.hid hb3
               have HK3b := Lib.hid (show W3b.heap[wr.heap.size + 1]? = some (.cells #[.int .i64 (j : Int)] 3 (0, 0)) from (hg3.block _ (by simp <;> omega) (by simp)).trans HKB.out)
               clear hrow3 hg3 hb3)
            | (refine step_copy_ints (by rfl) _ _ (by rfl) HOC.out (by rfl) (by rfl) HL1.out (HN1.out _ HBC.out) hn1 hn60' HBC.out.size ?_
               intro g3c cap3c W3c hrow3 hg3
               have hb3 := HBC.out.grown hg3 HBC.out.size (fun j e => (HOC.out.lt j e).1)
               have cl3c := (hb3.cell (p := ⟨gl, ol + j, none⟩) hgl).trans cl
               have ca3c := (hb3.cell (p := ⟨N, a, none⟩) hNl).trans ca
               have HROW3c := Lib.hid hrow3
               have HB3c := Lib.hid hb3
               have HK3c := Lib.hid (show W3c.heap[wr.heap.size]? = some (.cells #[.int .i64 (j : Int)] 3 (0, 0)) from (hg3.block _ (by simp <;> omega) (by simp)).trans HKC.out)
               clear hrow3 hg3 hb3)
            | (refine step_push_int (by rfl) _ _ (by rfl) (HROW3a.out.alloc _) (by rfl) (by rfl) (heap_alloc_new W3a _) hn60' (HB3a.out.alloc HB3a.out.size (.cells #[.int .i64 (j : Int)] 3)).size ?_
               intro g5 cap5 W5 hrow5 hg5
               have hb5 := (HB3a.out.alloc HB3a.out.size (.cells #[.int .i64 (j : Int)] 3)).grown hg5 (HB3a.out.alloc HB3a.out.size (.cells #[.int .i64 (j : Int)] 3)).size (fun j e => (HROW3a.out.lt j e).1)
               have cl5 := (hb5.cell (p := ⟨gl, ol + j, none⟩) hgl).trans cl
               have ca5 := (hb5.cell (p := ⟨N, a, none⟩) hNl).trans ca
               have cq5 := (hb5.cell (p := ⟨N, q, none⟩) hNl).trans cq
               have fq5 := (hb5.frozen (p := ⟨N, q, none⟩) hNl).trans fq
               have cl6 := (cell_set_far (w := W5) (q := q) (u := .slice (some ⟨g5, 0, none⟩) (n1 + 1) cap5) (p := ⟨gl, ol + j, none⟩) hglN).trans cl5
               have ca6 := (cell_set_near (w := W5) (b := N) (q := q) (u := .slice (some ⟨g5, 0, none⟩) (n1 + 1) cap5) (show a ≠ q by omega)).trans ca5
               have HX5 := Lib.hid (HROWX.out W5 g5 cap5 hrow5)
               have HB5 := Lib.hid hb5
               clear hrow5 hg5 hb5)
            | (refine step_push_int (by rfl) _ _ (by rfl) HROW3b.out (by rfl) (by rfl) HK3b.out hn60' HB3b.out.size ?_
               intro g5 cap5 W5 hrow5 hg5
               have hb5 := HB3b.out.grown hg5 HB3b.out.size (fun j e => (HROW3b.out.lt j e).1)
               have cl5 := (hb5.cell (p := ⟨gl, ol + j, none⟩) hgl).trans cl
               have ca5 := (hb5.cell (p := ⟨N, a, none⟩) hNl).trans ca
               have cq5 := (hb5.cell (p := ⟨N, q, none⟩) hNl).trans cq
               have fq5 := (hb5.frozen (p := ⟨N, q, none⟩) hNl).trans fq
               have cl6 := (cell_set_far (w := W5) (q := q) (u := .slice (some ⟨g5, 0, none⟩) (n1 + 1) cap5) (p := ⟨gl, ol + j, none⟩) hglN).trans cl5
               have ca6 := (cell_set_near (w := W5) (b := N) (q := q) (u := .slice (some ⟨g5, 0, none⟩) (n1 + 1) cap5) (show a ≠ q by omega)).trans ca5
               have HX5 := Lib.hid (HROWX.out W5 g5 cap5 hrow5)
               have HB5 := Lib.hid hb5
               clear hrow5 hg5 hb5)
            | (refine step_push_int (by rfl) _ _ (by rfl) HROW3c.out (by rfl) (by rfl) HK3c.out hn60' HB3c.out.size ?_
               intro g5 cap5 W5 hrow5 hg5
               have hb5 := HB3c.out.grown hg5 HB3c.out.size (fun j e => (HROW3c.out.lt j e).1)
               have cl5 := (hb5.cell (p := ⟨gl, ol + j, none⟩) hgl).trans cl
               have ca5 := (hb5.cell (p := ⟨N, a, none⟩) hNl).trans ca
               have cq5 := (hb5.cell (p := ⟨N, q, none⟩) hNl).trans cq
               have fq5 := (hb5.frozen (p := ⟨N, q, none⟩) hNl).trans fq
               have cl6 := (cell_set_far (w := W5) (q := q) (u := .slice (some ⟨g5, 0, none⟩) (n1 + 1) cap5) (p := ⟨gl, ol + j, none⟩) hglN).trans cl5
               have ca6 := (cell_set_near (w := W5) (b := N) (q := q) (u := .slice (some ⟨g5, 0, none⟩) (n1 + 1) cap5) (show a ≠ q by omega)).trans ca5
               have HX5 := Lib.hid (HROWX.out W5 g5 cap5 hrow5)
               have HB5 := Lib.hid hb5
               clear hrow5 hg5 hb5))
            all_goals
              go_wp2
              go_roundw
              case rel =>
                refine ⟨j + 1, ls.set q (some ⟨g5, 0, none⟩, n1 + 1, cap5), by omega, by go_num, ?_, ?_, ?_⟩
                · first | exact HPUT.out W5 HB5.out (some ⟨g5, 0, none⟩, n1 + 1, cap5) HX5.out | (rw [HN.out]; exact HPUT.out W5 HB5.out (some ⟨g5, 0, none⟩, n1 + 1, cap5) HX5.out)
                · have := (HRR.out.below HB5.out).setCell (k := q) (u := .slice (some ⟨g5, 0, none⟩) (n1 + 1) cap5)
                  rw [HN.out] at this
                  first | exact this | (rw [HN.out]; exact this)
                · have := (HBw.out.trans (HB5.out.mono HBw.out.size)).setCell (p := ⟨N, q, none⟩) (Nat.le_of_eq HN.out) (.slice (some ⟨g5, 0, none⟩) (n1 + 1) cap5)
                  first | exact this | (rw [HN.out] at this; exact this)
              case measure => simp [intOf]; omega
        · obtain rfl : j = r := by omega
          have HWW := Lib.hid (HNX.out _ ls j hW (Nat.le_refl _))
          have HBw := Lib.hid hB
          clear hW hR hB
          go_wp2
          go_roundw
          case rel => exact ⟨a + 1, ls, by omega, by go_num, HWW.out, HBw.out⟩
          case measure => simp [intOf]; omega
    · obtain rfl : a = nt := by omega
      have HWA := Lib.hid hW
      have HB := Lib.hid hB
      clear hW hB
      go_wp2
      go_ret
      exact ⟨ls, rfl, HWA.out, HB.out⟩

end Go.Proofs.Ytmccdmpemlmkkaa
