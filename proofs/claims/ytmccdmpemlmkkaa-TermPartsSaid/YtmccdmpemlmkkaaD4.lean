/- Contract: Paths. -/
import Derived.Test.YtmccdmpemlmkkaaH9
import Derived.Test.YtmccdmpemlmkkaaD1
import Derived.Test.YtmccdmpemlmkkaaD2
import Derived.Test.YtmccdmpemlmkkaaB7
import Derived.Maps.OwnIn
namespace Go.Proofs.Ytmccdmpemlmkkaa
open Go.RowKit Go.Shelf
attribute [local go_sem] Oper.semAt_some

/-- The paths of the parts that are equal to a term. -/
def selP (us : List Int) (its : List It) : List (List Int) := (its.filter fun it => decide (it.2.2 = us)).map fun it => it.1.map fun k : Nat => (k : Int)
theorem selP_yes {us : List Int} {its : List It} {x : It} (h : x.2.2 = us) : selP us (its ++ [x]) = selP us its ++ [x.1.map fun k : Nat => (k : Int)] := by simp [selP, List.filter_append, h]
theorem selP_no {us : List Int} {its : List It} {x : It} (h : x.2.2 ≠ us) : selP us (its ++ [x]) = selP us its := by simp [selP, List.filter_append, h]
theorem selP_le (us : List Int) (its : List It) : (selP us its).length ≤ its.length := by
  unfold selP
  rw [List.length_map]
  exact List.length_filter_le _ _
theorem walk_all {ss : Sg} {zs : List Int} (hv : valOk ss zs = true) (o : Nat) : walkL ss zs.length [] o zs = (List.range zs.length).map fun i => (pth ss zs i, o + i, prt ss zs i) := by
  have hw := walk_is ss zs.length [] o zs (Nat.le_refl _) (valOk_term hv).1 (valOk_term hv).2.2.2
  apply List.ext_getElem?
  intro i
  by_cases hi : i < zs.length
  · obtain ⟨q, hq⟩ := hw.item i hi
    have h1 := pth_item hv hi
    have h2 := congrArg (fun l => l[i]?) (walkL_off ss zs.length [] o 0 zs)
    simp only [List.getElem?_map, hq, h1, Option.map_some, Option.some.injEq] at h2
    rw [hq, List.getElem?_map, List.getElem?_range hi, h2]
    rfl
  · rw [List.getElem?_eq_none (by rw [hw.len]; omega), List.getElem?_eq_none (by simp; omega)]
theorem selP_walk {ss : Sg} {zs us : List Int} (hv : valOk ss zs = true) (o : Nat) : selP us (walkL ss zs.length [] o zs) = pathsTo ss zs us zs.length := by
  rw [walk_all hv]
  unfold selP pathsTo
  rw [List.filter_map, List.map_map]
  rfl

theorem row_cells {w : World} {base : Nat} {e : TypeId} {size : Nat} {v : Value} {n : Nat} {xs : List Value} (h : w.ownsRow base e size v n xs) {g : Nat} (hg : v.ownBlock = some g) : ∃ cs, w.heap[g]? = some (.cells cs e (0, 0)) := by
  obtain ⟨_, ⟨rfl, _⟩ | ⟨g', cap, cur, rfl, _, hcur, _⟩⟩ := h
  · cases hg
  · cases hg; exact ⟨cur, hcur⟩
theorem RowsAt.kept {T : TypeId} {w w' : World} {base k : Nat} {v : Value} {ls : List Hd} {tt : List (List Int)} {row : Option Nat} (h : RowsAt T w base v k ls tt) (hg : w.grownBy w' row) (hr : ∀ r, row = some r → ∃ o : Obj, w.heap[r]? = some o ∧ o.isCells = false) : RowsAt T w' base v k ls tt := by
  refine ⟨h.row.kept hg ?_, h.len, fun j a b => ?_⟩
  · cases e : v.ownBlock with
    | none => exact .inl rfl
    | some g =>
      refine .inr fun e2 => ?_
      obtain ⟨cs, hcs⟩ := row_cells h.row e
      obtain ⟨o, ho, hc⟩ := hr g e2.symm
      rw [hcs] at ho
      cases ho
      cases hc
  · have hx := h.each j a b
    refine ⟨hx.len, hx.max, fun hn => ?_⟩
    obtain ⟨b', off, e, hb, hne, hc⟩ := hx.mem hn
    exact ⟨b', off, e, Nat.lt_of_lt_of_le hb hg.size, hne, fun j hj => cell_kept (hc j hj) hg hr⟩
theorem keeps_grown {W W' : World} {row : Option Nat} (hg : W.grownBy W' row) (hr : ∀ r, row = some r → ∃ cs t z, W.heap[r]? = some (.cells cs t z)) : KeepsOthers W W' :=
  ⟨hg.size, fun k o hk ho => by
    refine (hg.block k (Array.getElem?_eq_some_iff.1 hk).1 fun e => ?_).trans hk
    obtain ⟨cs, t, z, h1⟩ := hr k e.symm
    rw [h1] at hk
    cases hk
    cases ho⟩
/-- What a round of Paths may turn: the row of paths, and what names it. -/
def XP (d : Nat) (b : Nat) (o : Obj) : Prop := b = d + 1 ∨ ∃ cs z, o = .cells cs 24 z
theorem KP.grownX {d n₀ : Nat} {W W' : World} {row : Option Nat} (hg : W.grownBy W' row) (hn : n₀ ≤ W.heap.size) (hr : ∀ g, row = some g → n₀ ≤ g ∧ ∃ cs, W.heap[g]? = some (.cells cs 24 (0, 0))) : KP n₀ (XP d) W W' :=
  ⟨(Below.refl n₀ W).grown hg hn (fun k e => (hr k e).1), fun b o _ ho _ hx => by
    refine (hg.block b (Array.getElem?_eq_some_iff.1 ho).1 fun e => ?_).trans ho
    obtain ⟨_, cs, h1⟩ := hr b e.symm
    rw [h1] at ho
    cases ho
    exact hx (.inr ⟨cs, _, rfl⟩)⟩
theorem KP.setXP {d n₀ : Nat} (W : World) (v : Value) (hn : n₀ ≤ d + 1) : KP n₀ (XP d) W (W.setCell ⟨d + 1, 0, none⟩ v) :=
  ⟨(Below.refl _ _).setCell (p := ⟨d + 1, 0, none⟩) hn _, fun b o _ ho _ hx => (heap_setCell_other W ⟨d + 1, 0, none⟩ b v (fun e => hx (.inl e))).trans ho⟩
theorem RowsAt.far {T : TypeId} {w : World} {base k p : Nat} {v u : Value} {ls : List Hd} {tt : List (List Int)} (h : RowsAt T w base v k ls tt) (h1 : v.ownBlock ≠ some p) (h2 : ∀ j (a : j < ls.length) b off, ls[j].1 = some ⟨b, off, none⟩ → 0 < ls[j].2.1 → b ≠ p) : RowsAt T (w.setCell ⟨p, 0, none⟩ u) base v k ls tt := by
  have hg : w.grownBy (w.setCell ⟨p, 0, none⟩ u) (some p) := ⟨rfl, rfl, rfl, by simp, fun k _ hk => heap_setCell_other w ⟨p, 0, none⟩ k u (fun e => hk (by rw [e]))⟩
  refine ⟨h.row.kept hg (.inr h1), h.len, fun j a b => ?_⟩
  have hx := h.each j a b
  refine ⟨hx.len, hx.max, fun hn => ?_⟩
  obtain ⟨b', off, e, hb, hne, hc⟩ := hx.mem hn
  exact ⟨b', off, e, by simpa using hb, hne, fun i hi => (cell_set_far (fun e2 => h2 j a b' off e hn e2)).trans (hc i hi)⟩

theorem path_but {m₀ : Nat} {X : Nat → Obj → Prop} {W : World} {A : Option Addr} {c : Nat} {p : List Nat} (h : PathIn m₀ X W A c p) (g : Option Nat) (hg : ∀ k, g = some k → ∃ cs, W.heap[k]? = some (.cells cs 24 (0, 0))) (hl : p.length ≤ 1000) :
    IntsBut W g A p.length (p.map fun k : Nat => (k : Int)) := by
  refine ⟨by simp, by omega, fun hn => ?_⟩
  rcases h with ⟨rfl, _⟩ | ⟨_, b, cs, rfl, hb, hB, _, hc⟩
  · simp at hn
  · refine ⟨b, 0, rfl, hB.lt, fun e => ?_, fun j hj => ?_⟩
    · obtain ⟨cs', h1⟩ := hg b e.symm
      have h2 : W.heap[b]? = some (.cells cs 3 (0, 0)) := hB
      rw [h1] at h2
      cases h2
    · have hj' : j < p.length := by simpa using hj
      rw [Nat.zero_add, hB.cell, hc j hj']
      simp
/-- What the rounds of Paths keep. -/
def IP (d : Nat) (us : List Int) (w2 : World) (pre : List Pt) (W : World) : Prop :=
  ∃ (Av : Option Addr) (cv m : Nat) (ls : List Hd), Blk W (d + 1) 49 #[.slice Av m cv] ∧ RowsAt 24 W d (.slice Av m cv) m ls (selP us (pre.map Pt.it)) ∧ (∀ x ∈ ls, ∀ b off, x.1 = some ⟨b, off, none⟩ → d + 2 ≤ b) ∧ Below d w2 W
theorem IP.own {d B : Nat} {us : List Int} {w2 : World} (hd : d ≤ B) (hs : w2.heap.size = d) : OwnFrom B (IP d us w2) := by
  rintro pre W W' row ⟨Av, cv, m, ls, h1, h2, h3, h4⟩ hg hr
  have hr' := fun r e => (hr r e).2
  refine ⟨Av, cv, m, ls, (grownBy_keeps_cells hg hr' h1 rfl).trans h1, h2.kept hg hr', h3, h4.grown hg (by have := h4.size; omega) (fun k e => by have := (hr k e).1; omega)⟩

set_option maxHeartbeats 400000 in
theorem paths_bad (As At Au : Option Addr) (ns cs nt ct nu cu : Nat) (ss : Sg) (zs us : List Int) (w : World) (hs : SigAt w w.heap.size As ns ss) (ht : IntsAt w w.heap.size At nt zs) (hu : IntsAt w w.heap.size Au nu us) (hv : pathsOk ss zs us = false) :
    Calls Try.prog 33 #[.slice As ns cs, .slice At nt ct, .slice Au nu cu] w (RetTs w [] 1) := by
  obtain ⟨W0, hW0⟩ : ∃ W0, w.alloc (.cells #[.slice Au nu cu] 25) = W0 := ⟨_, rfl⟩
  have hB0 : Below w.heap.size w W0 := by rw [← hW0]; exact (Below.refl _ _).alloc (Nat.le_refl _) _
  have cu0 : W0.cell? ⟨w.heap.size, 0, none⟩ = some (.slice Au nu cu) := by rw [← hW0]; exact cell_new0 _ _ _
  have hlt0 : w.heap.size < W0.heap.size := by rw [← hW0]; simp
  have C := Lib.hid (valid_any As At ns cs nt ct ss zs W0 (hs.up hB0) (ht.up hB0))
  have HB0 := Lib.hid hB0
  have HW0 := Lib.hid hW0
  unfold pathsOk at hv
  cases h1 : valOk ss zs
  · rw [h1] at C
    clear hs ht hu hv h1 hB0 hW0 cu0
    go_enter Try.func33, Try.ntmps33
    go_wp2_with fail
    rw [HW0.out]
    go_wp2_with (go_at_call 14; refine C.out.mono ?_; rintro e w1 ⟨rfl, hB⟩; have HB := Lib.hid hB)
    go_ret2
    exact ⟨none, 0, 0, [], rfl, TermsAt.nil _ _, HB0.out.trans (HB.out.mono HB0.out.size)⟩
  · have hsl := sigOk_len (valOk_sig h1)
    rw [← hs.len] at hsl
    have htu : termOk ss us = false := by rw [h1] at hv; simpa [valOk, valOk_sig h1] using hv
    have C2 := Lib.hid (fun V (hb : Below w.heap.size w V) => validTerm_any As Au ns cs nu cu ss us V (hs.up hb) (hu.up hb) (sigOk_ar (valOk_sig h1)) hsl.1 hsl.2)
    rw [h1] at C
    simp only [htu] at C2
    have HCU := Lib.hid (fun V (hb : Below W0.heap.size W0 V) => (hb.cell (p := ⟨w.heap.size, 0, none⟩) hlt0).trans cu0)
    clear hs ht hu hv h1 htu hB0 hW0 cu0
    go_enter Try.func33, Try.ntmps33
    go_wp2_with fail
    rw [HW0.out]
    go_wp2_with (first
      | (go_at_call 14; refine C.out.mono ?_; rintro e w1 ⟨rfl, hB⟩; have u1 := HCU.out _ hB; have HB := Lib.hid (HB0.out.trans (hB.mono HB0.out.size)); clear hB)
      | (go_at_call 43; refine (C2.out _ HB.out).mono ?_; rintro e w2 ⟨rfl, hB2⟩; have HB2 := Lib.hid (HB.out.trans (hB2.mono HB.out.size)); clear hB2))
    go_ret2
    exact ⟨none, 0, 0, [], rfl, TermsAt.nil _ _, HB2.out⟩

set_option maxRecDepth 100000 in
set_option maxHeartbeats 2000000 in
theorem paths_ok (As At Au : Option Addr) (ns cs nt ct nu cu : Nat) (ss : Sg) (zs us : List Int) (w : World) (hs : SigAt w w.heap.size As ns ss) (ht : IntsAt w w.heap.size At nt zs) (hu : IntsAt w w.heap.size Au nu us) (hct : nt ≤ ct) (hct2 : ct ≤ 9223372036854775807) (hvv : pathsOk ss zs us = true) :
    Calls Try.prog 33 #[.slice As ns cs, .slice At nt ct, .slice Au nu cu] w (RetTs w (pathsTo ss zs us zs.length) 0) := by
  obtain ⟨hv, hvu⟩ : valOk ss zs = true ∧ valOk ss us = true := by simpa [pathsOk] using hvv
  obtain ⟨W0, hW0⟩ : ∃ W0, w.alloc (.cells #[.slice Au nu cu] 25) = W0 := ⟨_, rfl⟩
  have hB0 : Below w.heap.size w W0 := by rw [← hW0]; exact (Below.refl _ _).alloc (Nat.le_refl _) _
  have cu0 : W0.cell? ⟨w.heap.size, 0, none⟩ = some (.slice Au nu cu) := by rw [← hW0]; exact cell_new0 _ _ _
  have hlt0 : w.heap.size < W0.heap.size := by rw [← hW0]; simp
  have C := Lib.hid (valid_any As At ns cs nt ct ss zs W0 (hs.up hB0) (ht.up hB0))
  have HB0 := Lib.hid hB0
  have HW0 := Lib.hid hW0
  have hsl := sigOk_len (valOk_sig hv)
  rw [← hs.len] at hsl
  have htu : termOk ss us = true := by simpa [valOk, valOk_sig hv] using hvu
  have C2 := Lib.hid (fun V (hb : Below w.heap.size w V) => validTerm_any As Au ns cs nu cu ss us V (hs.up hb) (hu.up hb) (sigOk_ar (valOk_sig hv)) hsl.1 hsl.2)
  rw [hv] at C
  simp only [htu] at C2
  have HCU := Lib.hid (fun V (hb : Below W0.heap.size W0 V) => (hb.cell (p := ⟨w.heap.size, 0, none⟩) hlt0).trans cu0)
  clear hB0 hW0 cu0
  refine callsIn_wide (n := 5) |>.1 ?_
  refine callsIn_of_wp_marks Try.func33 rfl trivial ?_ rfl
  simp only [Try.ntmps33, List.size_toArray, List.length_cons, List.length_nil, Nat.reduceAdd, Nat.reduceSub, Array.replicate_succ, Array.replicate_zero, List.push_toArray, List.append_toArray, List.nil_append, List.cons_append]
  gi_wp2_with fail
  rw [HW0.out]
  gi_wp2_with (first
    | (refine ⟨trivial, ?_⟩; gi_at_call 14; refine (callsIn_wide.2 C.out).mono ?_; rintro e w1 ⟨rfl, hB⟩; have u1 := HCU.out _ hB; have HBq := Lib.hid hB; have HB := Lib.hid (HB0.out.trans (hB.mono HB0.out.size)); clear hB)
    | (refine ⟨trivial, ?_⟩; gi_at_call 43; refine (callsIn_wide.2 (C2.out _ HB.out)).mono ?_; rintro e w2 ⟨rfl, hB2⟩; have HB2q := Lib.hid (HBq.out.trans (hB2.mono HBq.out.size)); have HB2 := Lib.hid (HB.out.trans (hB2.mono HB.out.size)); clear hB2)
    | (refine ⟨trivial, ?_⟩; gi_at_call 45; refine (callsIn_wide.2 (places_any _ _ _ rfl rfl _ _ _ _ _ _ rfl rfl)).mono ?_; rintro e w3 ⟨rfl, rfl⟩))
  obtain ⟨d, hd⟩ : ∃ d, w2.heap.size = d := ⟨_, rfl⟩
  obtain ⟨W9, hW9⟩ : ∃ W9, (((w2.alloc (Obj.cells #[] 24)).alloc (Obj.cells #[Value.slice (some ⟨w2.heap.size, 0, none⟩) 0 0] 49)).alloc (Obj.cells #[Value.slice As ns cs] 23)).alloc (Obj.cells #[Value.slice At nt ct] 25) = W9 := ⟨_, rfl⟩
  rw [hW9]
  have sz : W9.heap.size = d + 4 := by rw [← hW9]; simp [hd]
  have hBV : Below d w2 W9 := by
    rw [← hW9, ← hd]
    exact ((((Below.refl _ w2).alloc (Nat.le_refl _) _).alloc (by simp) _).alloc (by simp; omega) _).alloc (by simp; omega) _
  have bp : Blk W9 (d + 1) 49 #[.slice (some ⟨d, 0, none⟩) 0 0] := by
    have := ((Blk.new (w2.alloc (Obj.cells #[] 24)) 49 #[Value.slice (some ⟨w2.heap.size, 0, none⟩) 0 0]).alloc (Obj.cells #[Value.slice As ns cs] 23)).alloc (Obj.cells #[Value.slice At nt ct] 25)
    rw [World.size_alloc, hW9, hd] at this
    exact this
  have be : Blk W9 d 24 #[] := by
    have := (((Blk.new w2 24 #[]).alloc (Obj.cells #[Value.slice (some ⟨w2.heap.size, 0, none⟩) 0 0] 49)).alloc (Obj.cells #[Value.slice As ns cs] 23)).alloc (Obj.cells #[Value.slice At nt ct] 25)
    rw [hW9, hd] at this
    exact this
  have bs : Blk W9 (d + 1 + 1) 23 #[.slice As ns cs] := by
    have := (Blk.new ((w2.alloc (Obj.cells #[] 24)).alloc (Obj.cells #[Value.slice (some ⟨w2.heap.size, 0, none⟩) 0 0] 49)) 23 #[Value.slice As ns cs]).alloc (Obj.cells #[Value.slice At nt ct] 25)
    rw [World.size_alloc, World.size_alloc, hW9, hd] at this
    exact this
  have bt' : Blk W9 (d + 1 + 1 + 1) 25 #[.slice At nt ct] := by
    have := Blk.new (((w2.alloc (Obj.cells #[] 24)).alloc (Obj.cells #[Value.slice (some ⟨w2.heap.size, 0, none⟩) 0 0] 49)).alloc (Obj.cells #[Value.slice As ns cs] 23)) 25 #[Value.slice At nt ct]
    rw [World.size_alloc, World.size_alloc, World.size_alloc, hW9, hd] at this
    exact this
  obtain ⟨h1, h60, hnum, hscan⟩ := valOk_term hv
  have har := sigOk_ar (valOk_sig hv)
  have hh : HeadsOk ss zs := fun z hz => (hnum z hz).2
  have hlt := ht.len
  obtain ⟨bt, o, rfl, hbt, hpart⟩ := ht.mem (by omega)
  have hwd : w.heap.size ≤ d := by rw [← hd]; exact HB2.out.size
  have hbd : bt < d := by omega
  have cu2 := HCU.out w2 HB2q.out
  have hud : w.heap.size < d := by have := HB2q.out.size; omega
  have HBw := Lib.hid (fun (W : World) (hb : Below d w2 W) => HB2.out.trans (hb.mono hwd))
  have HU := Lib.hid (fun (W : World) (hb : Below d w2 W) => hu.up (HB2.out.trans (hb.mono hwd)))
  have HUC := Lib.hid (fun (W : World) (hb : Below d w2 W) => (hb.cell (p := ⟨w.heap.size, 0, none⟩) hud).trans cu2)
  have HSEL := Lib.hid (selP_walk (us := us) hv o)
  have hlen := (walk_is ss zs.length [] o zs (Nat.le_refl _) h1 hscan).len
  obtain ⟨i1, hi1, hy0, hy1, hy2⟩ := info_parts info_ints
  subst hlt
  have HS := Lib.hid hs
  have HP := Lib.hid (show PartIn w bt o zs from hpart)
  rw [hd]
  have i0 : IP d us w2 [] W9 := by
    refine ⟨some ⟨d, 0, none⟩, 0, 0, [], bp, ⟨?_, rfl, fun j hj => by simp at hj⟩, by simp, hBV⟩
    exact ⟨rfl, .inr ⟨d, 0, #[], rfl, Nat.le_refl _, be, Nat.le_refl _, by unfold maxLen; omega, rfl, rfl⟩⟩
  refine range_parts (gf := 69) (lb := #[.pointer (some ⟨d + 1 + 1, 0, none⟩), .pointer (some ⟨d + 1 + 1 + 1, 0, none⟩)]) rfl (enters_of Try.func69 (by kernel_rfl) rfl) (encs := Pt.encs bt) (fun _ => rfl)
    (fun x W => PtIn (d + 2) (XP d) ss bt W x) (KP d (XP d)) (fun xs => xs.map Pt.it = walkL ss zs.length [] o zs) (walkL ss zs.length [] o zs).length
    (IP d us w2) (IP.own (by omega) hd)
    (fun x W l o o' hx hl ho hc => hx.keep (n₀ := d) (by omega) hbd (KP.putObj (w := W9) (by omega) W l o o' hl ho hc))
    (fun h k => KP.trans h k) (fun W l o o' hl ho hc _ => KP.putObj (w := W9) (by omega) W l o o' hl ho hc)
    i0
    ?seq (fun x => { tmps := #[.slice As ns cs, .slice (some ⟨bt, o, none⟩) zs.length ct, .slice Au nu cu, undef, undef, .pointer (some ⟨w.heap.size, 0, none⟩), .slice none 0 0, .int .i64 0, .pointer (some ⟨d + 1, 0, none⟩), .slice x.A x.it.1.length x.c, .slice (some ⟨bt, x.it.2.1, none⟩) x.it.2.2.length x.cp, .slice As ns cs, .slice (some ⟨bt, o, none⟩) zs.length ct, .bool true, .bool false, .bool false, .slice As ns cs, .slice Au nu cu, .bool true, .bool false, .bool false, .slice (some ⟨d, 0, none⟩) 0 0, .slice As ns cs, .slice (some ⟨bt, o, none⟩) zs.length ct, .func (.func 69) #[] #[.pointer (some ⟨d + 1 + 1, 0, none⟩), .pointer (some ⟨d + 1 + 1 + 1, 0, none⟩)], .slice x.A x.it.1.length x.c, .slice (some ⟨bt, x.it.2.1, none⟩) x.it.2.2.length x.cp, undef, undef, undef, undef, undef, undef, undef, undef], defers := [] }) ?assign ?body ?done
  case seq =>
    intro l J V hV hJ hY hJ0
    have hVs : d + 4 ≤ V.heap.size := by rw [← sz]; exact hV.size
    have hBV' : Below w.heap.size w V := HBw.out V (hBV.trans (hV.mono (by omega)))
    refine places1_in d (d + 2) l bt (d + 1 + 1) (d + 1 + 1 + 1) _ 4 (XP d) As ns cs o ct ss zs J (by omega) hbd har hsl.1 hsl.2 (fun b cs z hb => ?_) (fun b cs z hb _ => ?_) (fun b cs z hb => ?_)
      ⟨by omega, fun cs => ?_⟩ (fun pre A B hj _ hb => hJ pre A B hj hb) hY V h1 h60 hct hct2 hh hscan
      (bs.below hV (by omega)) (bt'.below hV (by omega)) ((HS.out.below hBV').more hwd) (by omega) (fun j hj => (hBV'.cell (p := ⟨bt, o + j, none⟩) hbt).trans (HP.out j hj)) hJ0 (Nat.le_refl _)
    · rintro (h | ⟨cs', z', h⟩)
      · omega
      · cases h
    · rintro (h | ⟨cs', z', h⟩)
      · omega
      · cases h
    · rintro (h | ⟨cs', z', h⟩)
      · omega
      · cases h
    · rintro (h | ⟨cs', z', h⟩)
      · omega
      · cases h
  case assign =>
    intro l m x W K hK
    unfold Pt.encs
    gi_wp2
    exact hK
  case body =>
    rintro l m pre x W ⟨Av, cv, mm, ls, hBk, hR, hfar, hB⟩ hx hlen2
    have hWs : d + 2 ≤ W.heap.size := by have := hBk.lt; have := hB.size; omega
    have hxi := hx.part.ints (W := W) (by omega) (by have := hx.len; omega)
    have CEQ := Lib.hid (eqT_any (some ⟨bt, x.it.2.1, none⟩) Au x.it.2.2.length x.cp nu cu x.it.2.2 us W _ hxi (HU.out W hB))
    have cuW := HUC.out W hB
    have cpW := hBk.cell 0
    have fpW := hBk.frozen 0
    simp only [Array.getElem?_singleton, if_true] at cpW
    have hmm : mm ≤ 60 := by
      have h1 := hR.len
      have h2 := selP_le us (pre.map Pt.it)
      rw [List.length_map] at h2
      rw [hlen] at hlen2
      omega
    have hpath := hx.path
    have hplen := hx.plen
    have hD := fun j => below_drewN (Below.refl W.heap.size W) j
    by_cases heq : x.it.2.2 = us
    · have HSY := Lib.hid (show selP us ((pre ++ [x]).map Pt.it) = selP us (pre.map Pt.it) ++ [x.it.1.map fun k : Nat => (k : Int)] by rw [List.map_append]; exact selP_yes heq)
      have HDE := Lib.hid (show decide (x.it.2.2 = us) = true from decide_eq_true heq)
      have HR := Lib.hid hR
      have HBK := Lib.hid hBk
      have HFAR := Lib.hid hfar
      have HB := Lib.hid hB
      have hbut := path_but hpath (Value.slice Av mm cv).ownBlock (fun k e => row_cells hR.row e) hplen
      have hpfar : ∀ b off, x.A = some ⟨b, off, none⟩ → d + 2 ≤ b := by
        intro b off e
        rcases hpath with ⟨_, h, _⟩ | ⟨_, b', cs, h, hb, _⟩
        · rw [h] at e; cases e
        · rw [h] at e; cases e; exact hb
      have HBUT := Lib.hid hbut
      have HPF := Lib.hid hpfar
      obtain ⟨pl, hpl⟩ : ∃ pl, x.it.1.length = pl := ⟨_, rfl⟩
      rw [hpl] at hplen
      have HPLN := Lib.hid hpl
      rw [hpl] at HBUT
      have HD := Lib.hid hD
      clear hxi hx hR hBk hfar hB heq hpath hbut hpfar hD
      rw [hpl]
      clear hpl
      gi_wp2_with (first
        | ((first | refine ⟨trivial, fun h => (by cases h), ?_⟩ | refine ⟨trivial, ?_⟩); gi_at_call 58; refine (CallsIn.inRound l (callsIn_wide.2 CEQ.out)).mono ?_; rintro e W1 ⟨rfl, j1, rfl⟩; rw [HDE.out]; have cp1 : (W.drewN j1).cell? ⟨d + 1, 0, none⟩ = _ := cpW; have HR1 := Lib.hid (HR.out.below (HD.out j1)))
        | (gi_at_builtin
           refine wpListIn_append_own_at _ rfl _ _ 49 rfl d 24 i1 _ 1 24 Try.underlying49 hi1 hy0 hy1 hy2 rfl (by omega) (.slice Av mm cv) mm (ls.map Hd.val) rfl (HR1.out.row.alloc _) ⟨W.heap.size, 0, none⟩ 1 1 [Hd.val (x.A, pl, x.c)] rfl rfl
             (World.news_of_block (cs := #[Hd.val (x.A, pl, x.c)]) (t := 24) (fr := (0, 0)) (heap_alloc_new (W.drewN j1) _)) (by simp [Value.oneCell', Hd.val]) (by unfold maxLen; omega) (by omega) (by simp <;> omega) ?_
           intro v4 W4 hown4 hg4 _ hv4
           have HR4 := Lib.hid ((HR1.out.below ((Below.refl _ _).alloc (Nat.le_refl _) (.cells #[Hd.val (x.A, pl, x.c)] 24))).push (x := (x.A, pl, x.c)) ((HBUT.out.below (HD.out j1)).below ((Below.refl _ _).alloc (Nat.le_refl _) _)) hown4 hg4 hv4)
           obtain ⟨g4, cap4, e4, _⟩ := hown4.form (by omega)
           subst e4
           have HG4 := Lib.hid hg4
           have hne : some (d + 1) ≠ (Value.slice Av mm cv).ownBlock := fun e => by
             obtain ⟨cs', h1⟩ := row_cells HR.out.row e.symm
             have h2 : W.heap[d + 1]? = some (.cells _ 49 (0, 0)) := HBK.out
             rw [h1] at h2
             cases h2
           have hblk4 : Blk W4 (d + 1) 49 #[.slice Av mm cv] := (hg4.block _ (by simp <;> omega) hne).trans ((Below.heap_alloc _ _ _ (by show d + 1 < W.heap.size; omega)).trans HBK.out)
           have cp4 := hblk4.cell 0
           have fp4 := hblk4.frozen 0
           simp only [Array.getElem?_singleton, if_true] at cp4
           have HBLK4 := Lib.hid hblk4
           clear hown4 hg4 hv4 hblk4 hne))
      have hW1 : Below W.heap.size W ((W.drewN j1).alloc (.cells #[Hd.val (x.A, pl, x.c)] 24)) := (HD.out j1).alloc (Nat.le_refl _) _
      have hrowc : ∀ g, (Value.slice Av mm cv).ownBlock = some g → d ≤ g ∧ ∃ cs, ((W.drewN j1).alloc (.cells #[Hd.val (x.A, pl, x.c)] 24)).heap[g]? = some (.cells cs 24 (0, 0)) := fun g e =>
        ⟨(HR.out.row.lt g e).1, by obtain ⟨cs, h⟩ := row_cells HR.out.row e; exact ⟨cs, (hW1.block g (HR.out.row.lt g e).2).trans h⟩⟩
      have hfar' : ∀ y ∈ ls ++ [(x.A, pl, x.c)], ∀ b off, y.1 = some ⟨b, off, none⟩ → d + 2 ≤ b := by
        intro y hy b off e
        rcases List.mem_append.1 hy with h | h
        · exact HFAR.out y h b off e
        · obtain rfl := List.mem_singleton.1 h
          exact HPF.out b off e
      refine ⟨?_, ?_, some ⟨g4, 0, none⟩, cap4, mm + 1, ls ++ [(x.A, pl, x.c)], HBLK4.out.set_ 0 _, ?_, hfar', ?_⟩
      · exact ((((⟨Nat.le_refl _, fun _ _ h _ => h⟩ : KeepsOthers W (W.drewN j1)).trans (keeps_grown (World.grownBy_alloc _ _ none) (fun r e => by cases e))).trans (keeps_grown HG4.out (fun g e => by obtain ⟨_, cs, h⟩ := hrowc g e; exact ⟨cs, _, _, h⟩))).trans (KeepsOthers.setCell _ _ _)).from _
      · exact ((KP.of_below hW1 (by omega)).trans (KP.grownX HG4.out (by have := hW1.size; omega) hrowc)).trans (KP.setXP W4 _ (by omega))
      · rw [HSY.out]
        refine HR4.out.far (fun e => ?_) (fun j a b off e1 _ => ?_)
        · obtain ⟨cs', h1⟩ := row_cells HR4.out.row e
          have h2 : W4.heap[d + 1]? = some (.cells _ 49 (0, 0)) := HBLK4.out
          rw [h1] at h2
          cases h2
        · have := hfar' _ (List.getElem_mem a) b off e1
          omega
      · exact ((HB.out.trans (hW1.mono (by omega))).grown HG4.out (by have := hW1.size; omega) (fun k e => (hrowc k e).1)).setCell (p := ⟨d + 1, 0, none⟩) (by show d ≤ d + 1; omega) _
    · have HSN := Lib.hid (show selP us ((pre ++ [x]).map Pt.it) = selP us (pre.map Pt.it) by rw [List.map_append]; exact selP_no heq)
      have HDE := Lib.hid (show decide (x.it.2.2 = us) = false from decide_eq_false heq)
      have HR := Lib.hid hR
      have HBK := Lib.hid hBk
      have HFAR := Lib.hid hfar
      have HB := Lib.hid hB
      have HD := Lib.hid hD
      clear hxi hx hR hBk hfar hB heq hpath hD
      gi_wp2_with ((first | refine ⟨trivial, fun h => (by cases h), ?_⟩ | refine ⟨trivial, ?_⟩); gi_at_call 58; refine (CallsIn.inRound l (callsIn_wide.2 CEQ.out)).mono ?_; rintro e W1 ⟨rfl, j1, rfl⟩; rw [HDE.out])
      refine ⟨(⟨Nat.le_refl _, fun _ _ h _ => h⟩ : KeepsOthers W (W.drewN j1)).from _, KP.of_below (HD.out j1) (by omega), Av, cv, mm, ls, HBK.out, ?_, HFAR.out, below_drewN HB.out j1⟩
      rw [HSN.out]
      exact HR.out.below (HD.out j1)
  case done =>
    rintro D xs W hD hS ⟨Av, cv, mm, ls, hBk, hR, hfar, hB⟩ hK
    rw [hS, HSEL.out] at hR
    have cp1 := hBk.cell 0
    simp only [Array.getElem?_singleton, if_true] at cp1
    have hmm : mm ≤ 1000000 := by
      have h1 := hR.len
      have h2 := pathsTo_le ss zs us zs.length
      omega
    have HBF := Lib.hid (HBw.out W hB)
    have HRR := Lib.hid hR
    clear hR
    gi_wp2
    refine ⟨by simp, .inl ⟨_, _, rfl, run_takeDeferred hK, ?_⟩⟩
    refine ⟨_, results_tmp2 rfl _ _ _, ?_⟩
    obtain ⟨A5, c5, e5, hT⟩ := (HRR.out.kept (grownBy_putObj' W D _) (fun r e => by cases e; exact ⟨_, hK, rfl⟩)).terms hmm
    cases e5
    exact ⟨_, _, _, _, rfl, hT, HBF.out.trans (belowK_b (w := W9) (by omega) W D _ _ hD hK rfl rfl)⟩

end Go.Proofs.Ytmccdmpemlmkkaa
