/- Contract: Parts. -/
import Derived.Test.YtmccdmpemlmkkaaD4
import Derived.Test.YtmccdmpemlmkkaaJ3
import Derived.Test.YtmccdmpemlmkkaaJ5
namespace Go.Proofs.Ytmccdmpemlmkkaa
open Go.RowKit Go.Shelf
attribute [local go_sem] Oper.semAt_some

theorem prts_walk {ss : Sg} {zs : List Int} (hv : valOk ss zs = true) (o : Nat) : (walkL ss zs.length [] o zs).map (·.2.2) = (List.range zs.length).map (prt ss zs) := by
  rw [walk_all hv, List.map_map]
  rfl
/-- What a round of Parts may turn: the row of parts, and what names it. -/
def XQ (d bt : Nat) (b : Nat) (o : Obj) : Prop := b = d ∨ b = d + 1 ∨ ∃ cs z v, o = .cells cs 25 z ∧ v ∈ cs.toList ∧ ¬ Into bt v
theorem KP.grownQ {X : Nat → Obj → Prop} {n₀ : Nat} {W W' : World} {row : Option Nat} (hg : W.grownBy W' row) (hn : n₀ ≤ W.heap.size) (hr : ∀ g, row = some g → n₀ ≤ g ∧ ∀ o, W.heap[g]? = some o → X g o) : KP n₀ X W W' :=
  ⟨(Below.refl n₀ W).grown hg hn (fun k e => (hr k e).1), fun b o _ ho _ hx => by
    refine (hg.block b (Array.getElem?_eq_some_iff.1 ho).1 fun e => ?_).trans ho
    exact hx ((hr b e.symm).2 o ho)⟩
theorem KP.setXQ {d bt n₀ : Nat} (W : World) (v : Value) (hn : n₀ ≤ d + 1) : KP n₀ (XQ d bt) W (W.setCell ⟨d + 1, 0, none⟩ v) :=
  ⟨(Below.refl _ _).setCell (p := ⟨d + 1, 0, none⟩) hn _, fun b o _ ho _ hx => (heap_setCell_other W ⟨d + 1, 0, none⟩ b v (fun e => hx (.inr (.inl e)))).trans ho⟩
/-- What the rounds of Parts keep. -/
def IQ (d : Nat) (w2 : World) (pre : List Pt) (W : World) : Prop :=
  ∃ (Av : Option Addr) (cv m : Nat) (ls : List Hd), Blk W (d + 1) 36 #[.slice Av m cv] ∧ RowsAt 25 W d (.slice Av m cv) m ls (pre.map fun x => x.it.2.2) ∧ (∀ x ∈ ls, ∃ b off, x.1 = some ⟨b, off, none⟩ ∧ d + 2 ≤ b) ∧ (m = 0 → Av = some ⟨d, 0, none⟩) ∧ Below d w2 W
theorem IQ.own {d B : Nat} {w2 : World} (hd : d ≤ B) (hs : w2.heap.size = d) : OwnFrom B (IQ d w2) := by
  rintro pre W W' row ⟨Av, cv, m, ls, h1, h2, h3, h5, h4⟩ hg hr
  have hr' := fun r e => (hr r e).2
  refine ⟨Av, cv, m, ls, (grownBy_keeps_cells hg hr' h1 rfl).trans h1, h2.kept hg hr', h3, h5, h4.grown hg (by have := h4.size; omega) (fun k e => by have := (hr k e).1; omega)⟩
theorem row_XQ {d bt m : Nat} {W : World} {Av : Option Addr} {cv : Nat} {ls : List Hd} {tt : List (List Int)} (hb : bt < d) (h : RowsAt 25 W d (.slice Av m cv) m ls tt) (h3 : ∀ x ∈ ls, ∃ b off, x.1 = some ⟨b, off, none⟩ ∧ d + 2 ≤ b) (h5 : m = 0 → Av = some ⟨d, 0, none⟩) :
    ∀ g, (Value.slice Av m cv).ownBlock = some g → d ≤ g ∧ ∀ o, W.heap[g]? = some o → XQ d bt g o := by
  intro g e
  refine ⟨(h.row.lt g e).1, fun o ho => ?_⟩
  rcases Nat.eq_zero_or_pos m with h0 | h0
  · rw [h5 h0] at e
    cases e
    exact .inl rfl
  · have hll := h.ll
    obtain ⟨_, ⟨e2, _⟩ | ⟨g', cap, cur, e2, hbg, hcur, hn1, hn2, hsz, htk⟩⟩ := h.row
    · cases e2; cases e
    · cases e2
      cases e
      rw [hcur] at ho
      cases ho
      cases ls with
      | nil => simp at hll; omega
      | cons x r =>
        obtain ⟨b, off, e1, hb1⟩ := h3 x (by simp)
        refine .inr (.inr ⟨cur, _, x.val, rfl, ?_, ?_⟩)
        · have : x.val ∈ cur.toList.take (m * 1) := by rw [htk]; simp
          exact List.mem_of_mem_take this
        · rintro ⟨o2, n2, c2, e3⟩
          unfold Hd.val at e3
          rw [e1] at e3
          cases e3
          omega

theorem stepIn_append_run {F : Fence} {nF : Nat} {P : Program} {ops : Array Oper} {o : Oper} {a : Act} {w w' : World} {K : Act → World → Prop} {Q : Exit → Act → World → Prop} {E : Prop} (hgd : o.guard = none) (s x : Operand) (t : TypeId)
    (ho : o.op = .call { callee := .builtin .append, args := #[s, x], argTypes := #[t, t] }) (v u v' : Value) (hs : a.eval s = v) (hx : a.eval x = u) (hr : (Builtin.append_ #[t, t] o.type #[v, u]).run P w = .ok v' w') (h : K (a.put o.dst v') w') :
    if Region.wanted o (yielded ops a.tmps) = true then Oper.wpIn F nF P o a w K Q else E := by
  have hw : Region.wanted o (yielded ops a.tmps) = true := by simp [Region.wanted, hgd]
  rw [if_pos hw]
  unfold Oper.wpIn
  refine ⟨by simp [Oper.about, ho, resolve, Target.leads, Sem.run_pure], ?_⟩
  rw [Oper.semAt_plain F _ _ (by rw [ho]; intro c hc'; cases hc')]
  simp [execOp, ho, resolve, invoke, builtin, hs, hx, hr, Result.andThen]
  exact h

theorem CRow.terms {w : World} {g m : Nat} {ls : List Hd} {tt : List (List Int)} (h : CRow w g m ls tt) (hm : m ≤ 1000000) : TermsAt w w.heap.size (some ⟨g, 0, none⟩) m ls tt := by
  have hlt := h.lt
  have hll := h.ll
  obtain ⟨cs, h1, h2⟩ := h.blk
  have hb : Blk w g 25 cs := h1
  exact ⟨⟨hll.symm, by omega, fun _ => ⟨g, 0, rfl, hlt, fun j hj => by rw [Nat.zero_add, hb.cell, h2 j hj]; rfl⟩⟩, h.len, fun j a b => (h.each j a b).ints⟩
theorem CRow.kept {w w' : World} {g m : Nat} {ls : List Hd} {tt : List (List Int)} {row : Option Nat} (h : CRow w g m ls tt) (hg : w.grownBy w' row) (hr : ∀ r, row = some r → ∃ o : Obj, w.heap[r]? = some o ∧ o.isCells = false) : CRow w' g m ls tt := by
  obtain ⟨cs, h1, h2⟩ := h.blk
  refine ⟨⟨cs, (hg.block g h.lt fun e => ?_).trans h1, h2⟩, h.ll, h.len, fun j a b => ?_⟩
  · obtain ⟨o, ho, hc⟩ := hr g e.symm
    rw [h1] at ho
    cases ho
    cases hc
  · have hx := h.each j a b
    refine ⟨hx.len, hx.max, fun hn => ?_⟩
    obtain ⟨b', off, e, hb, hne, hc⟩ := hx.mem hn
    exact ⟨b', off, e, Nat.lt_of_lt_of_le hb hg.size, hne, fun j hj => cell_kept (hc j hj) hg hr⟩
theorem parts_eq {ss : Sg} {zs : List Int} {tt : List (List Int)} {m : Nat} (hm : m = tt.length) (h1 : ∀ z, z ∈ tt ↔ z ∈ (List.range zs.length).map (prt ss zs)) (h2 : ∀ i j (hi : i < tt.length) (hj : j < tt.length), i < j → cmpL tt[i] tt[j] ≤ 0) : ddN tt m = partsTo ss zs zs.length := by
  subst hm
  refine InOrd.same _ _ (ddN_ord tt h2 _ (Nat.le_refl _)) (partsTo_ord ss zs _) (fun z => ?_)
  rw [ddN_mem tt z _ (Nat.le_refl _), partsTo_mem]
  constructor
  · rintro ⟨i, hi, e⟩
    have := (h1 z).1 (List.mem_of_getElem? e)
    obtain ⟨a, ha, rfl⟩ := List.mem_map.1 this
    exact ⟨a, List.mem_range.1 ha, rfl⟩
  · rintro ⟨a, ha, rfl⟩
    have := (h1 (prt ss zs a)).2 (List.mem_map.2 ⟨a, List.mem_range.2 ha, rfl⟩)
    obtain ⟨i, hi, e⟩ := List.getElem_of_mem this
    exact ⟨i, hi, by rw [List.getElem?_eq_getElem hi, e]⟩

set_option maxHeartbeats 400000 in
theorem parts_bad (As At : Option Addr) (ns cs nt ct : Nat) (ss : Sg) (zs : List Int) (w : World) (hs : SigAt w w.heap.size As ns ss) (ht : IntsAt w w.heap.size At nt zs) (hv : valOk ss zs = false) :
    Calls Try.prog 36 #[.slice As ns cs, .slice At nt ct] w (RetTs w [] 1) := by
  have C := Lib.hid (valid_any As At ns cs nt ct ss zs w hs ht)
  rw [hv] at C
  clear hv hs ht
  go_enter Try.func36, Try.ntmps36
  go_wp2_with (go_at_call 14; refine C.out.mono ?_; rintro e w1 ⟨rfl, hB⟩; have HB := Lib.hid hB)
  go_ret2
  exact ⟨none, 0, 0, [], rfl, TermsAt.nil _ _, HB.out⟩

set_option maxRecDepth 100000 in
set_option maxHeartbeats 2000000 in
theorem parts_ok (As At : Option Addr) (ns cs nt ct : Nat) (ss : Sg) (zs : List Int) (w : World) (hs : SigAt w w.heap.size As ns ss) (ht : IntsAt w w.heap.size At nt zs) (hct : nt ≤ ct) (hct2 : ct ≤ 9223372036854775807) (hv : valOk ss zs = true) :
    Calls Try.prog 36 #[.slice As ns cs, .slice At nt ct] w (RetTs w (partsTo ss zs zs.length) 0) := by
  have C := Lib.hid (valid_any As At ns cs nt ct ss zs w hs ht)
  have hsl := sigOk_len (valOk_sig hv)
  rw [← hs.len] at hsl
  rw [hv] at C
  refine callsIn_wide (n := 5) |>.1 ?_
  refine callsIn_of_wp_marks Try.func36 rfl trivial ?_ rfl
  simp only [Try.ntmps36, List.size_toArray, List.length_cons, List.length_nil, Nat.reduceAdd, Nat.reduceSub, Array.replicate_succ, Array.replicate_zero, List.push_toArray, List.append_toArray, List.nil_append, List.cons_append]
  gi_wp2_with (first
    | (refine ⟨trivial, ?_⟩; gi_at_call 14; refine (callsIn_wide.2 C.out).mono ?_; rintro e w2 ⟨rfl, hB2⟩; have HB2 := Lib.hid hB2; clear hB2)
    | (refine ⟨trivial, ?_⟩; gi_at_call 45; refine (callsIn_wide.2 (places_any _ _ _ rfl rfl _ _ _ _ _ _ rfl rfl)).mono ?_; rintro e w3 ⟨rfl, rfl⟩))
  obtain ⟨d, hd⟩ : ∃ d, w2.heap.size = d := ⟨_, rfl⟩
  obtain ⟨W9, hW9⟩ : ∃ W9, (((w2.alloc (Obj.cells #[] 25)).alloc (Obj.cells #[Value.slice (some ⟨w2.heap.size, 0, none⟩) 0 0] 36)).alloc (Obj.cells #[Value.slice As ns cs] 23)).alloc (Obj.cells #[Value.slice At nt ct] 25) = W9 := ⟨_, rfl⟩
  rw [hW9]
  have sz : W9.heap.size = d + 4 := by rw [← hW9]; simp [hd]
  have hBV : Below d w2 W9 := by
    rw [← hW9, ← hd]
    exact ((((Below.refl _ w2).alloc (Nat.le_refl _) _).alloc (by simp) _).alloc (by simp; omega) _).alloc (by simp; omega) _
  have bp : Blk W9 (d + 1) 36 #[.slice (some ⟨d, 0, none⟩) 0 0] := by
    have := ((Blk.new (w2.alloc (Obj.cells #[] 25)) 36 #[Value.slice (some ⟨w2.heap.size, 0, none⟩) 0 0]).alloc (Obj.cells #[Value.slice As ns cs] 23)).alloc (Obj.cells #[Value.slice At nt ct] 25)
    rw [World.size_alloc, hW9, hd] at this
    exact this
  have be : Blk W9 d 25 #[] := by
    have := (((Blk.new w2 25 #[]).alloc (Obj.cells #[Value.slice (some ⟨w2.heap.size, 0, none⟩) 0 0] 36)).alloc (Obj.cells #[Value.slice As ns cs] 23)).alloc (Obj.cells #[Value.slice At nt ct] 25)
    rw [hW9, hd] at this
    exact this
  have bs : Blk W9 (d + 1 + 1) 23 #[.slice As ns cs] := by
    have := (Blk.new ((w2.alloc (Obj.cells #[] 25)).alloc (Obj.cells #[Value.slice (some ⟨w2.heap.size, 0, none⟩) 0 0] 36)) 23 #[Value.slice As ns cs]).alloc (Obj.cells #[Value.slice At nt ct] 25)
    rw [World.size_alloc, World.size_alloc, hW9, hd] at this
    exact this
  have bt' : Blk W9 (d + 1 + 1 + 1) 25 #[.slice At nt ct] := by
    have := Blk.new (((w2.alloc (Obj.cells #[] 25)).alloc (Obj.cells #[Value.slice (some ⟨w2.heap.size, 0, none⟩) 0 0] 36)).alloc (Obj.cells #[Value.slice As ns cs] 23)) 25 #[Value.slice At nt ct]
    rw [World.size_alloc, World.size_alloc, World.size_alloc, hW9, hd] at this
    exact this
  obtain ⟨h1, h60, hnum, hscan⟩ := valOk_term hv
  have har := sigOk_ar (valOk_sig hv)
  have hh : HeadsOk ss zs := fun z hz => (hnum z hz).2
  have hlt := ht.len
  obtain ⟨bt, o, rfl, hbt, hpart⟩ := ht.mem (by omega)
  have hwd : w.heap.size ≤ d := by rw [← hd]; exact HB2.out.size
  have hbd : bt < d := by omega
  have HBw := Lib.hid (fun (W : World) (hb : Below d w2 W) => HB2.out.trans (hb.mono hwd))
  have HSEL := Lib.hid (prts_walk hv o)
  have hlen := (walk_is ss zs.length [] o zs (Nat.le_refl _) h1 hscan).len
  obtain ⟨i1, hi1, hy0, hy1, hy2⟩ := info_parts info_term
  subst hlt
  have HS := Lib.hid hs
  have HP := Lib.hid (show PartIn w bt o zs from hpart)
  rw [hd]
  have i0 : IQ d w2 [] W9 := by
    refine ⟨some ⟨d, 0, none⟩, 0, 0, [], bp, ⟨?_, rfl, fun j hj => by simp at hj⟩, by simp, fun _ => rfl, hBV⟩
    exact ⟨rfl, .inr ⟨d, 0, #[], rfl, Nat.le_refl _, be, Nat.le_refl _, by unfold maxLen; omega, rfl, rfl⟩⟩
  refine range_parts (gf := 69) (lb := #[.pointer (some ⟨d + 1 + 1, 0, none⟩), .pointer (some ⟨d + 1 + 1 + 1, 0, none⟩)]) rfl (enters_of Try.func69 (by kernel_rfl) rfl) (encs := Pt.encs bt) (fun _ => rfl)
    (fun x W => PtIn (d + 2) (XQ d bt) ss bt W x) (KP d (XQ d bt)) (fun xs => xs.map Pt.it = walkL ss zs.length [] o zs) (walkL ss zs.length [] o zs).length
    (IQ d w2) (IQ.own (by omega) hd)
    (fun x W l o o' hx hl ho hc => hx.keep (n₀ := d) (by omega) hbd (KP.putObj (w := W9) (by omega) W l o o' hl ho hc))
    (fun h k => KP.trans h k) (fun W l o o' hl ho hc _ => KP.putObj (w := W9) (by omega) W l o o' hl ho hc)
    i0
    ?seq (fun x => { tmps := #[.slice As ns cs, .slice (some ⟨bt, o, none⟩) zs.length ct, undef, undef, .slice none 0 0, .int .i64 0, .pointer (some ⟨d + 1, 0, none⟩), undef, .slice (some ⟨bt, x.it.2.1, none⟩) x.it.2.2.length x.cp, undef, .slice As ns cs, .slice (some ⟨bt, o, none⟩) zs.length ct, .bool true, .bool false, .slice (some ⟨d, 0, none⟩) 0 0, .slice As ns cs, .slice (some ⟨bt, o, none⟩) zs.length ct, .func (.func 69) #[] #[.pointer (some ⟨d + 1 + 1, 0, none⟩), .pointer (some ⟨d + 1 + 1 + 1, 0, none⟩)], .slice x.A x.it.1.length x.c, .slice (some ⟨bt, x.it.2.1, none⟩) x.it.2.2.length x.cp, undef, undef, undef, undef, undef, undef, undef, undef, undef, undef], defers := [] }) ?assign ?body ?done
  case seq =>
    intro l J V hV hJ hY hJ0
    have hVs : d + 4 ≤ V.heap.size := by rw [← sz]; exact hV.size
    have hBV' : Below w.heap.size w V := HBw.out V (hBV.trans (hV.mono (by omega)))
    refine places1_in d (d + 2) l bt (d + 1 + 1) (d + 1 + 1 + 1) _ 4 (XQ d bt) As ns cs o ct ss zs J (by omega) hbd har hsl.1 hsl.2 (fun b cs z hb => ?_) (fun b cs z hb _ => ?_) (fun b cs z hb => ?_)
      ⟨by omega, fun cs => ?_⟩ (fun pre A B hj _ hb => hJ pre A B hj hb) hY V h1 h60 hct hct2 hh hscan
      (bs.below hV (by omega)) (bt'.below hV (by omega)) ((HS.out.below hBV').more hwd) (by omega) (fun j hj => (hBV'.cell (p := ⟨bt, o + j, none⟩) hbt).trans (HP.out j hj)) hJ0 (Nat.le_refl _)
    · rintro (h | h | ⟨cs', z', v', h, _⟩)
      · omega
      · omega
      · cases h
    · rename_i hin
      rintro (h | h | ⟨cs', z', v', h, h1, h2⟩)
      · omega
      · omega
      · cases h
        exact h2 (hin _ h1)
    · rintro (h | h | ⟨cs', z', v', h, _⟩)
      · omega
      · omega
      · cases h
    · rintro (h | h | ⟨cs', z', v', h, _⟩)
      · omega
      · omega
      · cases h
  case assign =>
    intro l m x W K hK
    unfold Pt.encs
    gi_wp2
    exact hK
  case body =>
    rintro l m pre x W ⟨Av, cv, mm, ls, hBk, hR, hfar, hz, hB⟩ hx hlen2
    have hWs : d + 2 ≤ W.heap.size := by have := hBk.lt; have := hB.size; omega
    have hxl := hx.len
    have HCL := Lib.hid (cloneT_any W.drew bt x.it.2.1 x.it.2.2.length x.cp x.it.2.2 hxl.1 (by omega) rfl (fun j hj => hx.part j hj) (by show bt < W.heap.size; omega))
    have cpW := hBk.cell 0
    have fpW := hBk.frozen 0
    simp only [Array.getElem?_singleton, if_true] at cpW
    have hmm : mm ≤ 60 := by
      have h1 := hR.len
      rw [List.length_map] at h1
      rw [hlen] at hlen2
      omega
    have HR := Lib.hid hR
    have HBK := Lib.hid hBk
    have HFAR := Lib.hid hfar
    have HZ := Lib.hid hz
    have HB := Lib.hid hB
    have HXL := Lib.hid hxl
    have hHX := Lib.hid hx
    obtain ⟨L, hL⟩ : ∃ L, x.it.2.2 = L := ⟨_, rfl⟩
    have HL := Lib.hid hL
    rw [hL] at HCL hxl
    clear hR hBk hfar hz hB hx hL
    obtain ⟨n, hLn⟩ : ∃ n, L.length = n := ⟨_, rfl⟩
    rw [hLn] at HCL hxl
    have hLN := Lib.hid hLn
    rw [HL.out, hLn]
    have hLH := Lib.hid hLn
    clear hLn hLN
    have hmx : Try.prog.follows .mixedOrders = true := by kernel_rfl
    have hnp : 0 < n := by omega
    have hn60 : n ≤ 60 := by omega
    have hCALL : Calls Try.prog 50 #[.slice (some ⟨bt, x.it.2.1, none⟩) n x.cp] W.drew fun e W1 => ∃ (A1 : Option Addr) (c1 g4 cap4 : Nat) (W4 : World), e = .returned (.slice A1 n c1) ∧
        W1.cell? ⟨d + 1, 0, none⟩ = some (.slice Av mm cv) ∧ (∀ o, (W1.alloc o).cell? ⟨d + 1, 0, none⟩ = some (.slice Av mm cv)) ∧
        (Builtin.append_ #[36, 36] 36 #[.slice Av mm cv, .slice (some ⟨W1.heap.size, 0, none⟩) 1 1]).run Try.prog (W1.alloc (.cells #[.slice A1 n c1] 25)) = .ok (.slice (some ⟨g4, 0, none⟩) (mm + 1) cap4) W4 ∧
        W4.cell? ⟨d + 1, 0, none⟩ = some (.slice Av mm cv) ∧ W4.frozen? ⟨d + 1, 0, none⟩ = false ∧
        Hid (Below W.heap.size W W1 ∧ RowsAt 25 W4 d (.slice (some ⟨g4, 0, none⟩) (mm + 1) cap4) (mm + 1) (ls ++ [(A1, n, c1)]) (pre.map (fun x => x.it.2.2) ++ [L]) ∧ (W1.alloc (.cells #[.slice A1 n c1] 25)).grownBy W4 (Value.slice Av mm cv).ownBlock ∧
          Blk W4 (d + 1) 36 #[.slice Av mm cv] ∧ ∃ b off, A1 = some ⟨b, off, none⟩ ∧ W.heap.size ≤ b) := by
      refine HCL.out.mono ?_
      rintro e W1 ⟨v1, rfl, hrow1, hB1⟩
      rw [List.length_map] at hrow1
      obtain ⟨A1, c1, e1, hI1, hcap1⟩ := IntsBut.of_row_c (g := (Value.slice Av mm cv).ownBlock) hrow1 (by rw [hLH.out]; omega) (fun k e => (HR.out.row.lt k e).2)
      obtain ⟨_, g1, cg1, e2, hg1, _, _⟩ := row_ints_at hrow1 (by rw [hLH.out]; omega)
      rw [hLH.out] at e1 e2 hI1
      rw [e1] at e2
      subst e1
      have hbl : Below W.heap.size W W1 := ((Below.refl _ W).drew).trans hB1
      have hR1 := HR.out.below hbl
      have cp1 : W1.cell? ⟨d + 1, 0, none⟩ = some (.slice Av mm cv) := (hbl.cell (p := ⟨d + 1, 0, none⟩) (by show d + 1 < W.heap.size; omega)).trans cpW
      have hsz := hbl.size
      obtain ⟨v4, W4, hrun, hown4, hg4, _, hv4⟩ := run_append_own_at (P := Try.prog) (W1.alloc (.cells #[Hd.val (A1, n, c1)] 25)) d 36 36 25 i1 _ 1 24 Try.underlying36 hi1 hy0 hy1 hy2 rfl (by omega) (.slice Av mm cv) mm (ls.map Hd.val) (hR1.row.alloc _) ⟨W1.heap.size, 0, none⟩ 1 1 [Hd.val (A1, n, c1)] rfl
             (World.news_of_block (cs := #[Hd.val (A1, n, c1)]) (t := 25) (fr := (0, 0)) (heap_alloc_new W1 _)) (by simp [Value.oneCell', Hd.val]) (by unfold maxLen; omega) (by omega) (by rw [World.size_alloc]; omega)
      have hR4 := (hR1.below ((Below.refl _ _).alloc (Nat.le_refl _) (.cells #[Hd.val (A1, n, c1)] 25))).push (x := (A1, n, c1)) (hI1.below ((Below.refl _ _).alloc (Nat.le_refl _) (.cells #[Hd.val (A1, n, c1)] 25))) hown4 hg4 hv4
      obtain ⟨g4, cap4, e4, _⟩ := hown4.form (by omega)
      subst e4
      have hne : some (d + 1) ≠ (Value.slice Av mm cv).ownBlock := fun e => by
        obtain ⟨cs', h1⟩ := row_cells HR.out.row e.symm
        have h2 : W.heap[d + 1]? = some (.cells _ 36 (0, 0)) := HBK.out
        rw [h1] at h2
        cases h2
      have hblk4 : Blk W4 (d + 1) 36 #[.slice Av mm cv] := (hg4.block _ (by rw [World.size_alloc]; omega) hne).trans ((Below.heap_alloc _ _ _ (by omega)).trans (HBK.out.below hbl (by omega)))
      have cp4 := hblk4.cell 0
      simp only [Array.getElem?_singleton, if_true] at cp4
      cases e2
      exact ⟨_, _, g4, cap4, W4, rfl, cp1, fun o => (alloc_keep W1 o _ (by show d + 1 < W1.heap.size; omega)).trans cp1, hrun, cp4, hblk4.frozen 0, Lib.hid ⟨hbl, hR4, hg4, hblk4, g1, 0, rfl, hg1⟩⟩
    have HEND : Hid (∀ (A1 : Option Addr) (c1 g4 cap4 : Nat) (W1 W4 : World), (Below W.heap.size W W1 ∧ RowsAt 25 W4 d (.slice (some ⟨g4, 0, none⟩) (mm + 1) cap4) (mm + 1) (ls ++ [(A1, n, c1)]) (pre.map (fun x => x.it.2.2) ++ [L]) ∧ (W1.alloc (.cells #[.slice A1 n c1] 25)).grownBy W4 (Value.slice Av mm cv).ownBlock ∧
          Blk W4 (d + 1) 36 #[.slice Av mm cv] ∧ ∃ b off, A1 = some ⟨b, off, none⟩ ∧ W.heap.size ≤ b) →
        KeepsFrom (d + 4) W (W4.setCell ⟨d + 1, 0, none⟩ (.slice (some ⟨g4, 0, none⟩) (mm + 1) cap4)) ∧ KP d (XQ d bt) W (W4.setCell ⟨d + 1, 0, none⟩ (.slice (some ⟨g4, 0, none⟩) (mm + 1) cap4)) ∧ IQ d w2 (pre ++ [x]) (W4.setCell ⟨d + 1, 0, none⟩ (.slice (some ⟨g4, 0, none⟩) (mm + 1) cap4))) := by
      refine Lib.hid ?_
      rintro A1 c1 g4 cap4 W1 W4 ⟨hbl, hR4, hg4, hblk4, b1, off1, rfl, hb1⟩
      have hsz := hbl.size
      have hWA : Below W.heap.size W (W1.alloc (.cells #[.slice (some ⟨b1, off1, none⟩) n c1] 25)) := hbl.alloc hsz _
      have hrowQ := row_XQ hbd HR.out HFAR.out HZ.out
      have hrowc : ∀ g, (Value.slice Av mm cv).ownBlock = some g → d ≤ g ∧ ∃ cs, (W1.alloc (.cells #[.slice (some ⟨b1, off1, none⟩) n c1] 25)).heap[g]? = some (.cells cs 25 (0, 0)) := fun g e =>
        ⟨(HR.out.row.lt g e).1, by obtain ⟨cs, h⟩ := row_cells HR.out.row e; exact ⟨cs, (hWA.block g (HR.out.row.lt g e).2).trans h⟩⟩
      have hrowq : ∀ g, (Value.slice Av mm cv).ownBlock = some g → d ≤ g ∧ ∀ o, (W1.alloc (.cells #[.slice (some ⟨b1, off1, none⟩) n c1] 25)).heap[g]? = some o → XQ d bt g o := fun g e =>
        ⟨(hrowQ g e).1, fun o ho => (hrowQ g e).2 o ((hWA.block g (HR.out.row.lt g e).2).symm.trans ho)⟩
      have hfar' : ∀ y ∈ ls ++ [((some ⟨b1, off1, none⟩ : Option Addr), n, c1)], ∃ b off, y.1 = some ⟨b, off, none⟩ ∧ d + 2 ≤ b := by
        intro y hy
        rcases List.mem_append.1 hy with h | h
        · exact HFAR.out y h
        · obtain rfl := List.mem_singleton.1 h
          exact ⟨b1, off1, rfl, by omega⟩
      have hszA : (W1.alloc (.cells #[.slice (some ⟨b1, off1, none⟩) n c1] 25)).heap.size = W1.heap.size + 1 := World.size_alloc _ _
      refine ⟨?_, ?_, some ⟨g4, 0, none⟩, cap4, mm + 1, ls ++ [(some ⟨b1, off1, none⟩, n, c1)], hblk4.set_ 0 _, ?_, hfar', fun h => by omega, ?_⟩
      · exact (((keeps_grown (grown_of_below hWA) (fun r e => by cases e)).trans (keeps_grown hg4 (fun g e => by obtain ⟨_, cs, h⟩ := hrowc g e; exact ⟨cs, _, _, h⟩))).trans (KeepsOthers.setCell _ _ _)).from _
      · exact ((KP.of_below hWA (by omega)).trans (KP.grownQ hg4 (by omega) hrowq)).trans (KP.setXQ W4 _ (by omega))
      · rw [List.map_append, List.map_cons, List.map_nil, HL.out]
        refine hR4.far (fun e => ?_) (fun j a b off e1 _ => ?_)
        · obtain ⟨cs', h1⟩ := row_cells hR4.row e
          have h2 : W4.heap[d + 1]? = some (.cells _ 36 (0, 0)) := hblk4
          rw [h1] at h2
          cases h2
        · obtain ⟨b2, off2, e2, h2⟩ := hfar' _ (List.getElem_mem a)
          rw [e2] at e1
          cases e1
          omega
      · exact ((HB.out.trans (hWA.mono (by omega))).grown hg4 (by omega) (fun k e => (hrowc k e).1)).setCell (p := ⟨d + 1, 0, none⟩) (by show d ≤ d + 1; omega) _
    have HCALL := Lib.hid hCALL
    clear hCALL HCL
    gi_wp2
    refine wpIn_region_any hmx ?_
    change wpAnyIn _ _ _ _ _ _ _ _ _ (World.drew _)
    refine wpAnyIn_ready (rs := [0, 1]) (by kernel_rfl) (by simp) ?_
    refine AllReadyIn.cons rfl (fun K hK => ?_) (AllReadyIn.cons rfl (fun K hK => ?_) AllReadyIn.nil)
    · go_simp
      refine hK _ _ ?_
      clear hK K
      refine wpAnyIn_ready (rs := [1]) (by kernel_rfl) (by simp) ?_
      refine AllReadyIn.cons rfl (fun K hK => ?_) AllReadyIn.nil
      go_simp
      refine hK _ _ ?_
      clear hK K
      refine wpAnyIn_ready (rs := [2]) (by kernel_rfl) (by simp) ?_
      refine AllReadyIn.cons rfl (fun K hK => ?_) AllReadyIn.nil
      go_simp
      gi_wp2_with ((first | refine ⟨trivial, fun h => (by cases h), ?_⟩ | refine ⟨trivial, ?_⟩); gi_at_call 50; refine (CallsIn.inRound l (callsIn_wide.2 HCALL.out)).mono ?_; rintro e W1 ⟨A1, c1, g4, cap4, W4, rfl, cp1, cp2, hrun, cp4, fp4, HF⟩)
      try (refine hK _ _ ?_; clear hK K)
      refine wpAnyIn_ready (rs := [3]) (by kernel_rfl) (by simp) ?_
      refine AllReadyIn.cons rfl (fun K hK => ?_) AllReadyIn.nil
      go_simp
      refine hK _ _ ?_
      clear hK K
      refine wpAnyIn_ready (rs := [4]) (by kernel_rfl) (by simp) ?_
      refine AllReadyIn.cons rfl (fun K hK => ?_) AllReadyIn.nil
      refine stepIn_append_run rfl _ _ _ rfl _ _ _ rfl rfl hrun ?_
      refine hK _ _ ?_
      clear hK K
      refine wpAnyIn_ready (rs := [5]) (by kernel_rfl) (by simp) ?_
      refine AllReadyIn.cons rfl (fun K hK => ?_) AllReadyIn.nil
      go_simp
      refine hK _ _ ?_
      clear hK K
      refine wpAnyIn_done (by kernel_rfl) ?_ _
      gi_wp2
      exact HEND.out _ _ _ _ _ _ HF.out
    · go_simp
      refine hK _ _ ?_
      clear hK K
      refine wpAnyIn_ready (rs := [0, 2]) (by kernel_rfl) (by simp) ?_
      refine AllReadyIn.cons rfl (fun K hK => ?_) (AllReadyIn.cons rfl (fun K hK => ?_) AllReadyIn.nil)
      · go_simp
        refine hK _ _ ?_
        clear hK K
        refine wpAnyIn_ready (rs := [2]) (by kernel_rfl) (by simp) ?_
        refine AllReadyIn.cons rfl (fun K hK => ?_) AllReadyIn.nil
        go_simp
        gi_wp2_with ((first | refine ⟨trivial, fun h => (by cases h), ?_⟩ | refine ⟨trivial, ?_⟩); gi_at_call 50; refine (CallsIn.inRound l (callsIn_wide.2 HCALL.out)).mono ?_; rintro e W1 ⟨A1, c1, g4, cap4, W4, rfl, cp1, cp2, hrun, cp4, fp4, HF⟩)
        try (refine hK _ _ ?_; clear hK K)
        refine wpAnyIn_ready (rs := [3]) (by kernel_rfl) (by simp) ?_
        refine AllReadyIn.cons rfl (fun K hK => ?_) AllReadyIn.nil
        go_simp
        refine hK _ _ ?_
        clear hK K
        refine wpAnyIn_ready (rs := [4]) (by kernel_rfl) (by simp) ?_
        refine AllReadyIn.cons rfl (fun K hK => ?_) AllReadyIn.nil
        refine stepIn_append_run rfl _ _ _ rfl _ _ _ rfl rfl hrun ?_
        refine hK _ _ ?_
        clear hK K
        refine wpAnyIn_ready (rs := [5]) (by kernel_rfl) (by simp) ?_
        refine AllReadyIn.cons rfl (fun K hK => ?_) AllReadyIn.nil
        go_simp
        refine hK _ _ ?_
        clear hK K
        refine wpAnyIn_done (by kernel_rfl) ?_ _
        gi_wp2
        exact HEND.out _ _ _ _ _ _ HF.out
      · go_simp
        gi_wp2_with ((first | refine ⟨trivial, fun h => (by cases h), ?_⟩ | refine ⟨trivial, ?_⟩); gi_at_call 50; refine (CallsIn.inRound l (callsIn_wide.2 HCALL.out)).mono ?_; rintro e W1 ⟨A1, c1, g4, cap4, W4, rfl, cp1, cp2, hrun, cp4, fp4, HF⟩)
        try (refine hK _ _ ?_; clear hK K)
        refine wpAnyIn_ready (rs := [0, 3]) (by kernel_rfl) (by simp) ?_
        refine AllReadyIn.cons rfl (fun K hK => ?_) (AllReadyIn.cons rfl (fun K hK => ?_) AllReadyIn.nil)
        · go_simp
          refine hK _ _ ?_
          clear hK K
          refine wpAnyIn_ready (rs := [3]) (by kernel_rfl) (by simp) ?_
          refine AllReadyIn.cons rfl (fun K hK => ?_) AllReadyIn.nil
          go_simp
          refine hK _ _ ?_
          clear hK K
          refine wpAnyIn_ready (rs := [4]) (by kernel_rfl) (by simp) ?_
          refine AllReadyIn.cons rfl (fun K hK => ?_) AllReadyIn.nil
          refine stepIn_append_run rfl _ _ _ rfl _ _ _ rfl rfl hrun ?_
          refine hK _ _ ?_
          clear hK K
          refine wpAnyIn_ready (rs := [5]) (by kernel_rfl) (by simp) ?_
          refine AllReadyIn.cons rfl (fun K hK => ?_) AllReadyIn.nil
          go_simp
          refine hK _ _ ?_
          clear hK K
          refine wpAnyIn_done (by kernel_rfl) ?_ _
          gi_wp2
          exact HEND.out _ _ _ _ _ _ HF.out
        · go_simp
          refine hK _ _ ?_
          clear hK K
          refine wpAnyIn_ready (rs := [0]) (by kernel_rfl) (by simp) ?_
          refine AllReadyIn.cons rfl (fun K hK => ?_) AllReadyIn.nil
          go_simp
          refine hK _ _ ?_
          clear hK K
          refine wpAnyIn_ready (rs := [4]) (by kernel_rfl) (by simp) ?_
          refine AllReadyIn.cons rfl (fun K hK => ?_) AllReadyIn.nil
          refine stepIn_append_run rfl _ _ _ rfl _ _ _ rfl rfl hrun ?_
          refine hK _ _ ?_
          clear hK K
          refine wpAnyIn_ready (rs := [5]) (by kernel_rfl) (by simp) ?_
          refine AllReadyIn.cons rfl (fun K hK => ?_) AllReadyIn.nil
          go_simp
          refine hK _ _ ?_
          clear hK K
          refine wpAnyIn_done (by kernel_rfl) ?_ _
          gi_wp2
          exact HEND.out _ _ _ _ _ _ HF.out
  case done =>
    rintro D xs W hD hS ⟨Av, cv, mm, ls, hBk, hR, hfar, hz, hB⟩ hK
    have hpm : xs.map (fun x => x.it.2.2) = (List.range zs.length).map (prt ss zs) := by
      rw [← HSEL.out, ← hS, List.map_map]
      rfl
    rw [hpm] at hR
    have hmz : mm = zs.length := by have := hR.len; simpa using this
    obtain ⟨g, cap, eg, _⟩ := hR.row.form (by omega)
    cases eg
    obtain ⟨hC, hdg, hmc, hc2⟩ := CRow.of_rows hR (by omega)
    have hgD : g ≠ D := fun e => by
      obtain ⟨cs', h1, _⟩ := hC.blk
      rw [e] at h1
      rw [hK] at h1
      cases h1
    have hgd : g ≠ d + 1 := fun e => by
      obtain ⟨cs', h1, _⟩ := hC.blk
      have h2 : W.heap[d + 1]? = some (.cells _ 36 (0, 0)) := hBk
      rw [e, h2] at h1
      cases h1
    have hdl : d + 1 < W.heap.size := hBk.lt
    have hDl : D < W.heap.size := (Array.getElem?_eq_some_iff.1 hK).1
    have cp1 := hBk.cell 0
    simp only [Array.getElem?_singleton, if_true] at cp1
    have hCALL1 := (sortT_any g mm cv ls _ W hC (by omega)).mono (R' := fun e V1 => e = .returned (.tuple #[]) ∧ V1.cell? ⟨d + 1, 0, none⟩ = some (.slice (some ⟨g, 0, none⟩) mm cv) ∧ ∃ ls' tt', Hid (CRow V1 g mm ls' tt' ∧ (∀ z, z ∈ tt' ↔ z ∈ (List.range zs.length).map (prt ss zs)) ∧ (∀ i j (hi : i < tt'.length) (hj : j < tt'.length), i < j → cmpL tt'[i] tt'[j] ≤ 0) ∧ W.grownBy V1 (some g))) (fun e V1 ⟨h1, ls', tt', h2, h3, h4, h5⟩ =>
      ⟨h1, (World.cell?_of_block (h5.block (d + 1) hdl (fun e => hgd (by cases e; rfl)))).trans cp1, ls', tt', h2, h3, h4, h5⟩)
    have HC1 := Lib.hid hCALL1
    have HK := Lib.hid hK
    have hmm60 : mm ≤ 60 := by omega
    have HBF := Lib.hid (HBw.out W hB)
    clear hCALL1 hC hR hfar hz hB hBk hpm hS hK hmz
    gi_wp2_with (first
      | (refine ⟨trivial, ?_⟩; gi_at_call 60; refine (callsIn_wide.2 HC1.out).mono ?_; rintro e V1 ⟨rfl, cp2, ls', tt', HF⟩)
      | (refine ⟨trivial, ?_⟩; gi_at_call 62; refine (callsIn_wide.2 (compact_any g mm cv ls' tt' V1 HF.out.1 (by omega) hmc hc2)).mono ?_; rintro e V2 ⟨n2, ls2, rfl, hC2, hn2, hg2⟩; have HF2 := Lib.hid (And.intro hC2 hg2); clear hC2 hg2))
    obtain ⟨hC2, hg2⟩ := HF2.out
    obtain ⟨hC1, hmem, hord, hg1⟩ := HF.out
    have hgg := hg1.trans hg2
    have hK2 : V2.heap[D]? = some (.deferred (some [])) := (hgg.block D hDl (fun e => hgD (by cases e; rfl))).trans HK.out
    have hV2 : Below w.heap.size w V2 := HBF.out.grown hgg HBF.out.size (fun k e => by cases e; omega)
    refine ⟨by simp, .inl ⟨_, _, rfl, run_takeDeferred hK2, ?_⟩⟩
    refine ⟨_, results_tmp2 rfl _ _ _, ?_⟩
    have hC3 := (hC2.kept (grownBy_putObj' V2 D (.deferred none)) (fun r e => by cases e; exact ⟨_, hK2, rfl⟩)).terms (by omega)
    rw [parts_eq hC1.len hmem hord] at hC3
    exact ⟨_, _, _, _, rfl, hC3, hV2.trans (belowK_b (w := w) (Nat.le_refl _) V2 D _ _ (by omega) hK2 rfl rfl)⟩

end Go.Proofs.Ytmccdmpemlmkkaa
