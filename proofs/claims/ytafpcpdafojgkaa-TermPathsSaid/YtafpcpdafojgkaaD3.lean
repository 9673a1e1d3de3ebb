/- Contracts: the reference's Paths, SamePaths of equal lists. -/
import Derived.Test.YtafpcpdafojgkaaD2
import Derived.Test.YtafpcpdafojgkaaB7
import Derived.Test.YtafpcpdafojgkaaG1
namespace Go.Proofs.Ytafpcpdafojgkaa
open Go.RowKit

theorem wpList_append_nil {P : Program} {ops : Array Oper} {rest : List Oper} {o : Oper} {a : Act} {w : World} {Q : Exit → Act → World → Prop} (hgd : o.guard = none) (s x : Operand) (t : TypeId)
    (ho : o.op = .call { callee := .builtin .append, args := #[s, x], argTypes := #[t, t] })
    (base : Nat) (e : TypeId) (i : TypeInfo) (size : Nat) (ht : P.underlying t = some (.slice e)) (hi : P.info? e = some i)
    (v : Value) (n : Nat) (xs : List Value) (hs : a.eval s = v) (hown : w.ownsRow base e size v n xs) (hx : a.eval x = .slice none 0 0)
    (h : wpList P ops Q rest (a.put o.dst v) w) : wpList P ops Q (o :: rest) a w := by
  refine wpList_plain hgd fun K hK => ?_
  have hr := run_append_owned_none (P := P) w base t o.type e i size ht hi v n xs hown
  unfold Oper.wp execOp
  simp only [ho, resolve, invoke, builtin, Sem.run_bind, Sem.run_pure, Result.andThen_ok, List.map_toArray, List.map_cons, List.map_nil, hs, hx, hr]
  exact hK _ _ h

theorem WaysAt.all {ss : Sg} {zs : List Int} {W : World} {b0 n : Nat} {ls : List Hd} (h : WaysAt ss zs W b0 n n 0 ls) (hw : WalkIs ss zs.length [] 0 zs) (hn : n = zs.length) {i : Nat} (hi : i < n) :
    ∃ x, ls[i]? = some x ∧ W.cell? ⟨b0, i, none⟩ = some x.val ∧ IntsBut W (some b0) x.1 x.2.1 (pthI ss zs i) := by
  have hl : i < ls.length := by rw [h.len]; exact hi
  refine ⟨ls[i], List.getElem?_eq_getElem hl, ?_, h.done i _ (List.getElem?_eq_getElem hl) ?_⟩
  · rw [h.blk.cell, List.getElem?_toArray, List.getElem?_map, List.getElem?_eq_getElem hl]; rfl
  · rcases Nat.eq_zero_or_pos i with h0 | h0
    · exact .inl h0
    · obtain ⟨a', k, q1, q2, q3⟩ := hw.par i h0 (by omega)
      exact .inr ⟨a', k, .inl (by omega), by omega, q2, q3⟩

set_option maxHeartbeats 400000 in
theorem refPaths_bad (As At Au : Option Addr) (ns cs nt ct nu cu : Nat) (ss : Sg) (zs us : List Int) (w : World) (hs : SigAt w w.heap.size As ns ss) (ht : IntsAt w w.heap.size At nt zs) (hu : IntsAt w w.heap.size Au nu us) (hv : pathsOk ss zs us = false) :
    Calls Try.prog 38 #[.slice As ns cs, .slice At nt ct, .slice Au nu cu] w (RetTs w [] 1) := by
  have C := Lib.hid (refValid_any As At ns cs nt ct ss zs w _ hs ht)
  have C2 := Lib.hid (fun m => refValid_any As Au ns cs nu cu ss us (w.drewN m) w.heap.size (hs.keep fun _ _ => rfl) (hu.keep fun _ _ => rfl))
  have HD : Hid (∀ k, Below w.heap.size w (w.drewN k)) := fun k => below_drewN (Below.refl _ _) k
  unfold pathsOk at hv
  cases h1 : valOk ss zs
  · rw [h1] at C
    clear hs ht hu hv h1
    go_enter Try.func38, Try.ntmps38
    go_wp2_with (go_at_call 19; refine C.out.mono ?_; rintro e w1 ⟨rfl, j1, rfl⟩)
    go_ret2
    exact ⟨none, 0, 0, [], rfl, TermsAt.nil _ _, HD.out _⟩
  · have h2 : valOk ss us = false := by simpa [h1] using hv
    rw [h1] at C
    simp only [h2] at C2
    clear hs ht hu hv h1 h2
    go_enter Try.func38, Try.ntmps38
    go_wp2_with (first
      | (go_at_call 19; with_reducible refine C.out.mono ?_; rintro e w1 ⟨rfl, j1, rfl⟩)
      | (go_at_call 19; refine (C2.out _).mono ?_; rintro e w2 ⟨rfl, j2, rfl⟩))
    go_ret2
    exact ⟨none, 0, 0, [], rfl, TermsAt.nil _ _, HD.out _⟩

set_option maxRecDepth 100000 in
set_option maxHeartbeats 2000000 in
theorem refPaths_ok (As At Au : Option Addr) (ns cs nt ct nu cu : Nat) (ss : Sg) (zs us : List Int) (w : World) (hs : SigAt w w.heap.size As ns ss) (ht : IntsAt w w.heap.size At nt zs) (hu : IntsAt w w.heap.size Au nu us) (hct : nt ≤ ct) (hct2 : ct ≤ 9223372036854775807) (hvv : pathsOk ss zs us = true) :
    Calls Try.prog 38 #[.slice As ns cs, .slice At nt ct, .slice Au nu cu] w (RetTs w (pathsTo ss zs us zs.length) 0) := by
  obtain ⟨i0, hi, hz0, hz1, hz2⟩ := info_parts info_int
  obtain ⟨i1, hi1, hy0, hy1, hy2⟩ := info_parts info_ints
  obtain ⟨hv, hvu⟩ : valOk ss zs = true ∧ valOk ss us = true := by simpa [pathsOk] using hvv
  have C := Lib.hid (refValid_any As At ns cs nt ct ss zs w _ hs ht)
  rw [hv] at C
  have C2 := Lib.hid (fun m => refValid_any As Au ns cs nu cu ss us (w.drewN m) w.heap.size (hs.keep fun _ _ => rfl) (hu.keep fun _ _ => rfl))
  simp only [hvu] at C2
  have HD : Hid (∀ k, Below w.heap.size w (w.drewN k)) := fun k => below_drewN (Below.refl _ _) k
  have C3 := Lib.hid (fun V (hb : Below w.heap.size w V) => refWays_any As At ns cs nt ct ss zs V (hs.up hb) (ht.up hb) hv)
  obtain ⟨h1, h60, hnum, _⟩ := valOk_term hv
  have hlt := ht.len
  have hw := walk_of hv
  have C4 := Lib.hid (fun V (hb : Below w.heap.size w V) a (ha : a < nt) => by
    obtain ⟨p1, r0, p2⟩ := hw.part a (by omega)
    exact refPart_any As At ns cs nt ct ss zs r0 a V (hs.up hb) (ht.up hb) (sigOk_ar (valOk_sig hv)) (fun z hz => (hnum z hz).2) (by omega) hct hct2 p1 p2)
  have HPL := Lib.hid (fun a (ha : a < nt) => show (prt ss zs a).length ≤ 60 by
    have := (hw.part a (by omega)).is.le
    omega)
  have HPI := Lib.hid (fun i => pthI_len hv i)
  have HPN := Lib.hid (fun a (h0 : 0 < a) (ha : a < nt) => show 0 < (pthI ss zs a).length by
    obtain ⟨a', k, q1, q2, q3⟩ := hw.par a h0 (by omega)
    rw [← q3, pth_step hv (by omega) q2]
    simp)
  have HU := Lib.hid (fun V (hb : Below w.heap.size w V) => hu.up hb)
  have HALL := Lib.hid (fun (W : World) b0 ls (h : WaysAt ss zs W b0 nt nt 0 ls) i (hi : i < nt) => h.all hw hlt hi)
  have HY := Lib.hid (fun k (h : prt ss zs k = us) => pathsTo_yes h)
  have HN := Lib.hid (fun k (h : prt ss zs k ≠ us) => pathsTo_no h)
  have HLE := Lib.hid (fun k => pathsTo_le ss zs us k)
  have HFIN := Lib.hid (show pathsTo ss zs us zs.length = pathsTo ss zs us nt by rw [hlt])
  have hnt60 : nt ≤ 60 := by omega
  obtain ⟨pt, hpt⟩ : ∃ pt, pathsTo ss zs us = pt := ⟨_, rfl⟩
  simp only [hpt] at HY HN HLE HFIN
  have HP0 := Lib.hid (show pt 0 = [] by rw [← hpt]; rfl)
  rw [hpt, HFIN.out]
  clear hs ht hu hvv hv hvu h1 h60 hnum hlt hw hpt hct hct2
  go_enter Try.func38, Try.ntmps38
  go_wp2_with (first
    | (go_at_call 19; with_reducible refine C.out.mono ?_; rintro e w1 ⟨rfl, j1, rfl⟩)
    | (go_at_call 19; refine (C2.out _).mono ?_; rintro e w2 ⟨rfl, j2, rfl⟩)
    | (go_at_call 78; refine (C3.out _ (HD.out _)).mono ?_; rintro e w3 ⟨lw, rfl, hW, hB3⟩; have HW : Hid (WaysAt ss zs w3 w.heap.size nt nt 0 lw) := Lib.hid hW; have HB3 := Lib.hid (below_then (HD.out _) hB3); clear hW hB3))
  obtain ⟨N, hN⟩ : ∃ N, w.heap.size = N := ⟨_, rfl⟩
  have HNN := Lib.hid hN
  rw [hN] at HW
  rw [hN]
  clear hN
  go_loopw [9, 10] (fun v i wr => ∃ (a : Nat) (ls : List Hd) (Av : Option Addr) (cv m : Nat), a ≤ nt ∧ i = .int .i64 a ∧ v = .slice Av m cv ∧ RowsAt 24 wr w3.heap.size (.slice Av m cv) m ls (pt a) ∧ Below w3.heap.size w3 wr) (fun _ i _ => nt - (intOf i).toNat)
  case atStart => exact ⟨0, [], none, 0, 0, Nat.zero_le _, rfl, rfl, by rw [HP0.out]; exact RowsAt.nil _ _ _, Below.refl _ _⟩
  case round =>
    obtain ⟨a, ls, Av, cv, m, ha, rfl, rfl, hR, hB⟩ := hrel
    have HR := Lib.hid hR
    have HBR := Lib.hid hB
    have HBw := Lib.hid (below_then HB3.out hB)
    by_cases hlt : a < nt
    · have C5 := Lib.hid (C4.out wr HBw.out a hlt)
      have hpl := HPL.out a hlt
      have hml : m ≤ 60 := by
        have h1 := hR.len
        have h2 := HLE.out a
        omega
      have ha0 : (0 : Int) ≤ (a : Int) := by omega
      have ha1 : (a : Int) < (nt : Int) := by omega
      obtain ⟨x, hx1, hx2, hx3⟩ := HALL.out _ _ _ (HW.out.below hB) a hlt
      obtain ⟨A1, n1, c1⟩ := x
      have hxz : a = 0 → A1 = none ∧ n1 = 0 ∧ c1 = 0 := fun h => by
        have h9 : lw[a]? = some (none, 0, 0) := by rw [h]; exact HW.out.zero
        rw [hx1] at h9
        cases h9
        exact ⟨rfl, rfl, rfl⟩
      have hy := HY.out a
      have hn := HN.out a
      obtain ⟨P, hP⟩ : ∃ P, prt ss zs a = P := ⟨_, rfl⟩
      rw [hP] at C5 hpl hy hn
      have hn1l := hx3.len
      have hpi := HPI.out a
      simp only at hx2 hx3 hn1l
      have hn160 : n1 ≤ 60 := by omega
      have HX3 := Lib.hid hx3
      have hNlt := (HW.out.below hB).blk.lt
      have hpn := HPN.out a
      have hn1p : ¬ a = 0 → 0 < n1 := fun h => by have := hpn (by omega) hlt; omega
      have HLN := Lib.hid hn1l
      clear hR hB hx1 hx3 hP hpi hn1l hpn
      by_cases heq : P = us
      · have H := Lib.hid (hy heq)
        have hde : decide (P = us) = true := decide_eq_true heq
        have HDE := Lib.hid hde
        clear hy hn heq hde
        by_cases ha00 : a = 0
        · obtain ⟨rfl, rfl, rfl⟩ := hxz ha00
          have HPE := Lib.hid (show pthI ss zs a = [] from List.eq_nil_of_length_eq_zero HLN.out.symm)
          clear hxz hn1p ha00
          have HIE := Lib.hid (fun (W : World) A => show IntsBut W (Value.slice Av m cv).ownBlock A 0 (pthI ss zs a) by
            rw [HPE.out]
            exact ⟨rfl, by omega, fun h => absurd h (by omega)⟩)
          go_wp2_with (first
          | (go_at_call 71; refine C5.out.mono ?_; rintro e w4 ⟨v4, rfl, hrow4, hB4⟩
             obtain ⟨A4, c4, e4, hI4⟩ := row_ints hrow4 (by omega)
             subst e4
             have HI4 := Lib.hid hI4
             have HR4 := Lib.hid (HR.out.below hB4)
             have HU4 := Lib.hid (HU.out _ (below_then HBw.out hB4))
             have hx4 := (hB4.cell (p := ⟨N, a, none⟩) hNlt).trans hx2
             have HX4 := Lib.hid (HX3.out.below hB4)
             have hN4 : N < w4.heap.size := Nat.lt_of_lt_of_le hNlt hB4.size
             have HB4 := Lib.hid (HBR.out.trans (hB4.mono HBR.out.size))
             clear hrow4 hI4 hB4)
          | (go_at_call 31; refine (same_any _ _ _ _ _ _ P us _ _ HI4.out HU4.out).mono ?_; rintro e w5 ⟨rfl, j5, rfl⟩; rw [HDE.out]; have HR5 := Lib.hid (HR4.out.below (below_drewN (Below.refl _ _) j5)); have HX5 := Lib.hid (HX4.out.below (below_drewN (Below.refl _ _) j5)); have HB5 := Lib.hid (below_drewN HB4.out j5)
             have hx5 := (((Below.refl (w4.drewN j5).heap.size (w4.drewN j5)).alloc (Nat.le_refl _) (.cells #[] 3)).cell (p := ⟨N, a, none⟩) hN4).trans (show (w4.drewN j5).cell? ⟨N, a, none⟩ = _ from hx4)
             have HO5 : Hid (((w4.drewN j5).alloc (.cells #[] 3)).ownsRow w4.heap.size 3 1 (.slice (some ⟨w4.heap.size, 0, none⟩) 0 0) 0 []) := Lib.hid (World.ownsRow_lit (base := (w4.drewN j5).heap.size) (e := 3) (size := 1) (w4.drewN j5) #[] 0 (Nat.le_refl _) (by unfold maxLen; omega) rfl)
             have HB5a := Lib.hid (HB5.out.alloc HB5.out.size (.cells #[] 3))
             have HR5a := Lib.hid (HR5.out.below ((Below.refl _ _).alloc (Nat.le_refl _) (.cells #[] 3))))
          | (at_builtin
             refine wpList_append_nil rfl _ _ 24 rfl w4.heap.size 3 i0 1 Try.underlying24 hi (.slice (some ⟨w4.heap.size, 0, none⟩) 0 0) 0 [] rfl HO5.out rfl ?_
             have HIZ := Lib.hid (HIE.out ((w4.drewN j5).alloc (.cells #[] 3)) (some ⟨w4.heap.size, 0, none⟩))
             have HKZ : Hid ((((w4.drewN j5).alloc (.cells #[] 3)).alloc (.cells #[Hd.val (some ⟨w4.heap.size, 0, none⟩, 0, 0)] 24)).heap[w4.heap.size + 1]? = some (.cells #[Hd.val (some ⟨w4.heap.size, 0, none⟩, 0, 0)] 24 (0, 0))) := Lib.hid (by
               have := heap_alloc_new ((w4.drewN j5).alloc (.cells #[] 3)) (.cells #[Hd.val (some ⟨w4.heap.size, 0, none⟩, 0, 0)] 24)
               rw [World.size_alloc, show (w4.drewN j5).heap.size = w4.heap.size from rfl] at this
               exact this))
          | (at_builtin
             refine wpList_append_own_at _ rfl _ _ 49 rfl w3.heap.size 24 i1 _ 1 24 Try.underlying49 hi1 hy0 hy1 hy2 rfl (by omega) (.slice Av m cv) m (ls.map Hd.val) rfl (HR5a.out.row.alloc _) ⟨w4.heap.size + 1, 0, none⟩ 1 1 [Hd.val (some ⟨w4.heap.size, 0, none⟩, 0, 0)] rfl rfl
               (World.news_of_block (cs := #[Hd.val (some ⟨w4.heap.size, 0, none⟩, 0, 0)]) (t := 24) (fr := (0, 0)) HKZ.out) (by simp [Value.oneCell', Hd.val]) (by unfold maxLen; omega) (by omega) (by have h1 := HB5a.out.size; simp at h1 ⊢; omega) ?_
             intro v7 w7 hown7 hg7 _ hv7
             have HB7 := Lib.hid ((HB5a.out.alloc HB5a.out.size (.cells #[Hd.val (some ⟨w4.heap.size, 0, none⟩, 0, 0)] 24)).grown hg7 (by have h1 := HB5a.out.size; simp at h1 ⊢; omega) (fun j e => (HR5a.out.row.lt j e).1))
             have HR7 := Lib.hid ((HR5a.out.below ((Below.refl _ _).alloc (Nat.le_refl _) _)).push (x := (some ⟨w4.heap.size, 0, none⟩, 0, 0)) (HIZ.out.below ((Below.refl _ _).alloc (Nat.le_refl _) _)) hown7 hg7 hv7)
             obtain ⟨g7, cap7, e7, _⟩ := hown7.form (by omega)
             subst e7
             clear hown7 hg7 hv7))
          go_roundw
          case rel => exact ⟨a + 1, ls ++ [(some ⟨w4.heap.size, 0, none⟩, 0, 0)], some ⟨g7, 0, none⟩, cap7, m + 1, by omega, by go_num, rfl, by rw [H.out]; exact HR7.out, HB7.out⟩
          case measure => simp [intOf]; omega

        · have hn1 := hn1p ha00
          clear hxz hn1p ha00
          obtain ⟨b1, o1, rfl, hb1, hne1, hc1⟩ := HX3.out.mem hn1
          have HNW := Lib.hid (fun V (hV : Below wr.heap.size wr V) => ints_news' (B := wr.heap.size) (n := n1) (W := V) (b := b1) (off := o1) (t := pthI ss zs a) ⟨HX3.out.len, HX3.out.max, fun _ => ⟨b1, o1, rfl, hb1, fun j hj => (hV.cell (p := ⟨b1, o1 + j, none⟩) hb1).trans (hc1 j hj)⟩⟩)
          have HL1 := Lib.hid (show ((pthI ss zs a).map (Value.int .i64)).length = n1 * 1 by rw [List.length_map, ← HLN.out]; omega)
          have HO1 := Lib.hid (ints_one (pthI ss zs a))
          clear hne1 hc1
          go_wp2_with (first
          | (go_at_call 71; refine C5.out.mono ?_; rintro e w4 ⟨v4, rfl, hrow4, hB4⟩
             obtain ⟨A4, c4, e4, hI4⟩ := row_ints hrow4 (by omega)
             subst e4
             have HI4 := Lib.hid hI4
             have HR4 := Lib.hid (HR.out.below hB4)
             have HU4 := Lib.hid (HU.out _ (below_then HBw.out hB4))
             have hx4 := (hB4.cell (p := ⟨N, a, none⟩) hNlt).trans hx2
             have HX4 := Lib.hid (HX3.out.below hB4)
             have hN4 : N < w4.heap.size := Nat.lt_of_lt_of_le hNlt hB4.size
             have HB4 := Lib.hid (HBR.out.trans (hB4.mono HBR.out.size))
             have HBq4 := Lib.hid hB4
             clear hrow4 hI4 hB4)
          | (go_at_call 31; refine (same_any _ _ _ _ _ _ P us _ _ HI4.out HU4.out).mono ?_; rintro e w5 ⟨rfl, j5, rfl⟩; rw [HDE.out]; have HR5 := Lib.hid (HR4.out.below (below_drewN (Below.refl _ _) j5)); have HX5 := Lib.hid (HX4.out.below (below_drewN (Below.refl _ _) j5)); have HB5 := Lib.hid (below_drewN HB4.out j5)
             have hx5 := (((Below.refl (w4.drewN j5).heap.size (w4.drewN j5)).alloc (Nat.le_refl _) (.cells #[] 3)).cell (p := ⟨N, a, none⟩) hN4).trans (show (w4.drewN j5).cell? ⟨N, a, none⟩ = _ from hx4)
             have HO5 : Hid (((w4.drewN j5).alloc (.cells #[] 3)).ownsRow w4.heap.size 3 1 (.slice (some ⟨w4.heap.size, 0, none⟩) 0 0) 0 []) := Lib.hid (World.ownsRow_lit (base := (w4.drewN j5).heap.size) (e := 3) (size := 1) (w4.drewN j5) #[] 0 (Nat.le_refl _) (by unfold maxLen; omega) rfl)
             have HB5a := Lib.hid (HB5.out.alloc HB5.out.size (.cells #[] 3))
             have HR5a := Lib.hid (HR5.out.below ((Below.refl _ _).alloc (Nat.le_refl _) (.cells #[] 3))))
          | (at_builtin
             refine wpList_append_own_at _ rfl _ _ 24 rfl w4.heap.size 3 i0 _ 1 8 Try.underlying24 hi hz0 hz1 hz2 rfl (by omega) (.slice (some ⟨w4.heap.size, 0, none⟩) 0 0) 0 [] rfl HO5.out ⟨b1, o1, none⟩ n1 c1 ((pthI ss zs a).map (Value.int .i64)) rfl HL1.out (HNW.out _ (((below_drewN HBq4.out j5)).alloc HBq4.out.size _)) HO1.out (by unfold maxLen; omega) (by omega) (by simp) ?_
             intro v6 w6 hown6 hg6 _ _
             rw [Nat.zero_add, List.nil_append] at hown6
             have hb6 : Below (w4.drewN j5).heap.size (w4.drewN j5) w6 := ((Below.refl _ _).alloc (Nat.le_refl _) _).grown hg6 (by simp) (fun k e => by cases e; exact Nat.le_refl _)
             obtain ⟨A6, c6, e6, hI6⟩ := IntsBut.of_row (g := (Value.slice Av m cv).ownBlock) hown6 (by omega) (fun k e => (HR5.out.row.lt k e).2)
             subst e6
             have HI6 := Lib.hid hI6
             have HR6 := Lib.hid (HR5.out.below hb6)
             have HB6 := Lib.hid (HB5.out.trans (hb6.mono HB5.out.size))
             clear hown6 hg6 hb6 hI6)
          | (at_builtin
             refine wpList_append_own_at _ rfl _ _ 49 rfl w3.heap.size 24 i1 _ 1 24 Try.underlying49 hi1 hy0 hy1 hy2 rfl (by omega) (.slice Av m cv) m (ls.map Hd.val) rfl (HR6.out.row.alloc _) ⟨w6.heap.size, 0, none⟩ 1 1 [Hd.val (A6, n1, c6)] rfl rfl
               (World.news_of_block (cs := #[Hd.val (A6, n1, c6)]) (t := 24) (fr := (0, 0)) (heap_alloc_new w6 _)) (by simp [Value.oneCell', Hd.val]) (by unfold maxLen; omega) (by omega) (by have h1 := HB6.out.size; simp at h1 ⊢; omega) ?_
             intro v7 w7 hown7 hg7 _ hv7
             have HB7 := Lib.hid ((HB6.out.alloc HB6.out.size (.cells #[Hd.val (A6, n1, c6)] 24)).grown hg7 (by have h1 := HB6.out.size; simp at h1 ⊢; omega) (fun j e => (HR6.out.row.lt j e).1))
             have HR7 := Lib.hid ((HR6.out.below ((Below.refl _ _).alloc (Nat.le_refl _) _)).push (x := (A6, n1, c6)) (HI6.out.below ((Below.refl _ _).alloc (Nat.le_refl _) _)) hown7 hg7 hv7)
             obtain ⟨g7, cap7, e7, _⟩ := hown7.form (by omega)
             subst e7
             clear hown7 hg7 hv7))
          go_roundw
          case rel => exact ⟨a + 1, ls ++ [(A6, n1, c6)], some ⟨g7, 0, none⟩, cap7, m + 1, by omega, by go_num, rfl, by rw [H.out]; exact HR7.out, HB7.out⟩
          case measure => simp [intOf]; omega
      · have H := Lib.hid (hn heq)
        have HDE := Lib.hid (show decide (P = us) = false from decide_eq_false heq)
        clear hy hn heq hxz hn1p
        go_wp2_with (first
          | (go_at_call 71; refine C5.out.mono ?_; rintro e w4 ⟨v4, rfl, hrow4, hB4⟩
             obtain ⟨A4, c4, e4, hI4⟩ := row_ints hrow4 (by omega)
             subst e4
             have HI4 := Lib.hid hI4
             have HR4 := Lib.hid (HR.out.below hB4)
             have HU4 := Lib.hid (HU.out _ (below_then HBw.out hB4))
             have HB4 := Lib.hid (HBR.out.trans (hB4.mono HBR.out.size))
             clear hrow4 hI4 hB4)
          | (go_at_call 31; refine (same_any _ _ _ _ _ _ P us _ _ HI4.out HU4.out).mono ?_; rintro e w5 ⟨rfl, j5, rfl⟩; rw [HDE.out]))
        go_roundw
        case rel => exact ⟨a + 1, ls, Av, cv, m, by omega, by go_num, rfl, by rw [H.out]; exact HR4.out.below (below_drewN (Below.refl _ _) j5), below_drewN HB4.out j5⟩
        case measure => simp [intOf]; omega
    · obtain rfl : a = nt := by omega
      have hml : m ≤ 60 := by
        have h1 := hR.len
        have h2 := HLE.out a
        omega
      obtain ⟨A5, c5, e5, hT⟩ := hR.terms (by omega)
      cases e5
      have HT := Lib.hid hT
      clear hR hB hT
      go_wp2
      go_ret2
      exact ⟨_, _, _, _, rfl, HT.out, HBw.out⟩

set_option maxRecDepth 100000 in
set_option maxHeartbeats 1000000 in
theorem samePaths_self (A A2 : Option Addr) (n c n2 c2 : Nat) (ls ls2 : List Hd) (tt : List (List Int)) (w : World) (B : Nat) (hx : TermsAt w B A n ls tt) (hy : TermsAt w B A2 n2 ls2 tt) (htt : tt.length ≤ 1000000) :
    Calls Try.prog 39 #[.slice A n c, .slice A2 n2 c2] w fun e w' => e = .returned (.bool true) ∧ ∃ k, w' = w.drewN k := by
  have hlx := hx.len
  have hly := hy.len
  obtain rfl : n = n2 := by omega
  have hn : n ≤ 1000000 := by omega
  have hb : ((n : Int) != (n : Int)) = false := by simp
  have HX := Lib.hid (fun m => show TermsAt (w.drewN m) B A n ls tt from hx.keep fun _ _ => rfl)
  have HY := Lib.hid (fun m => show TermsAt (w.drewN m) B A2 n ls2 tt from hy.keep fun _ _ => rfl)
  clear hx hy hlx hly htt
  go_enter Try.func39, Try.ntmps39
  go_wp2
  go_loopw [5] (fun i wr => ∃ k : Nat, k ≤ n ∧ i = .int .i64 k ∧ ∃ m, wr = w.drewN m) (fun i _ => n - (intOf i).toNat)
  case atStart => exact ⟨0, Nat.zero_le _, rfl, 0, rfl⟩
  case round =>
    obtain ⟨k, hk, rfl, m, hm⟩ := hrel
    by_cases hlt : k < n
    · obtain ⟨b, off, A', n', c', t, rfl, _, q1, q2, hI⟩ := (HX.out m).cellAt hlt
      obtain ⟨b2, off2, A2', n2', c2', t2, rfl, _, q3, q4, hI2⟩ := (HY.out m).cellAt hlt
      rw [q2] at q4
      obtain rfl := Option.some.inj q4
      rw [← hm] at q1 q3 hI hI2
      have CS := Lib.hid (fun nq => by
        have := sameInts_any A' A2' n' c' n2' c2' t t (wr.drewN nq) B (hI.keep fun _ _ => rfl) (hI2.keep fun _ _ => rfl)
        rw [show decide (t = t) = true from by simp] at this
        exact this)
      have HM := Lib.hid hm
      have hk0 : (0 : Int) ≤ (k : Int) := by omega
      have hk1 : (k : Int) < (n : Int) := by omega
      clear q2 q4 hI hI2 hm
      go_wp2_with fail
      go_quiet ((go_at_call 24; with_reducible exact quiet_draw (CS.out _)))
      go_wp2
      go_roundw
      case rel => exact ⟨k + 1, by omega, by go_num, by rw [HM.out]; exact ⟨_, World.drewN_drewN ..⟩⟩
      case measure => simp [intOf]; omega
    · obtain rfl : k = n := by omega
      go_wp2
      go_ret
      exact ⟨rfl, m, rfl⟩

end Go.Proofs.Ytafpcpdafojgkaa
