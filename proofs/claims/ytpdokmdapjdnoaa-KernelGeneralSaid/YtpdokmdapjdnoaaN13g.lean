/- Contracts: Apply, Occurs. -/
import Derived.Test.YtpdokmdapjdnoaaN7g
import Derived.Test.YtpdokmdapjdnoaaN8g
/- Contracts: the reference's Of, Solved, Renaming; few. -/
namespace Go.Proofs.Ytpdokmdapjdnoaa
open Go.RowKit

/-- A list of numbers handed back. -/
def RetL (w : World) (zs : List Int) : Ending → World → Prop := fun e w' => ∃ A n c, e = .returned (.slice A n c) ∧ IntsAt w' w'.heap.size A n zs ∧ Below w.heap.size w w'

end Go.Proofs.Ytpdokmdapjdnoaa

/- Contract: the reference's Renaming. -/
namespace Go.Proofs.Ytpdokmdapjdnoaa
open Go.RowKit

end Go.Proofs.Ytpdokmdapjdnoaa

/- Contracts: the reference's Applied, Apply, Occurs. -/
namespace Go.Proofs.Ytpdokmdapjdnoaa
open Go.RowKit

/-- A list of numbers handed back in memory of the call's own. -/
def RetOwn (w : World) (zs : List Int) : Ending → World → Prop := fun e w' => ∃ v base, e = .returned v ∧ w.heap.size ≤ base ∧ w'.ownsRow base 3 1 v zs.length (zs.map (Value.int .i64)) ∧ Below w.heap.size w w'
theorem RetOwn.list {w w' : World} {zs : List Int} {e : Ending} (hn : zs.length ≤ 1000000) (h : RetOwn w zs e w') : RetL w zs e w' := by
  obtain ⟨v, base, rfl, _, hrow, hB⟩ := h
  obtain ⟨A, c, rfl, hI⟩ := row_ints hrow hn
  exact ⟨A, _, c, rfl, hI, hB⟩

theorem news_ints {W : World} {B n b off : Nat} {t : List Int} (h : IntsAt W B (some ⟨b, off, none⟩) n t) (h0 : 0 < n) : ∀ j u, (t.map (Value.int .i64))[j]? = some u → W.cell? ((⟨b, off, none⟩ : Addr).add j) = some u := by
  intro j u hu
  obtain ⟨b', off', e, _, hc⟩ := h.mem h0
  cases e
  rw [List.getElem?_map] at hu
  have hj : j < t.length := by
    rcases Nat.lt_or_ge j t.length with h | h
    · exact h
    · rw [List.getElem?_eq_none h] at hu; cases hu
  rw [List.getElem?_eq_getElem hj] at hu
  cases hu
  rw [add0]
  exact hc j hj
theorem ints_cells1 (zs : List Int) : ∀ u ∈ zs.map (Value.int .i64), u.oneCell' = true := by
  intro u hu
  obtain ⟨z, _, rfl⟩ := List.mem_map.1 hu
  rfl

/-- What Apply hands back. -/
def applZ (ss : Sg) (bb : List Bd) (zs : List Int) : List Int × Int := if (bindsOk ss bb && valOk ss zs) = true then (if (appl bb zs).length ≤ 60 then (appl bb zs, 0) else ([], 4)) else ([], 1)
end Go.Proofs.Ytpdokmdapjdnoaa

/- Contract: applied. -/
namespace Go.Proofs.Ytpdokmdapjdnoaa
open Go.RowKit Go.Shelf
attribute [local go_sem] Oper.semAt_some

/-- What the first k variables become lies, by its headers, in the block. -/
def ImgAt (W : World) (d : Nat) (bb : List Bd) (k : Nat) : Prop :=
  ∃ hs : List Hd, Blk W d 87 (hs.map fun h => Value.slice h.1 h.2.1 h.2.2).toArray ∧ hs.length = 12 ∧ ∀ j (h : j < hs.length), j < k → IntsAt W W.heap.size hs[j].1 hs[j].2.1 (ofB bb (j : Int))
theorem ints_set_blk {W : World} {d j n B : Nat} {T : TypeId} {hs : List Hd} {A : Option Addr} {t : List Int} {v : Value} (hk : Blk W d T (hs.map fun h => Value.slice h.1 h.2.1 h.2.2).toArray) (h : IntsAt W B A n t) : IntsAt (W.setCell ⟨d, j, none⟩ v) B A n t := by
  refine ⟨h.len, h.max, fun hn => ?_⟩
  obtain ⟨b, off, e, hb, hc⟩ := h.mem hn
  refine ⟨b, off, e, hb, fun i hi => (World.cell?_setCell_other W ⟨d, j, none⟩ ⟨b, off + i, none⟩ v (fun e2 => ?_)).trans (hc i hi)⟩
  have e3 : b = d := by cases e2; rfl
  subst e3
  have h1 := hc i hi
  rw [hk.cell] at h1
  simp only [List.getElem?_toArray, List.getElem?_map] at h1
  cases h2 : hs[off + i]? with
  | none => rw [h2] at h1; cases h1
  | some x => rw [h2] at h1; cases h1
theorem ImgAt.below {W W' : World} {d k : Nat} {bb : List Bd} (h : ImgAt W d bb k) (hb : Below W.heap.size W W') : ImgAt W' d bb k := by
  obtain ⟨hs, h1, h2, h3⟩ := h
  exact ⟨hs, h1.below hb h1.lt, h2, fun j hj hjk => (h3 j hj hjk).up hb⟩
/-- What the rounds of applied keep. -/
def IImg (w : World) (d : Nat) (Ab : Option Addr) (n c : Nat) (bb : List Bd) (k : Nat) (W : World) : Prop :=
  ImgAt W d bb k ∧ Blk W (d + 1) 28 #[.slice Ab n c] ∧ Below w.heap.size w W
theorem IImg.own {w : World} {d B n c : Nat} {Ab : Option Addr} {bb : List Bd} (hB : w.heap.size ≤ B) : OwnFrom B (IImg w d Ab n c bb) := by
  rintro k W W' row ⟨⟨hs, h1, h2, h3⟩, h5, h7⟩ hg hr
  have hr' := fun r e => (hr r e).2
  refine ⟨⟨hs, (grownBy_keeps_cells hg hr' h1 rfl).trans h1, h2, fun j hj hjk => ?_⟩, (grownBy_keeps_cells hg hr' h5 rfl).trans h5, below_grown h7 hg hr hB⟩
  have hx := h3 j hj hjk
  refine ⟨hx.len, hx.max, fun hn => ?_⟩
  obtain ⟨b, off, e, hb, hc⟩ := hx.mem hn
  exact ⟨b, off, e, Nat.lt_of_lt_of_le hb hg.size, fun i hi => cell_kept (hc i hi) hg hr'⟩

set_option maxRecDepth 100000 in
set_option maxHeartbeats 2000000 in
theorem appliedR_any (Ab At : Option Addr) (nb cb nt ct : Nat) (ss : Sg) (ls : List Hd) (bb : List Bd) (zs : List Int) (w : World) (hb : BindsAt w w.heap.size Ab nb ls bb) (ht : IntsAt w w.heap.size At nt zs) (hn : nb ≤ 1000000) (hok : bindsOk ss bb = true) (hz : NumsIn ss zs) (hnt : nt ≤ 1000) :
    Calls Try.prog 70 #[.slice Ab nb cb, .slice At nt ct] w (RetOwn w (appl bb zs)) := by
  obtain ⟨i0, hi, hz0, hz1, hz2⟩ := info_parts info_int
  have HT := Lib.hid ht
  have HB := Lib.hid hb
  have HLT := Lib.hid ht.len
  have HOK := Lib.hid hok
  have HZ := Lib.hid hz
  clear hb ht hok hz
  refine callsIn_wide (n := 5) |>.1 ?_
  refine callsIn_of_wp_marks Try.func70 rfl trivial ?_ rfl
  simp only [Try.ntmps70, List.size_toArray, List.length_cons, List.length_nil, Nat.reduceAdd, Nat.reduceSub, Array.replicate_succ, Array.replicate_zero, List.push_toArray, List.append_toArray, List.nil_append, List.cons_append]
  gi_wp2_with (refine ⟨trivial, ?_⟩; gi_at_call 122; refine (callsIn_wide.2 (outcomes_any _ _ _ _)).mono ?_; rintro e w2 ⟨rfl, rfl⟩)
  obtain ⟨d, hd⟩ : ∃ d, w.heap.size = d := ⟨_, rfl⟩
  obtain ⟨W9, hW9⟩ : ∃ W9, (w.alloc (.cells #[.slice none 0 0, .slice none 0 0, .slice none 0 0, .slice none 0 0, .slice none 0 0, .slice none 0 0, .slice none 0 0, .slice none 0 0, .slice none 0 0, .slice none 0 0, .slice none 0 0, .slice none 0 0] 87)).alloc (.cells #[.slice Ab nb cb] 28) = W9 := ⟨_, rfl⟩
  rw [hW9]
  have sz : W9.heap.size = d + 2 := by rw [← hW9]; simp [hd]
  have hB9 : Below w.heap.size w W9 := by rw [← hW9]; exact bel_al (bel_al (Below.refl _ _) _) _
  have b1 : Blk W9 d 87 #[.slice none 0 0, .slice none 0 0, .slice none 0 0, .slice none 0 0, .slice none 0 0, .slice none 0 0, .slice none 0 0, .slice none 0 0, .slice none 0 0, .slice none 0 0, .slice none 0 0, .slice none 0 0] := by
    rw [← hW9, ← hd]; exact (Blk.new w _ _).alloc _
  have b2 : Blk W9 (d + 1) 28 #[.slice Ab nb cb] := by
    rw [← hW9, ← hd]
    have := Blk.new (w.alloc (.cells #[.slice none 0 0, .slice none 0 0, .slice none 0 0, .slice none 0 0, .slice none 0 0, .slice none 0 0, .slice none 0 0, .slice none 0 0, .slice none 0 0, .slice none 0 0, .slice none 0 0, .slice none 0 0] 87)) 28 #[.slice Ab nb cb]
    rw [World.size_alloc] at this
    exact this
  have i0' : IImg w d Ab nb cb bb 0 W9 := ⟨⟨List.replicate 12 (none, 0, 0), b1, rfl, fun j hj hjk => by omega⟩, b2, hB9⟩
  rw [hd]
  clear hW9 b1 b2 hB9
  refine range_k (gf := 157) (lb := #[.pointer (some ⟨d + 1, 0, none⟩)]) rfl (enters_of Try.func157 (by kernel_rfl) rfl) (encs := encO) (fun _ _ => rfl)
    (HxO bb) 12 (IImg w d Ab nb cb bb) (fun _ => False) (IImg.own (by omega)) (fun _ _ _ _ h _ _ => h.elim) (fun k x W l o o' hx hl ho hc => hx.putObj ho hc) i0'
    ?seq (fun k x => { tmps := #[.slice Ab nb cb, .slice At nt ct, undef, undef, .slice none 0 0, .pointer (some ⟨d, 0, none⟩), .int .i64 (k : Int), .slice x.1 x.2.1 x.2.2, undef, undef, undef, .slice Ab nb cb, .func (.func 157) #[] #[.pointer (some ⟨d + 1, 0, none⟩)], .int .i64 (k : Int), .slice x.1 x.2.1 x.2.2, undef, undef, undef, undef, undef, undef, undef, undef, undef, undef, undef, undef, undef, undef, undef, undef, undef, undef, undef, undef, undef, undef, undef, undef, undef], defers := [] }) ?assign ?body ?done ?stop
  case seq =>
    intro l J JL V hV hJ hJL hJI hY hJ0
    exact outC_in l 4 (d + 1) nb cb Ab ls bb ss J JL HOK.out hn hJ hJL (fun k A hA => by
      obtain ⟨h1, h5, h7⟩ := hJI k A hA
      exact ⟨h5, HB.out.up h7⟩) hY V hJ0
  case assign =>
    intro l m k x W K hK
    unfold encO
    gi_wp2
    exact hK
  case body =>
    rintro l m k ⟨A', n', c'⟩ W ⟨⟨hs, h1, h2, h3⟩, h5, h7⟩ hx hk
    have ck := h1.cell k
    have fk := h1.frozen k
    obtain ⟨y, hy⟩ : ∃ y, hs[k]? = some y := ⟨_, List.getElem?_eq_getElem (show k < hs.length by omega)⟩
    simp only [List.getElem?_toArray, List.getElem?_map, hy, Option.map_some] at ck
    clear hy
    have hk0 : (0 : Int) ≤ (k : Int) := by omega
    have hk1 : (k : Int) < 12 := by omega
    have H1 := Lib.hid h1
    have H2 := Lib.hid h2
    have H3 := Lib.hid h3
    have H5 := Lib.hid h5
    have H7 := Lib.hid h7
    have HX := Lib.hid hx
    clear h1 h2 h3 h5 h7 hx
    gi_wp2
    refine ⟨(KeepsOthers.setCell _ _ _).from _, ⟨hs.set k (A', n', c'), ?_, by rw [List.length_set]; exact H2.out, fun j hj hjk => ?_⟩, H5.out.far (by show d + 1 ≠ d; omega) _, H7.out.setCell (p := ⟨d, k, none⟩) (by show w.heap.size ≤ d; omega) _⟩
    · have := H1.out.set_ k (.slice A' n' c')
      rw [List.map_set]
      simpa using this
    · have hj' : j < hs.length := by simpa using hj
      have hsz : (W.setCell ⟨d, k, none⟩ (.slice A' n' c')).heap.size = W.heap.size := by simp
      have hx1 : IntsAt W W.heap.size A' n' (ofB bb (k : Int)) := HX.out
      by_cases e : j = k
      · subst e
        rw [hsz]
        simp only [List.getElem_set_self]
        exact ints_set_blk H1.out hx1
      · rw [hsz]
        simp only [List.getElem_set_ne (Ne.symm e)]
        exact ints_set_blk H1.out (H3.out j hj' (by omega))
  case done =>
    rintro D W hD ⟨himg, h5, h7⟩ hK
    have hrow0 : (W.alloc (.cells #[] 3)).ownsRow W.heap.size 3 1 (.slice (some ⟨W.heap.size, 0, none⟩) 0 0) 0 (([] : List Int).map (Value.int .i64)) :=
      ⟨rfl, .inr ⟨W.heap.size, 0, #[], rfl, Nat.le_refl _, heap_alloc_new W _, Nat.le_refl _, by unfold maxLen; omega, rfl, rfl⟩⟩
    have hltD : D < W.heap.size := (Array.getElem?_eq_some_iff.1 hK).1
    have HROW0 := Lib.hid hrow0
    have HIMG := Lib.hid himg
    have H7 := Lib.hid h7
    clear himg h5 h7 hrow0
    gi_wp2
    refine wpIn_wide.2 ?_
    go_loopw [8, 21] (fun o i wr => ∃ (k L : Nat) (Av : Option Addr) (cv : Nat) (xs : List Int), k ≤ nt ∧ i = .int .i64 k ∧ o = .slice Av L cv ∧ xs = appl bb (zs.take k) ∧ L = xs.length ∧ L ≤ 60 * k ∧ wr.ownsRow W.heap.size 3 1 (.slice Av L cv) L (xs.map (Value.int .i64)) ∧ Below W.heap.size W wr) (fun _ i _ => nt - (intOf i).toNat)
    case atStart => exact ⟨0, 0, _, 0, [], Nat.zero_le _, rfl, rfl, rfl, rfl, by omega, HROW0.out, bel_al (Below.refl _ _) _⟩
    case round =>
      obtain ⟨k, L, Av, cv, xs, hk, rfl, rfl, hxs, hL, hL60, hown, hBr⟩ := hrel
      have hBw : Below w.heap.size w wr := below_then H7.out hBr
      by_cases hlt : k < nt
      · obtain ⟨b, off, z, rfl, c0, k1, e1⟩ := HT.out.cellAt hlt
        obtain ⟨b', off', he', hbl, _⟩ := HT.out.mem (by omega)
        cases he'
        have c1 := (hBw.cell (p := ⟨b, off + k, none⟩) hbl).trans c0
        have hzz := HZ.out z (by rw [← e1]; exact List.getElem_mem k1)
        have hsucc := appl_take_succ bb k1
        rw [e1, ← hxs] at hsucc
        have hk0 : (0 : Int) ≤ (k : Int) := by omega
        have hk1' : (k : Int) < (nt : Int) := by omega
        have HOWN := Lib.hid hown
        have HBR := Lib.hid hBr
        have HL := Lib.hid hL
        have HSZ := Lib.hid hBr.size
        by_cases hneg : z < 0
        · rw [if_pos hneg] at hsucc
          obtain ⟨j, hj⟩ : ∃ j : Nat, -z - 1 = (j : Int) := ⟨(-z - 1).toNat, by omega⟩
          rw [hj] at hsucc
          have hj12 : j < 12 := by omega
          have hvl := ofB_len HOK.out (v := (j : Int)) (by omega) (by omega)
          obtain ⟨hs, m1, m2, m3⟩ := HIMG.out.below hBr
          have mI := m3 j (by omega) hj12
          obtain ⟨⟨A3, n3, c3⟩, hy⟩ : ∃ y, hs[j]? = some y := ⟨_, List.getElem?_eq_getElem (show j < hs.length by omega)⟩
          have hy2 := (List.getElem?_eq_some_iff.1 hy).2
          rw [hy2] at mI
          have cj := m1.cell j
          simp only [List.getElem?_toArray, List.getElem?_map, hy, Option.map_some] at cj
          obtain ⟨ys, hys⟩ : ∃ ys, ofB bb (j : Int) = ys := ⟨_, rfl⟩
          rw [hys] at mI hvl hsucc
          have hlen := mI.len
          simp only at mI hlen
          obtain ⟨b2, off2, z', e2, _, _, _⟩ := mI.cellAt (show 0 < n3 by omega)
          subst e2
          have w1' : IntKind.i64.wrap (-z) = -z := by rw [IntKind.wrap_i64]; omega
          have w2' : IntKind.i64.wrap (-z - 1) = (j : Int) := by rw [IntKind.wrap_i64]; omega
          have hj0 : (0 : Int) ≤ (j : Int) := by omega
          have hj1 : (j : Int) < 12 := by omega
          have hn3 : n3 ≤ 60 := by omega
          have HL2 := Lib.hid (show (ys.map (Value.int .i64)).length = n3 * 1 by simp; omega)
          have HN2 := Lib.hid hlen
          have HNEWS := Lib.hid (news_ints mI (by omega))
          have HY1 := Lib.hid (ints_cells1 ys)
          have HSUC := Lib.hid hsucc
          clear hown hBr hBw hxs hL hvl hys hsucc c0 k1 e1 m1 m2 m3 mI hy2 hy hlen hj
          go_wp2_with (first
            | (at_builtin
               refine wpList_append_own_at _ rfl _ _ 25 rfl W.heap.size 3 i0 _ 1 8 Try.underlying25 hi hz0 hz1 hz2 rfl (by omega) (.slice Av L cv) L _ rfl HOWN.out ⟨b2, off2, none⟩ n3 _ (ys.map (Value.int .i64)) rfl HL2.out HNEWS.out HY1.out (by unfold maxLen; omega) (by omega) HSZ.out ?_
               intro v4 w4 hown4 hg4 _ _
               have HB4 := Lib.hid (HBR.out.grown hg4 HSZ.out (fun k e => (HOWN.out.lt k e).1))
               rw [← List.map_append] at hown4
               obtain ⟨A4, c4, e4, _⟩ := row_ints hown4 (by omega)
               subst e4
               have HO4 := Lib.hid hown4
               clear hown4 hg4))
          go_roundw
          case rel => exact ⟨k + 1, L + n3, A4, c4, xs ++ ys, by omega, by go_num, rfl, HSUC.out.symm, by rw [List.length_append, ← HL.out, ← HN2.out], by omega, HO4.out, HB4.out⟩
          case measure => simp [intOf]; omega
        · rw [if_neg hneg] at hsucc
          have HSUC := Lib.hid hsucc
          have hpos : 0 ≤ z := by omega
          clear hown hBr hBw hxs hL hsucc c0 k1 e1
          go_wp2_with (first
            | (at_builtin
               refine wpList_append_own_at _ rfl _ _ 25 rfl W.heap.size 3 i0 _ 1 8 Try.underlying25 hi hz0 hz1 hz2 rfl (by omega) (.slice Av L cv) L _ rfl (HOWN.out.alloc _) ⟨wr.heap.size, 0, none⟩ 1 1 [.int .i64 z] rfl rfl
                 (World.news_of_block (cs := #[.int .i64 z]) (t := 3) (fr := (0, 0)) (heap_alloc_new wr _)) (by simp [Value.oneCell']) (by unfold maxLen; omega) (by omega) (by have := HSZ.out; simp; omega) ?_
               intro v4 w4 hown4 hg4 _ _
               have HB4 := Lib.hid ((bel_al HBR.out _).grown hg4 (by have := HSZ.out; simp; omega) (fun j e => (HOWN.out.lt j e).1))
               have hown5 : w4.ownsRow W.heap.size 3 1 v4 (L + 1) ((xs ++ [z]).map (Value.int .i64)) := by rw [List.map_append]; exact hown4
               obtain ⟨A4, c4, e4, _⟩ := row_ints hown5 (by omega)
               subst e4
               have HO4 := Lib.hid hown5
               clear hown4 hown5 hg4))
          go_roundw
          case rel => exact ⟨k + 1, L + 1, A4, c4, xs ++ [z], by omega, by go_num, rfl, HSUC.out.symm, by rw [List.length_append, ← HL.out]; rfl, by omega, HO4.out, HB4.out⟩
          case measure => simp [intOf]; omega
      · obtain rfl : k = nt := by omega
        have hall : zs.take k = zs := List.take_of_length_le (by rw [← HLT.out]; exact Nat.le_refl _)
        rw [hall] at hxs
        have hK2 : wr.heap[D]? = some (.deferred (some [])) := (hBr.block D hltD).trans hK
        have HR := Lib.hid hown
        have HX := Lib.hid hxs
        have HBW := Lib.hid hBw
        have HL := Lib.hid hL
        have HBS := Lib.hid hBw.size
        clear hown hBr hBw hxs hL hall
        go_wp2
        gi_wp2
        refine ⟨by simp, .inl ⟨_, _, rfl, run_takeDeferred hK2, ?_⟩⟩
        refine ⟨_, results_tmp rfl _ _ _, _, W.heap.size, rfl, H7.out.size, ?_, HBW.out.trans (belowK_b (w := W9) (by omega) _ D _ _ (by omega) hK2 rfl rfl)⟩
        rw [← HX.out, ← HL.out]
        refine HR.out.kept (grownBy_putObj' wr D _) ?_
        cases hv : (Value.slice Av L cv).ownBlock with
        | none => exact .inl rfl
        | some g =>
          refine .inr fun e => ?_
          have e1 : g = D := Option.some.inj e
          have := (HR.out.lt g hv).1
          omega
  case stop =>
    rintro D W hD h hK
    exact h.elim

end Go.Proofs.Ytpdokmdapjdnoaa

namespace Go.Proofs.Ytpdokmdapjdnoaa
open Go.RowKit

/-- The call of valid at one term. -/
theorem uvalid_one (As At : Option Addr) (ns cs nt ct : Nat) (ss : Sg) (zs : List Int) (w : World) (hs : SigAt w w.heap.size As ns ss) (ht : IntsAt w w.heap.size At nt zs) :
    Calls Try.prog 64 #[.slice As ns cs, .slice (some ⟨w.heap.size, 0, none⟩) 1 1] (w.alloc (.cells #[.slice At nt ct] 25)) fun e w' => e = .returned (.bool (valOk ss zs)) ∧ Below w.heap.size w w' := by
  have hB : Below w.heap.size w (w.alloc (.cells #[.slice At nt ct] 25)) := bel_al (Below.refl _ w) _
  refine (uvalid_any As (some ⟨w.heap.size, 0, none⟩) ns cs 1 1 ss [(At, nt, ct)] [zs] _ (hs.up hB) (terms_one (Blk.new w _ _) (ht.up hB)) (by omega)).mono ?_
  rintro e w' ⟨rfl, hb⟩
  refine ⟨?_, below_then hB hb⟩
  have : ([zs].all (valOk ss) && sigOk ss) = valOk ss zs := by
    cases h : valOk ss zs
    · simp [h]
    · simp [h, valOk_sig h]
  rw [this]

end Go.Proofs.Ytpdokmdapjdnoaa
