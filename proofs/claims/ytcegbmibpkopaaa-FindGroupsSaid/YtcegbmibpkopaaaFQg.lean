/- Contract: Sorted. -/
import Derived.Test.YtcegbmibpkopaaaFOg
import Derived.Test.YtcegbmibpkopaaaJ4g
import Derived.Test.YtcegbmibpkopaaaA2g
/- Contract: firsts. -/
namespace Go.Proofs.Ytcegbmibpkopaaa
open Go.RowKit

theorem GRow.reads {w : World} {base m c : Nat} {A : Option Addr} {hs : List Hd} {gg : List (List Int)} (h : GRow w base (.slice A m c) m hs gg) (hm : m ≤ 1000000) (hb : ∀ (j : Nat) (g : List Int), gg[j]? = some g → g.length ≤ 1000000) : TermsAt w w.heap.size A m hs gg := by
  have hll := h.ll
  have hlen := h.len
  refine ⟨⟨hll.symm, by omega, fun h0 => ?_⟩, hlen.symm, fun j a b => ?_⟩
  · obtain ⟨g, cap, e, _, hlt⟩ := h.row.form h0
    cases e
    refine ⟨g, 0, rfl, hlt, fun j hj => ?_⟩
    rw [Nat.zero_add, h.row.cellAt j (by omega), List.getElem?_map, List.getElem?_eq_getElem hj]
    rfl
  · have hr := h.each j _ _ (List.getElem?_eq_getElem a) (List.getElem?_eq_getElem b)
    obtain ⟨A', c', e, hI⟩ := row_ints hr (hb j _ (List.getElem?_eq_getElem b))
    obtain ⟨e1, e2, _⟩ := Value.slice.inj (show Value.slice hs[j].1 hs[j].2.1 hs[j].2.2 = .slice A' gg[j].length c' from e)
    rw [e1, e2]
    exact hI

/-- The first index of each group. -/
def firstL (G : List (List Int)) : List Int := G.map fun g => g.headD 0
theorem grpS_ne (fs : Nat → List Int) (k j : Nat) (g : List Int) (h : (grpS fs k).2[j]? = some g) : 1 ≤ g.length := by
  obtain ⟨_, h2, h3⟩ := grp_is fs k
  obtain ⟨hl, _⟩ := grpS_len fs k
  obtain ⟨hj, _⟩ := List.getElem?_eq_some_iff.1 h
  have hx : (grpS fs k).1[j]? = some ((grpS fs k).1[j]'(by omega)) := List.getElem?_eq_getElem _
  obtain ⟨x, hxx⟩ : ∃ x, (grpS fs k).1[j]'(by omega) = x := ⟨_, rfl⟩
  rw [hxx] at hx
  rw [h3 j x hx] at h
  cases h
  obtain ⟨i, hi, e⟩ := (h2 x).1 (List.mem_of_getElem? hx)
  have : (i : Int) ∈ idxs fs x k := chF_mem.2 ⟨i, hi, decide_eq_true e, rfl⟩
  exact List.length_pos_of_mem this
theorem grpZ_facts (ss : Sg) (tt : List (List Int)) (F : List Int → List Int) : (grpZ ss tt F).1.length ≤ tt.length ∧ (∀ (j : Nat) (g : List Int), (grpZ ss tt F).1[j]? = some g → 1 ≤ g.length ∧ g.length ≤ tt.length) ∧ ((grpZ ss tt F).2 = 0 ∨ (grpZ ss tt F).1 = []) ∧ ((grpZ ss tt F).2 = 0 → tt.length ≤ 60) := by
  unfold grpZ
  cases h : shOk ss tt
  · simp
  · simp only [if_true]
    refine ⟨(grpS_len _ _).2, fun j g hg => ⟨grpS_ne _ _ _ _ hg, grpS_each _ _ _ _ hg⟩, .inl (by trivial), fun _ => (shOk_len h).2⟩

set_option maxRecDepth 100000 in
set_option maxHeartbeats 2000000 in
theorem firsts_any (As At : Option Addr) (ns cs n c : Nat) (ss : Sg) (ls : List Hd) (tt : List (List Int)) (w : World) (hs : SigAt w w.heap.size As ns ss) (ht : TermsAt w w.heap.size At n ls tt) (hn : n ≤ 1000000) :
    Calls Try.prog 126 #[.slice As ns cs, .slice At n c] w (RetK w (firstL (grpZ ss tt canon).1) (grpZ ss tt canon).2) := by
  obtain ⟨i0, hi, hz0, hz1, hz2⟩ := info_parts info_int
  have C := Lib.hid (fGroups_any As At ns cs n c ss ls tt w hs ht hn)
  have hlt := ht.len
  obtain ⟨f1, f2, f3, f4⟩ := grpZ_facts ss tt canon
  obtain ⟨R, hR⟩ : ∃ R, grpZ ss tt canon = R := ⟨_, rfl⟩
  rw [hR] at C f1 f2 f3 f4 ⊢
  obtain ⟨G, e⟩ := R
  simp only at f1 f2 f3 f4 ⊢
  by_cases he : e = 0
  · subst he
    have h60 := f4 rfl
    have hgl : G.length ≤ 60 := by omega
    have HF2 := Lib.hid f2
    have hmk : ∀ W : World, (Instr.makeSlice 24 (.int .i64 (G.length : Int)) (.int .i64 (G.length : Int))).run Try.prog W = .ok (.slice (some ⟨W.heap.size, 0, none⟩) G.length G.length) (W.alloc (.cells (gcells (firstL G) 0) 3)) := by
      intro W
      rw [gcells_zero, show (firstL G).length = G.length by simp [firstL]]
      have := run_make_rowN (P := Try.prog) 24 3 i0 _ Try.underlying24 hi hz0 .i64 .i64 G.length G.length (Nat.le_refl _) (by rw [hz2]; omega) (by omega) W
      rw [hz1] at this
      exact this
    have hb0 : ((0 : Int) != 0) = false := rfl
    clear hs ht hn hlt f1 f2 f3 f4 hR hi hz0 hz1 hz2
    go_enter Try.func126, Try.ntmps126
    go_wp2_with (go_at_call 69; refine C.out.mono ?_; rintro e w1 ⟨A, m, c1, hs1, rfl, hG, hB⟩; have hm := hG.len; simp only at hG hm; subst hm; have HG := Lib.hid (hG.reads (by omega) (fun j g hg => by have := (HF2.out j g hg).2; omega)); have HB := Lib.hid hB; clear hG hB)
    clear hmk
    go_loopw [25] (fun i wr => ∃ k : Nat, k ≤ G.length ∧ i = .int .i64 k ∧ Blk wr w1.heap.size 3 (gcells (firstL G) k) ∧ Below w1.heap.size w1 wr) (fun i _ => G.length - (intOf i).toNat)
    case atStart => exact ⟨0, Nat.zero_le _, rfl, Blk.new _ _ _, (Below.refl _ _).alloc (Nat.le_refl _) _⟩
    case round =>
      obtain ⟨k, hk, rfl, hF, hBr⟩ := hrel
      by_cases hlt : k < G.length
      · obtain ⟨b, off, A', n', c', rfl, hb, q1, q2⟩ := HG.out.hds.cellAt hlt
        obtain ⟨g, g1, _, hI⟩ := HG.out.at q2
        have hg1 := (HF2.out k g g1).1
        obtain ⟨b2, off2, z, rfl, c0, k1, e1⟩ := hI.cellAt (show 0 < n' by have := hI.len; omega)
        rw [Nat.add_zero] at c0
        have hb2 : b2 < w1.heap.size := by
          obtain ⟨b', off', e', hb', _⟩ := hI.mem (by have := hI.len; omega)
          cases e'
          exact hb'
        have r1 := (hBr.cell (p := ⟨b, off + k, none⟩) hb).trans q1
        have r2 := (hBr.cell (p := ⟨b2, off2, none⟩) hb2).trans c0
        have hkl : k < (firstL G).length := by simpa [firstL] using hlt
        have hfk : (firstL G)[k] = z := by
          refine Option.some.inj ((List.getElem?_eq_getElem hkl).symm.trans ?_)
          unfold firstL
          rw [List.getElem?_map, g1]
          show some (g.headD 0) = some z
          cases g with
          | nil => simp at hg1
          | cons y r => exact congrArg some e1
        have hset := gcells_set hkl
        rw [hfk] at hset
        have c5 := (hF.cell k).trans (gcells_at hkl)
        have f5 := hF.frozen k
        have HS := Lib.hid (hF.set_ k (.int .i64 z))
        have HSET := Lib.hid hset
        have HBS := Lib.hid (hBr.setCell (p := ⟨w1.heap.size, k, none⟩) (Nat.le_refl _) (.int .i64 z))
        have hk0 : (0 : Int) ≤ (k : Int) := by omega
        have hk1 : (k : Int) < (G.length : Int) := by omega
        have hn0 : (0 : Int) < (n' : Int) := by have := hI.len; omega
        clear hF hBr q1 q2 g1 hI c0 k1 e1 hset hfk
        go_wp2
        go_roundw
        case rel => exact ⟨k + 1, by omega, by go_num, by rw [← HSET.out]; exact HS.out, HBS.out⟩
        case measure => simp [intOf]; omega
      · obtain rfl : k = G.length := by omega
        have HFK := Lib.hid hF
        have HBR := Lib.hid hBr
        clear hF hBr
        go_wp2
        go_ret2
        refine ⟨_, _, _, rfl, IntsAt.of_blk (t := 3) (b := w1.heap.size) (zs := firstL G) ?_ (by simp [firstL]) (by simp [firstL]; omega), ⟨Nat.le_refl _, by omega⟩, HB.out.trans (HBR.out.mono HB.out.size)⟩
        have := HFK.out
        rw [show G.length = (firstL G).length by simp [firstL], gcells_all] at this
        exact this
  · obtain rfl : G = [] := by rcases f3 with h | h; exact absurd h he; exact h
    have hbe : (e != 0) = true := by simpa using he
    clear hs ht hn hlt f1 f2 f3 f4 hR he
    go_enter Try.func126, Try.ntmps126
    go_wp2_with (go_at_call 69; refine C.out.mono ?_; rintro e w1 ⟨A, m, c1, hs1, rfl, hG, hB⟩; have HB := Lib.hid hB; clear hG hB)
    go_ret2
    exact ⟨none, 0, 0, rfl, IntsAt.nil _ _ 0, by omega, HB.out⟩

end Go.Proofs.Ytcegbmibpkopaaa

namespace Go.Proofs.Ytcegbmibpkopaaa
open Go.RowKit

/-- No cell of block g holds a number. -/
def NoI (w : World) (g : Nat) : Prop := ∀ (o : Nat) (z : Int), w.cell? ⟨g, o, none⟩ ≠ some (.int .i64 z)
theorem NoI.below {w w' : World} {g B : Nat} (h : NoI w g) (hb : Below B w w') (hg : g < B) : NoI w' g := fun o z => by rw [hb.cell (p := ⟨g, o, none⟩) hg]; exact h o z
theorem NoI.set {w : World} {g k : Nat} {T : TypeId} {cs : Array Value} {x : Hd} (h : NoI w g) (hb : Blk w g T cs) : NoI (w.setCell ⟨g, k, none⟩ x.val) g := fun o z => by
  rw [(hb.set_ k x.val).cell o, Array.getElem?_setIfInBounds]
  split
  · split
    · intro e; cases e
    · intro e; cases e
  · rw [← hb.cell o]; exact h o z
theorem NoI.made (w : World) (T : TypeId) (m : Nat) : NoI (w.alloc (.cells (madeCells #[.slice none 0 0] m) T)) w.heap.size := fun o z => by
  rw [(Blk.new w T _).cell o]
  unfold madeCells
  intro e
  obtain ⟨ho, e⟩ := Array.getElem?_eq_some_iff.1 e
  simp [Nat.mod_one] at e
theorem ints_but {w : World} {g n : Nat} {A : Option Addr} {zs : List Int} (h : NoI w g) (hI : IntsAt w w.heap.size A n zs) : IntsBut w (some g) A n zs :=
  ⟨hI.len, hI.max, fun hn => by
    obtain ⟨b, off, e, hb, hc⟩ := hI.mem hn
    refine ⟨b, off, e, hb, fun e2 => ?_, hc⟩
    cases e2
    have := hc 0 (by have := hI.len; omega)
    exact h _ _ this⟩
theorem CRow.belowF {w w' : World} {g m : Nat} {ls : List Hd} {tt : List (List Int)} (h : CRow w g m ls tt) (hb : Below w.heap.size w w') : CRow w' g m ls tt := by
  obtain ⟨cs, h1, h2⟩ := h.blk
  exact ⟨⟨cs, (hb.block g h.lt).trans h1, h2⟩, h.ll, h.len, fun j a b => (h.each j a b).below hb⟩
theorem CRow.setF {w : World} {g m k : Nat} {ls : List Hd} {tt : List (List Int)} {x : Hd} {t : List Int} (h : CRow w g m ls tt) (hk : k < m) (hx : IntsBut w (some g) x.1 x.2.1 t) : CRow (w.setCell ⟨g, k, none⟩ x.val) g m (ls.set k x) (tt.set k t) := by
  obtain ⟨cs, h1, h2⟩ := h.blk
  have hll := h.ll
  have hlen := h.len
  have hb : Blk w g 25 cs := h1
  refine ⟨⟨_, hb.set_ k x.val, fun j hj => ?_⟩, by simpa using hll, by simpa using hlen, fun j a b => ?_⟩
  · rw [Array.getElem?_setIfInBounds]
    by_cases e : k = j
    · subst e
      have hkl : k < ls.length := by omega
      have h3 := h2 k hkl
      have hks : k < cs.size := (Array.getElem?_eq_some_iff.1 h3).1
      rw [if_pos rfl, if_pos hks]
      simp
    · rw [if_neg e, h2 j (by simpa using hj), List.getElem_set_ne e]
  · by_cases e : k = j
    · subst e
      simp only [List.getElem_set_self]
      exact hx.setCell
    · simp only [List.getElem_set_ne e]
      exact (h.each j (by simpa using a) (by simpa using b)).setCell
theorem CRow.termsF {w : World} {g m : Nat} {ls : List Hd} {tt : List (List Int)} (h : CRow w g m ls tt) (hm : m ≤ 1000000) : TermsAt w w.heap.size (some ⟨g, 0, none⟩) m ls tt := by
  obtain ⟨cs, h1, h2⟩ := h.blk
  refine ⟨⟨h.ll.symm, by omega, fun _ => ⟨g, 0, rfl, h.lt, fun j hj => ?_⟩⟩, h.len, fun j a b => (h.each j a b).ints⟩
  have hb : Blk w g 25 cs := h1
  rw [Nat.zero_add, hb.cell, h2 j hj]
  rfl
/-- The first k forms, and nothing behind them. -/
def mixF (fm : List (List Int)) (k : Nat) : List (List Int) := fm.take k ++ List.replicate (fm.length - k) []
theorem mixF_zero (fm : List (List Int)) : mixF fm 0 = List.replicate fm.length [] := by simp [mixF]
theorem mixF_all (fm : List (List Int)) : mixF fm fm.length = fm := by simp [mixF]
theorem mixF_set {fm : List (List Int)} {k : Nat} {x : List Int} (h : fm[k]? = some x) : (mixF fm k).set k x = mixF fm (k + 1) := by
  obtain ⟨hk, e⟩ := List.getElem?_eq_some_iff.1 h
  unfold mixF
  have e1 : (fm.take k).length = k := by rw [List.length_take]; omega
  rw [List.set_append_right _ _ (by omega), e1, Nat.sub_self, List.take_succ_eq_append_getElem hk, e, show fm.length - k = (fm.length - (k + 1)) + 1 by omega, List.replicate_succ]
  simp
theorem CRow.madeF (w : World) (fm : List (List Int)) : CRow (w.alloc (.cells (madeCells #[.slice none 0 0] fm.length) 25)) w.heap.size fm.length (List.replicate fm.length (none, 0, 0)) (mixF fm 0) := by
  refine ⟨⟨_, Blk.new w _ _, fun j hj => ?_⟩, by simp, by simp [mixF], fun j a b => ?_⟩
  · simp only [List.length_replicate] at hj
    unfold madeCells
    rw [Array.getElem?_eq_getElem (by simp; omega)]
    simp [Nat.mod_one, Hd.val]
  · simp only [List.getElem_replicate, mixF_zero]
    exact ⟨rfl, by omega, fun h => absurd h (by omega)⟩

/-- What is sorted: the forms met, in order. -/
def SortOf (ss : Sg) (tt tt' : List (List Int)) : Prop := (shOk ss tt = true →
  (∀ z, z ∈ tt' ↔ z ∈ (grpS (fun k => canon (tt.getD k [])) tt.length).1) ∧ tt'.length = (grpS (fun k => canon (tt.getD k [])) tt.length).1.length ∧ ∀ i j (hi : i < tt'.length) (hj : j < tt'.length), i < j → cmpL tt'[i] tt'[j] ≤ 0) ∧ (shOk ss tt = false → tt' = [])

set_option maxRecDepth 100000 in
set_option maxHeartbeats 2000000 in
theorem fSorted_any (As At : Option Addr) (ns cs n c : Nat) (ss : Sg) (ls : List Hd) (tt : List (List Int)) (w : World) (hs : SigAt w w.heap.size As ns ss) (ht : TermsAt w w.heap.size At n ls tt) (hn : n ≤ 1000000) :
    Calls Try.prog 74 #[.slice As ns cs, .slice At n c] w fun e w' => ∃ A m c' ls' tt', e = .returned (.tuple #[.slice A m c', .int .i64 (grpZ ss tt canon).2]) ∧ TermsAt w' w'.heap.size A m ls' tt' ∧ Below w.heap.size w w' ∧ SortOf ss tt tt' := by
  have C := Lib.hid (firsts_any As At ns cs n c ss ls tt w hs ht hn)
  have hlt := ht.len
  cases hv : shOk ss tt
  · have e1 : grpZ ss tt canon = ([], 1) := by unfold grpZ; rw [hv]; simp
    rw [e1] at C ⊢
    have HN : Hid (SortOf ss tt []) := Lib.hid ⟨fun h => (by rw [hv] at h; cases h), fun _ => rfl⟩
    clear hs ht hn hlt hv e1
    go_enter Try.func74, Try.ntmps74
    go_wp2_with (go_at_call 126; refine C.out.mono ?_; rintro e w1 ⟨A, m, c1, rfl, hI, hk, hB⟩; have HB := Lib.hid hB; clear hI hk hB)
    go_ret2
    exact ⟨none, 0, 0, [], [], rfl, ⟨⟨rfl, by omega, fun h => absurd h (by omega)⟩, rfl, fun j hj => by simp at hj⟩, HB.out, HN.out⟩
  · obtain ⟨i0, hi, hz0, hz1, hz2⟩ := info_parts info_term
    obtain ⟨g1, g2, g3⟩ := grp_is (fun k => canon (tt.getD k [])) tt.length
    obtain ⟨l1, l2⟩ := grpS_len (fun k => canon (tt.getD k [])) tt.length
    have hsl := shOk_len hv
    have e1 : grpZ ss tt canon = ((grpS (fun k => canon (tt.getD k [])) tt.length).2, 0) := by unfold grpZ; rw [hv]; rfl
    rw [e1] at C ⊢
    simp only at C ⊢
    have HSO := Lib.hid (fun (tt' : List (List Int)) (h : (∀ z, z ∈ tt' ↔ z ∈ (grpS (fun k => canon (tt.getD k [])) tt.length).1) ∧ tt'.length = (grpS (fun k => canon (tt.getD k [])) tt.length).1.length ∧ ∀ i j (hi : i < tt'.length) (hj : j < tt'.length), i < j → cmpL tt'[i] tt'[j] ≤ 0) => show SortOf ss tt tt' from ⟨fun _ => h, fun h' => by rw [hv] at h'; cases h'⟩)
    have HIX : Hid (∀ (k : Nat) (x : List Int), (grpS (fun k => canon (tt.getD k [])) tt.length).1[k]? = some x → ∃ i : Nat, i < n ∧ (firstL (grpS (fun k => canon (tt.getD k [])) tt.length).2)[k]? = some (i : Int) ∧ canon (tt.getD i []) = x) := Lib.hid (fun k x hx => by
      have h1 := g3 k x hx
      have h2 := grpS_ne _ _ _ _ h1
      obtain ⟨z, r, hzr⟩ : ∃ z r, idxs (fun k => canon (tt.getD k [])) x tt.length = z :: r := by
        cases h : idxs (fun k => canon (tt.getD k [])) x tt.length with
        | nil => rw [h] at h2; simp at h2
        | cons z r => exact ⟨z, r, rfl⟩
      obtain ⟨i, hi, hp, rfl⟩ := chF_mem.1 (show z ∈ idxs (fun k => canon (tt.getD k [])) x tt.length by rw [hzr]; simp)
      refine ⟨i, by omega, ?_, of_decide_eq_true hp⟩
      unfold firstL
      rw [List.getElem?_map, h1, hzr]
      rfl)
    have HCAN := Lib.hid (fun (V : World) (i : Nat) (A' : Option Addr) (n' c' : Nat) (hV : Below w.heap.size w V) (hk : ls[i]? = some (A', n', c')) =>
      show Calls Try.prog 18 #[.slice As ns cs, .slice A' n' c'] V (RetT V (canon (tt.getD i [])) 0) from by
        obtain ⟨t, ht1, ht2, hI⟩ := ht.at hk
        rw [ht2]
        exact canonical_ok As A' ns cs n' c' ss t V (hs.up hV) ((hI.below hV).more hV.size) (shOk_each hv ht1))
    have HT := Lib.hid ht.hds
    have hFL : (firstL (grpS (fun k => canon (tt.getD k [])) tt.length).2).length = (grpS (fun k => canon (tt.getD k [])) tt.length).1.length := by rw [l1]; simp [firstL]
    obtain ⟨fm, hfm⟩ : ∃ fm, (grpS (fun k => canon (tt.getD k [])) tt.length).1 = fm := ⟨_, rfl⟩
    obtain ⟨fl, hfl⟩ : ∃ fl, firstL (grpS (fun k => canon (tt.getD k [])) tt.length).2 = fl := ⟨_, rfl⟩
    rw [hfm] at HSO HIX hFL l1
    rw [hfl] at C HIX hFL
    have hm60 : fm.length ≤ 60 := by omega
    have hmk : ∀ W : World, (Instr.makeSlice 49 (.int .i64 (fm.length : Int)) (.int .i64 (fm.length : Int))).run Try.prog W = .ok (.slice (some ⟨W.heap.size, 0, none⟩) fm.length fm.length) (W.alloc (.cells (madeCells #[.slice none 0 0] fm.length) 25)) := by
      intro W
      have := run_make_rowN (P := Try.prog) 49 25 i0 _ Try.underlying49 hi hz0 .i64 .i64 fm.length fm.length (Nat.le_refl _) (by rw [hz2]; omega) (by omega) W
      rw [hz1, Nat.mul_one] at this
      exact this
    have hb0 : ((0 : Int) != 0) = false := rfl
    clear hs ht hn hlt hv e1 g1 g2 g3 l1 l2 hsl hi hz0 hz1 hz2 hfm hfl
    go_enter Try.func74, Try.ntmps74
    go_wp2_with (go_at_call 126; refine C.out.mono ?_; rintro e w1 ⟨A, m, c1, rfl, hI, _, hB⟩; have hm := hI.len; rw [hFL] at hm; subst hm; have HI := Lib.hid hI; have HB := Lib.hid hB; clear hI hB)
    clear hmk
    have HC0 := Lib.hid (CRow.madeF w1 fm)
    have HN0 := Lib.hid (NoI.made w1 25 fm.length)
    go_loopw [25] (fun i wr => ∃ (k : Nat) (lh : List Hd), k ≤ fm.length ∧ i = .int .i64 k ∧ CRow wr w1.heap.size fm.length lh (mixF fm k) ∧ NoI wr w1.heap.size ∧ Below w1.heap.size w1 wr) (fun i _ => fm.length - (intOf i).toNat)
    case atStart => exact ⟨0, _, Nat.zero_le _, rfl, HC0.out, HN0.out, (Below.refl _ _).alloc (Nat.le_refl _) _⟩
    case round =>
      obtain ⟨k, lh, hk, rfl, hC, hN, hBr⟩ := hrel
      have hBw := HB.out.trans (hBr.mono HB.out.size)
      by_cases hlt : k < fm.length
      · obtain ⟨i, hin, hfi, hcan⟩ := HIX.out k _ (List.getElem?_eq_getElem hlt)
        obtain ⟨x, hx⟩ : ∃ x, fm[k] = x := ⟨_, rfl⟩
        rw [hx] at hcan
        obtain ⟨bi, offi, zi, rfl, ci, ki, ei⟩ := HI.out.cellAt hlt
        obtain rfl : zi = (i : Int) := by
          rw [List.getElem?_eq_getElem ki, ei] at hfi
          exact Option.some.inj hfi
        have hbi : bi < w1.heap.size := by
          obtain ⟨b', off', e', hb', _⟩ := HI.out.mem (by omega)
          cases e'
          exact hb'
        have r1 := (hBr.cell (p := ⟨bi, offi + k, none⟩) hbi).trans ci
        obtain ⟨b, off, A', n', c', rfl, hb, q1, q2⟩ := HT.out.cellAt hin
        have r2 := (hBw.cell (p := ⟨b, off + i, none⟩) hb).trans q1
        have CC := Lib.hid (HCAN.out wr i A' n' c' hBw q2)
        rw [hcan] at CC
        have HX := Lib.hid (show fm[k]? = some x by rw [List.getElem?_eq_getElem hlt, hx])
        have hk0 : (0 : Int) ≤ (k : Int) := by omega
        have hk1 : (k : Int) < (fm.length : Int) := by omega
        have hi0 : (0 : Int) ≤ (i : Int) := by omega
        have hi1 : (i : Int) < (n : Int) := by omega
        have HC := Lib.hid hC
        have HN := Lib.hid hN
        have HBR := Lib.hid hBr
        clear hC hN hBr hBw ci ki ei hfi hcan hx q1 q2
        go_wp2_with (go_at_call 18; refine CC.out.mono ?_; rintro e w5 ⟨A5, n5, c5, rfl, hI5, hB5⟩; have HC5 := Lib.hid (HC.out.belowF hB5); have HN5 := Lib.hid (HN.out.below hB5 HC.out.lt); have HB5 := Lib.hid (HBR.out.trans (hB5.mono HBR.out.size)); have HI5 := Lib.hid (ints_but HN5.out hI5); obtain ⟨A6, n6, c6, t6, d5, f5, _, _, _⟩ := HC5.out.cell hlt; clear hI5 hB5)
        go_roundw
        case rel =>
          have h1 := HC5.out.setF (x := (A5, n5, c5)) hlt HI5.out
          rw [mixF_set HX.out] at h1
          obtain ⟨cs5, hb5, _⟩ := HC5.out.blk
          exact ⟨k + 1, _, by omega, by go_num, h1, HN5.out.set (x := (A5, n5, c5)) (show Blk w5 w1.heap.size 25 cs5 from hb5), HB5.out.setCell (p := ⟨w1.heap.size, k, none⟩) (Nat.le_refl _) _⟩
        case measure => simp [intOf]; omega
      · obtain rfl : k = fm.length := by omega
        rw [mixF_all] at hC
        have CS := Lib.hid (sortT_any w1.heap.size fm.length fm.length lh fm wr hC (by omega))
        have HBW := Lib.hid hBw
        have HW := Lib.hid (show w.heap.size ≤ w1.heap.size from HB.out.size)
        clear hC hN hBr hBw
        go_wp2_with (go_at_call 127; refine CS.out.mono ?_; rintro e w6 ⟨rfl, ls6, tt6, hC6, hmem, hord, hg6⟩; have HC6 := Lib.hid hC6; have HM6 := Lib.hid hmem; have HO6 := Lib.hid hord; have HB6 := Lib.hid (HBW.out.grown hg6 HBW.out.size (fun j e => by cases e; exact HW.out)); clear hC6 hmem hord hg6)
        go_ret2
        exact ⟨_, _, _, ls6, tt6, rfl, HC6.out.termsF (by omega), HB6.out, HSO.out tt6 ⟨HM6.out, HC6.out.len.symm, HO6.out⟩⟩

end Go.Proofs.Ytcegbmibpkopaaa
