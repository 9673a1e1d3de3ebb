/- Bases: the mathematics. -/
import Derived.Test.YtgbfccbnbgbknaaFOg
import Derived.Test.YtgbfccbnbgbknaaN24g
/- Contract: firsts. -/
namespace Go.Proofs.Ytgbfccbnbgbknaa
open Go.RowKit

theorem GRow.reads {w : World} {base m c : Nat} {A : Option Addr} {hs : List Hd} {gg : List (List Int)} (h : GRow w base (.slice A m c) m hs gg) (hm : m ≤ 1000000) (hb : ∀ (j : Nat) (g : List Int), gg[j]? = some g → g.length ≤ 1000000) : TermsAt w w.heap.size A m hs gg := by
  have hll := h.ll
  have hlen := h.len
  refine ⟨⟨hll.symm, by omega, fun h0 => ?_⟩, hlen.symm, fun j a b => ?_⟩
  · obtain ⟨g, cap, e, _, hlt⟩ := h.row.form h0
    cases e
    refine ⟨g, 0, rfl, hlt, fun j hj => ?_⟩
    rw [Nat.zero_add, h.row.cellAt j (by omega), List.getElem?_map, List.getElem?_eq_getElem hj]
    rfl
  · have hr := h.each j _ _ (List.getElem?_eq_getElem a) (List.getElem?_eq_getElem b)
    obtain ⟨A', c', e, hI⟩ := row_ints hr (hb j _ (List.getElem?_eq_getElem b))
    obtain ⟨e1, e2, _⟩ := Value.slice.inj (show Value.slice hs[j].1 hs[j].2.1 hs[j].2.2 = .slice A' gg[j].length c' from e)
    rw [e1, e2]
    exact hI

/-- The first index of each group. -/
def firstL (G : List (List Int)) : List Int := G.map fun g => g.headD 0
theorem grpS_ne (fs : Nat → List Int) (k j : Nat) (g : List Int) (h : (grpS fs k).2[j]? = some g) : 1 ≤ g.length := by
  obtain ⟨_, h2, h3⟩ := grp_is fs k
  obtain ⟨hl, _⟩ := grpS_len fs k
  obtain ⟨hj, _⟩ := List.getElem?_eq_some_iff.1 h
  have hx : (grpS fs k).1[j]? = some ((grpS fs k).1[j]'(by omega)) := List.getElem?_eq_getElem _
  obtain ⟨x, hxx⟩ : ∃ x, (grpS fs k).1[j]'(by omega) = x := ⟨_, rfl⟩
  rw [hxx] at hx
  rw [h3 j x hx] at h
  cases h
  obtain ⟨i, hi, e⟩ := (h2 x).1 (List.mem_of_getElem? hx)
  have : (i : Int) ∈ idxs fs x k := chF_mem.2 ⟨i, hi, decide_eq_true e, rfl⟩
  exact List.length_pos_of_mem this
theorem grpZ_facts (ss : Sg) (tt : List (List Int)) (F : List Int → List Int) : (grpZ ss tt F).1.length ≤ tt.length ∧ (∀ (j : Nat) (g : List Int), (grpZ ss tt F).1[j]? = some g → 1 ≤ g.length ∧ g.length ≤ tt.length) ∧ ((grpZ ss tt F).2 = 0 ∨ (grpZ ss tt F).1 = []) ∧ ((grpZ ss tt F).2 = 0 → tt.length ≤ 60) := by
  unfold grpZ
  cases h : shOk ss tt
  · simp
  · simp only [if_true]
    refine ⟨(grpS_len _ _).2, fun j g hg => ⟨grpS_ne _ _ _ _ hg, grpS_each _ _ _ _ hg⟩, .inl (by trivial), fun _ => (shOk_len h).2⟩

/-- A list in a block of its own, where there is no error. -/
def RetF (w : World) (zs : List Int) (er : Int) (e : Ending) (w' : World) : Prop :=
  ∃ A n c, e = .returned (.tuple #[.slice A n c, .int .i64 er]) ∧ IntsAt w' w'.heap.size A n zs ∧ (n ≤ c ∧ c ≤ 9223372036854775807) ∧ Below w.heap.size w w' ∧ (er = 0 → ∃ b, A = some ⟨b, 0, none⟩ ∧ w.heap.size ≤ b ∧ Blk w' b 3 (zs.map (Value.int .i64)).toArray)

set_option maxRecDepth 100000 in
set_option maxHeartbeats 2000000 in
theorem firstsB_any (As At : Option Addr) (ns cs n c : Nat) (ss : Sg) (ls : List Hd) (tt : List (List Int)) (w : World) (hs : SigAt w w.heap.size As ns ss) (ht : TermsAt w w.heap.size At n ls tt) (hn : n ≤ 1000000) :
    Calls Try.prog 156 #[.slice As ns cs, .slice At n c] w (RetF w (firstL (grpZ ss tt canon).1) (grpZ ss tt canon).2) := by
  obtain ⟨i0, hi, hz0, hz1, hz2⟩ := info_parts info_int
  have C := Lib.hid (fGroups_any As At ns cs n c ss ls tt w hs ht hn)
  have hlt := ht.len
  obtain ⟨f1, f2, f3, f4⟩ := grpZ_facts ss tt canon
  obtain ⟨R, hR⟩ : ∃ R, grpZ ss tt canon = R := ⟨_, rfl⟩
  rw [hR] at C f1 f2 f3 f4 ⊢
  obtain ⟨G, e⟩ := R
  simp only at f1 f2 f3 f4 ⊢
  by_cases he : e = 0
  · subst he
    have h60 := f4 rfl
    have hgl : G.length ≤ 60 := by omega
    have HF2 := Lib.hid f2
    have hmk : ∀ W : World, (Instr.makeSlice 24 (.int .i64 (G.length : Int)) (.int .i64 (G.length : Int))).run Try.prog W = .ok (.slice (some ⟨W.heap.size, 0, none⟩) G.length G.length) (W.alloc (.cells (gcells (firstL G) 0) 3)) := by
      intro W
      rw [gcells_zero, show (firstL G).length = G.length by simp [firstL]]
      have := run_make_rowN (P := Try.prog) 24 3 i0 _ Try.underlying24 hi hz0 .i64 .i64 G.length G.length (Nat.le_refl _) (by rw [hz2]; omega) (by omega) W
      rw [hz1] at this
      exact this
    have hb0 : ((0 : Int) != 0) = false := rfl
    clear hs ht hn hlt f1 f2 f3 f4 hR hi hz0 hz1 hz2
    go_enter Try.func156, Try.ntmps156
    go_wp2_with (go_at_call 82; refine C.out.mono ?_; rintro e w1 ⟨A, m, c1, hs1, rfl, hG, hB⟩; have hm := hG.len; simp only at hG hm; subst hm; have HG := Lib.hid (hG.reads (by omega) (fun j g hg => by have := (HF2.out j g hg).2; omega)); have HB := Lib.hid hB; clear hG hB)
    clear hmk
    go_loopw [25] (fun i wr => ∃ k : Nat, k ≤ G.length ∧ i = .int .i64 k ∧ Blk wr w1.heap.size 3 (gcells (firstL G) k) ∧ Below w1.heap.size w1 wr) (fun i _ => G.length - (intOf i).toNat)
    case atStart => exact ⟨0, Nat.zero_le _, rfl, Blk.new _ _ _, (Below.refl _ _).alloc (Nat.le_refl _) _⟩
    case round =>
      obtain ⟨k, hk, rfl, hF, hBr⟩ := hrel
      by_cases hlt : k < G.length
      · obtain ⟨b, off, A', n', c', rfl, hb, q1, q2⟩ := HG.out.hds.cellAt hlt
        obtain ⟨g, g1, _, hI⟩ := HG.out.at q2
        have hg1 := (HF2.out k g g1).1
        obtain ⟨b2, off2, z, rfl, c0, k1, e1⟩ := hI.cellAt (show 0 < n' by have := hI.len; omega)
        rw [Nat.add_zero] at c0
        have hb2 : b2 < w1.heap.size := by
          obtain ⟨b', off', e', hb', _⟩ := hI.mem (by have := hI.len; omega)
          cases e'
          exact hb'
        have r1 := (hBr.cell (p := ⟨b, off + k, none⟩) hb).trans q1
        have r2 := (hBr.cell (p := ⟨b2, off2, none⟩) hb2).trans c0
        have hkl : k < (firstL G).length := by simpa [firstL] using hlt
        have hfk : (firstL G)[k] = z := by
          refine Option.some.inj ((List.getElem?_eq_getElem hkl).symm.trans ?_)
          unfold firstL
          rw [List.getElem?_map, g1]
          show some (g.headD 0) = some z
          cases g with
          | nil => simp at hg1
          | cons y r => exact congrArg some e1
        have hset := gcells_set hkl
        rw [hfk] at hset
        have c5 := (hF.cell k).trans (gcells_at hkl)
        have f5 := hF.frozen k
        have HS := Lib.hid (hF.set_ k (.int .i64 z))
        have HSET := Lib.hid hset
        have HBS := Lib.hid (hBr.setCell (p := ⟨w1.heap.size, k, none⟩) (Nat.le_refl _) (.int .i64 z))
        have hk0 : (0 : Int) ≤ (k : Int) := by omega
        have hk1 : (k : Int) < (G.length : Int) := by omega
        have hn0 : (0 : Int) < (n' : Int) := by have := hI.len; omega
        clear hF hBr q1 q2 g1 hI c0 k1 e1 hset hfk
        go_wp2
        go_roundw
        case rel => exact ⟨k + 1, by omega, by go_num, by rw [← HSET.out]; exact HS.out, HBS.out⟩
        case measure => simp [intOf]; omega
      · obtain rfl : k = G.length := by omega
        have HFK := Lib.hid hF
        have HBR := Lib.hid hBr
        clear hF hBr
        go_wp2
        go_ret2
        have hblk := HFK.out
        rw [show G.length = (firstL G).length by simp [firstL], gcells_all] at hblk
        exact ⟨_, _, _, rfl, IntsAt.of_blk (t := 3) (b := w1.heap.size) (zs := firstL G) hblk (by simp [firstL]) (by simp [firstL]; omega), ⟨Nat.le_refl _, by omega⟩, HB.out.trans (HBR.out.mono HB.out.size), fun _ => ⟨_, rfl, HB.out.size, hblk⟩⟩
  · obtain rfl : G = [] := by rcases f3 with h | h; exact absurd h he; exact h
    have hbe : (e != 0) = true := by simpa using he
    have HE := Lib.hid he
    clear hs ht hn hlt f1 f2 f3 f4 hR he
    go_enter Try.func156, Try.ntmps156
    go_wp2_with (go_at_call 82; refine C.out.mono ?_; rintro e w1 ⟨A, m, c1, hs1, rfl, hG, hB⟩; have HB := Lib.hid hB; clear hG hB)
    go_ret2
    exact ⟨none, 0, 0, rfl, IntsAt.nil _ _ 0, by omega, HB.out, fun h => absurd h HE.out⟩

theorem firsts_any (As At : Option Addr) (ns cs n c : Nat) (ss : Sg) (ls : List Hd) (tt : List (List Int)) (w : World) (hs : SigAt w w.heap.size As ns ss) (ht : TermsAt w w.heap.size At n ls tt) (hn : n ≤ 1000000) :
    Calls Try.prog 156 #[.slice As ns cs, .slice At n c] w (RetK w (firstL (grpZ ss tt canon).1) (grpZ ss tt canon).2) :=
  (firstsB_any As At ns cs n c ss ls tt w hs ht hn).mono fun _ _ ⟨A, n, c, h1, h2, h3, h4, _⟩ => ⟨A, n, c, h1, h2, h3, h4⟩

end Go.Proofs.Ytgbfccbnbgbknaa

namespace Go.Proofs.Ytgbfccbnbgbknaa
open Go.RowKit

/-- Whether something is so for an index below k. -/
def anyB (q : Nat → Bool) : Nat → Bool
  | 0 => false
  | k + 1 => anyB q k || q k
theorem anyB_iff {q : Nat → Bool} : ∀ {k : Nat}, anyB q k = true ↔ ∃ i, i < k ∧ q i = true
  | 0 => by simp [anyB]
  | k + 1 => by
    unfold anyB
    rw [Bool.or_eq_true, anyB_iff]
    constructor
    · rintro (⟨i, hi, h⟩ | h)
      · exact ⟨i, by omega, h⟩
      · exact ⟨k, by omega, h⟩
    · rintro ⟨i, hi, h⟩
      by_cases e : i = k
      · subst e; exact .inr h
      · exact .inl ⟨i, by omega, h⟩
theorem anyB_none {q : Nat → Bool} {k : Nat} : anyB q k = false ↔ ∀ i, i < k → q i = false := by
  constructor
  · intro h i hi
    cases e : q i
    · rfl
    · rw [anyB_iff.2 ⟨i, hi, e⟩] at h; cases h
  · intro h
    cases e : anyB q k
    · rfl
    · obtain ⟨i, hi, h2⟩ := anyB_iff.1 e
      rw [h i hi] at h2; cases h2
theorem chF_any (q : Nat → Bool) (k : Nat) : decide (0 < (chF q k).length) = anyB q k := by
  rw [Bool.eq_iff_iff, decide_eq_true_eq, anyB_iff]
  constructor
  · intro h
    obtain ⟨z, hz⟩ := List.exists_mem_of_length_pos h
    obtain ⟨i, hi, hp, _⟩ := chF_mem.1 hz
    exact ⟨i, hi, hp⟩
  · rintro ⟨i, hi, hp⟩
    exact List.length_pos_of_mem (chF_mem.2 ⟨i, hi, hp, rfl⟩)
theorem chF_filter (p : Nat → Bool) (q : Int → Bool) : ∀ k, (chF p k).filter q = chF (fun i => p i && q (i : Int)) k
  | 0 => rfl
  | k + 1 => by
    cases h : p k
    · rw [chF_skip h, chF_skip (by simp [h]), chF_filter p q k]
    · rw [chF_snoc h, List.filter_append, chF_filter p q k]
      cases h2 : q (k : Int)
      · rw [chF_skip (by simp [h, h2])]
        simp [h2]
      · rw [chF_snoc (by simp [h, h2])]
        simp [h2]

/-- The first indexes of the groups. -/
theorem firstL_is (fs : Nat → List Int) : ∀ k, firstL (grpS fs k).2 = chF (fun i => !anyB (fun j => decide (fs j = fs i)) i) k
  | 0 => rfl
  | k + 1 => by
    obtain ⟨_, h2, _⟩ := grp_is fs k
    have ih := firstL_is fs k
    cases hq : (grpS fs k).1.contains (fs k)
    · have hn : anyB (fun j => decide (fs j = fs k)) k = false := anyB_none.2 fun i hi => by
        refine decide_eq_false fun e => ?_
        have hm : fs k ∈ (grpS fs k).1 := (h2 _).2 ⟨i, hi, e⟩
        rw [← List.contains_iff_mem, hq] at hm
        cases hm
      rw [grpS_new hq, chF_snoc (by simp [hn]), ← ih]
      unfold firstL
      simp
    · have hn : anyB (fun j => decide (fs j = fs k)) k = true := by
        obtain ⟨i, hi, e⟩ := (h2 _).1 (List.contains_iff_mem.1 hq)
        exact anyB_iff.2 ⟨i, hi, decide_eq_true e⟩
      rw [grpS_old hq, chF_skip (by simp [hn]), ← ih]
      unfold firstL
      rw [List.map_set]
      generalize hj : (grpS fs k).1.idxOf (fs k) = j
      apply List.ext_getElem?
      intro i
      rw [List.getElem?_set]
      by_cases e : j = i
      · subst e
        by_cases hl : j < (grpS fs k).2.length
        · have hg := grpS_ne fs k j _ (List.getElem?_eq_getElem hl)
          rw [if_pos rfl, if_pos (by simpa using hl), List.getElem?_map, List.getElem?_eq_getElem hl, List.getD_eq_getElem?_getD, List.getElem?_eq_getElem hl]
          generalize (grpS fs k).2[j] = g at hg
          cases g with
          | nil => simp at hg
          | cons y r => rfl
        · rw [if_pos rfl, if_neg (by simpa using hl), List.getElem?_eq_none (by simpa using hl)]
      · rw [if_neg e]

/-- Whether the statement k is over the statement i. -/
def ovr (ss : Sg) (tt : List (List Int)) (i k : Nat) : Bool := insB ss (tt.getD k []) (tt.getD i []) && !alikeOk ss (tt.getD k []) (tt.getD i [])
/-- Whether the statement i is the first one of its group, and no other one is over it. -/
def basP (ss : Sg) (tt : List (List Int)) (n i : Nat) : Bool := !anyB (fun k => ovr ss tt i k || (decide (k < i) && alikeOk ss (tt.getD k []) (tt.getD i []))) n
theorem sh_get {ss : Sg} {tt : List (List Int)} (h : shOk ss tt = true) {k : Nat} (hk : k < tt.length) : valOk ss (tt.getD k []) = true := by
  rw [List.getD_eq_getElem?_getD, List.getElem?_eq_getElem hk]
  exact shOk_each h (List.getElem?_eq_getElem hk)
theorem alike_is {ss : Sg} {a b : List Int} (va : valOk ss a = true) (vb : valOk ss b = true) : alikeOk ss a b = decide (canon a = canon b) := by
  unfold alikeOk
  have : termOk ss b = true := by unfold valOk at vb; rw [Bool.and_eq_true] at vb; exact vb.2
  rw [va, this]; rfl
theorem bas_is {ss : Sg} {tt : List (List Int)} (h : shOk ss tt = true) :
    (firstL (grpZ ss tt canon).1).filter (fun z => !decide (0 < (chF (ovr ss tt z.toNat) tt.length).length)) = chF (basP ss tt tt.length) tt.length := by
  have e1 : (grpZ ss tt canon).1 = (grpS (fun k => canon (tt.getD k [])) tt.length).2 := by
    unfold grpZ
    rw [h]
    rfl
  rw [e1, firstL_is, chF_filter]
  refine chF_congr fun i hi => ?_
  rw [chF_any]
  unfold basP
  rw [Bool.eq_iff_iff]
  simp only [Bool.and_eq_true, Bool.not_eq_true', anyB_none, Int.toNat_natCast, Bool.or_eq_false_iff, Bool.and_eq_false_iff]
  constructor
  · rintro ⟨h1, h2⟩ k hk
    refine ⟨h2 k hk, ?_⟩
    by_cases hki : k < i
    · right
      rw [alike_is (sh_get h hk) (sh_get h hi)]
      exact h1 k hki
    · left
      exact decide_eq_false hki
  · intro h3
    refine ⟨fun j hj => ?_, fun k hk => (h3 k hk).1⟩
    rcases (h3 j (by omega)).2 with h4 | h4
    · rw [decide_eq_false_iff_not] at h4; omega
    · rw [alike_is (sh_get h (by omega)) (sh_get h hi)] at h4
      exact h4

/-- Whether the numbers before k are indexes, each greater than the one before. -/
def AscP (b : List Int) (n k : Nat) : Prop := ∀ j, j < k → 0 ≤ b.getD j 0 ∧ b.getD j 0 < (n : Int) ∧ (0 < j → b.getD (j - 1) 0 < b.getD j 0)
instance (b : List Int) (n k : Nat) : Decidable (AscP b n k) := by unfold AscP; infer_instance
/-- Whether a list of indexes is a base. -/
def isbB (ss : Sg) (tt : List (List Int)) (b : List Int) : Bool := shOk ss tt && decide (AscP b tt.length b.length) && tt.all fun t => b.any fun z => insB ss (tt.getD z.toNat []) t
theorem asc_mono {b : List Int} {n k : Nat} (h : AscP b n k) : ∀ {j i : Nat}, j < i → i < k → b.getD j 0 < b.getD i 0 := by
  intro j i
  induction i with
  | zero => intro h1; omega
  | succ i ih =>
    intro h1 h2
    have h3 := (h (i + 1) h2).2.2 (by omega)
    rw [Nat.add_sub_cancel] at h3
    by_cases e : j = i
    · subst e; exact h3
    · have := ih (by omega) (by omega); omega
theorem chF_asc (p : Nat → Bool) : ∀ (n m : Nat), n ≤ m → AscP (chF p n) m (chF p n).length
  | 0, m, _ => fun j hj => by simp [chF] at hj
  | n + 1, m, h => by
    have ih := chF_asc p n m (by omega)
    cases hp : p n
    · rw [chF_skip hp]; exact ih
    · rw [chF_snoc hp]
      intro j hj
      rw [List.length_append, List.length_singleton] at hj
      by_cases e : j < (chF p n).length
      · have := ih j e
        refine ⟨?_, ?_, fun h0 => ?_⟩
        · rw [List.getD_eq_getElem?_getD, List.getElem?_append_left e, ← List.getD_eq_getElem?_getD]; exact this.1
        · rw [List.getD_eq_getElem?_getD, List.getElem?_append_left e, ← List.getD_eq_getElem?_getD]; exact this.2.1
        · rw [List.getD_eq_getElem?_getD, List.getD_eq_getElem?_getD, List.getElem?_append_left e, List.getElem?_append_left (by omega), ← List.getD_eq_getElem?_getD, ← List.getD_eq_getElem?_getD]; exact this.2.2 h0
      · obtain rfl : j = (chF p n).length := by omega
        have e1 : (chF p n ++ [(n : Int)]).getD (chF p n).length 0 = (n : Int) := by
          rw [List.getD_eq_getElem?_getD, List.getElem?_append_right (Nat.le_refl _), Nat.sub_self]; rfl
        refine ⟨by rw [e1]; omega, by rw [e1]; omega, fun h0 => ?_⟩
        rw [e1, List.getD_eq_getElem?_getD, List.getElem?_append_left (by omega), List.getElem?_eq_getElem (by omega)]
        obtain ⟨i, hi, _, e2⟩ := chF_mem.1 (List.getElem_mem (show (chF p n).length - 1 < (chF p n).length by omega))
        show (chF p n)[(chF p n).length - 1] < (n : Int)
        rw [e2]; omega

/-- To be over is to be strictly more general. -/
theorem ovr_trans {ss : Sg} {tt : List (List Int)} {i k m : Nat} (h1 : ovr ss tt i k = true) (h2 : insB ss (tt.getD m []) (tt.getD k []) = true) : ovr ss tt i m = true := by
  unfold ovr at h1 ⊢
  rw [Bool.and_eq_true, Bool.not_eq_true'] at h1 ⊢
  refine ⟨ins_trans h2 h1.1, ?_⟩
  cases e : alikeOk ss (tt.getD m []) (tt.getD i [])
  · rfl
  · rw [← ins_alike, Bool.and_eq_true] at e
    have : alikeOk ss (tt.getD k []) (tt.getD i []) = true := by
      rw [← ins_alike, Bool.and_eq_true]
      exact ⟨h1.1, ins_trans e.2 h2⟩
    rw [this] at h1
    cases h1.2
theorem ovr_self {ss : Sg} {tt : List (List Int)} {i : Nat} : ovr ss tt i i = false := by
  unfold ovr
  cases e : insB ss (tt.getD i []) (tt.getD i [])
  · rfl
  · rw [← ins_alike, e]; rfl
/-- How many statements are over a statement. -/
def ovN (ss : Sg) (tt : List (List Int)) (i : Nat) : Nat := ((List.range tt.length).filter fun k => ovr ss tt i k).length
theorem ovN_lt {ss : Sg} {tt : List (List Int)} {i k : Nat} (hk : k < tt.length) (h : ovr ss tt i k = true) : ovN ss tt k < ovN ss tt i := by
  unfold ovN
  have hs : ∀ m, ovr ss tt k m = true → ovr ss tt i m = true := fun m hm => ovr_trans h (by unfold ovr at hm; rw [Bool.and_eq_true] at hm; exact hm.1)
  have hsub : ((List.range tt.length).filter fun m => ovr ss tt k m).Sublist (((List.range tt.length).filter fun m => ovr ss tt i m)) := by
    have : ((List.range tt.length).filter fun m => ovr ss tt k m) = (((List.range tt.length).filter fun m => ovr ss tt i m)).filter fun m => ovr ss tt k m := by
      rw [List.filter_filter]
      refine List.filter_congr fun m _ => ?_
      cases e : ovr ss tt k m
      · rfl
      · rw [hs m e]; rfl
    rw [this]
    exact List.filter_sublist
  rcases Nat.lt_or_eq_of_le hsub.length_le with hlt | heq
  · exact hlt
  · have hall := hsub.eq_of_length heq
    have hm : k ∈ ((List.range tt.length).filter fun m => ovr ss tt i m) := List.mem_filter.2 ⟨List.mem_range.2 hk, h⟩
    rw [← hall] at hm
    have := (List.mem_filter.1 hm).2
    rw [ovr_self] at this
    cases this
/-- Each statement is an instance of one that has none over it. -/
theorem top_of {ss : Sg} {tt : List (List Int)} (h : shOk ss tt = true) : ∀ (N i : Nat), i < tt.length → ovN ss tt i ≤ N → ∃ k, k < tt.length ∧ insB ss (tt.getD k []) (tt.getD i []) = true ∧ anyB (ovr ss tt k) tt.length = false := by
  intro N
  induction N with
  | zero =>
    intro i hi h0
    refine ⟨i, hi, by rw [ins_refl]; exact sh_get h hi, ?_⟩
    refine anyB_none.2 fun k hk => ?_
    cases e : ovr ss tt i k
    · rfl
    · have := ovN_lt hk e; omega
  | succ N ih =>
    intro i hi h0
    cases e : anyB (ovr ss tt i) tt.length
    · exact ⟨i, hi, by rw [ins_refl]; exact sh_get h hi, e⟩
    · obtain ⟨k, hk, hov⟩ := anyB_iff.1 e
      have := ovN_lt hk hov
      obtain ⟨m, hm, h1, h2⟩ := ih k hk (by omega)
      exact ⟨m, hm, ins_trans h1 (by unfold ovr at hov; rw [Bool.and_eq_true] at hov; exact hov.1), h2⟩
/-- The first one of a group. -/
theorem first_of {ss : Sg} {tt : List (List Int)} (h : shOk ss tt = true) : ∀ (k : Nat), k < tt.length → ∃ j, j ≤ k ∧ alikeOk ss (tt.getD j []) (tt.getD k []) = true ∧ ∀ i, i < j → alikeOk ss (tt.getD i []) (tt.getD j []) = false := by
  intro k
  induction k using Nat.strongRecOn with
  | _ k ih =>
    intro hk
    cases e : anyB (fun i => alikeOk ss (tt.getD i []) (tt.getD k [])) k
    · exact ⟨k, Nat.le_refl _, by rw [← ins_alike, ins_refl, sh_get h hk]; rfl, fun i hi => anyB_none.1 e i hi⟩
    · obtain ⟨m, hm, ha⟩ := anyB_iff.1 e
      obtain ⟨j, hj, h1, h2⟩ := ih m hm (by omega)
      refine ⟨j, by omega, ?_, h2⟩
      rw [← ins_alike, Bool.and_eq_true] at ha h1 ⊢
      exact ⟨ins_trans h1.1 ha.1, ins_trans ha.2 h1.2⟩
/-- The base is one. -/
theorem bas_isb {ss : Sg} {tt : List (List Int)} (h : shOk ss tt = true) : isbB ss tt (chF (basP ss tt tt.length) tt.length) = true := by
  unfold isbB
  rw [h, Bool.true_and, Bool.and_eq_true, decide_eq_true_eq, List.all_eq_true]
  refine ⟨chF_asc _ _ _ (Nat.le_refl _), fun t ht => ?_⟩
  obtain ⟨i, hi, e⟩ := List.getElem_of_mem ht
  have et : tt.getD i [] = t := by rw [List.getD_eq_getElem?_getD, List.getElem?_eq_getElem hi]; exact e
  obtain ⟨k, hk, h1, h2⟩ := top_of h _ i hi (Nat.le_refl _)
  obtain ⟨j, hj, h3, h4⟩ := first_of h k hk
  have h3' := h3
  rw [← ins_alike, Bool.and_eq_true] at h3'
  rw [List.any_eq_true]
  refine ⟨(j : Int), chF_mem.2 ⟨j, by omega, ?_, rfl⟩, ?_⟩
  · unfold basP
    rw [Bool.not_eq_true', anyB_none]
    intro m hm
    rw [Bool.or_eq_false_iff, Bool.and_eq_false_iff]
    refine ⟨?_, ?_⟩
    · cases e : ovr ss tt j m
      · rfl
      · have h5 : ovr ss tt k m = true := by
          unfold ovr at e ⊢
          rw [Bool.and_eq_true, Bool.not_eq_true'] at e ⊢
          refine ⟨ins_trans e.1 h3'.1, ?_⟩
          cases e6 : alikeOk ss (tt.getD m []) (tt.getD k [])
          · rfl
          · rw [← ins_alike, Bool.and_eq_true] at e6
            have : alikeOk ss (tt.getD m []) (tt.getD j []) = true := by
              rw [← ins_alike, Bool.and_eq_true]
              exact ⟨e.1, ins_trans h3'.1 e6.2⟩
            rw [this] at e
            cases e.2
        rw [anyB_none.1 h2 m hm] at h5
        cases h5
    · by_cases hmj : m < j
      · right; exact h4 m hmj
      · left; exact decide_eq_false hmj
  · rw [Int.toNat_natCast, ← et]
    exact ins_trans h3'.1 h1
/-- Each other base has one alike each statement of the base. -/
theorem bas_there {ss : Sg} {tt : List (List Int)} {b : List Int} {i : Nat} (hi : i < tt.length) (hp : anyB (ovr ss tt i) tt.length = false) (hb : isbB ss tt b = true) : b.any (fun z => (chF (fun k => alikeOk ss (tt.getD k []) (tt.getD i [])) tt.length).contains z) = true := by
  unfold isbB at hb
  rw [Bool.and_eq_true, Bool.and_eq_true, decide_eq_true_eq, List.all_eq_true] at hb
  obtain ⟨⟨h, ha⟩, hb⟩ := hb
  have h1 := hb (tt.getD i []) (by rw [List.getD_eq_getElem?_getD, List.getElem?_eq_getElem hi]; exact List.getElem_mem hi)
  rw [List.any_eq_true] at h1 ⊢
  obtain ⟨z, hz, h2⟩ := h1
  obtain ⟨j, hj, e⟩ := List.getElem_of_mem hz
  obtain ⟨a1, a2, _⟩ := ha j hj
  rw [List.getD_eq_getElem?_getD, List.getElem?_eq_getElem hj] at a1 a2
  rw [Option.getD_some, e] at a1 a2
  refine ⟨z, hz, ?_⟩
  rw [List.contains_iff_mem, chF_mem]
  refine ⟨z.toNat, by omega, ?_, by omega⟩
  have h3 := anyB_none.1 hp z.toNat (by omega)
  unfold ovr at h3
  rw [h2, Bool.true_and, Bool.not_eq_false'] at h3
  exact h3

end Go.Proofs.Ytgbfccbnbgbknaa
