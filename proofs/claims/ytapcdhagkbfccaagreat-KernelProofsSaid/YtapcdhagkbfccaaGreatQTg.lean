/- The cited givens, sorted and each once (pure); contract: slices.Sort of a row of ints of the call's own. -/
import Derived.Test.YtapcdhagkbfccaaGreatN13g
import Derived.Shelf.SortG.Plain
import Derived.Shelf.SortG.SortNone
import Derived.Shelf.SlicesG.CompactI
import Derived.Sort.OwnSortedInts
import Derived.Test.YtapcdhagkbfccaaGreatQWg
/- Contracts: slices.Sort and slices.Compact at []int, laid. -/
namespace Go.Proofs.YtapcdhagkbfccaaGreat
open Go.RowKit Go.Shelf Go.Sort

def sortI_ren : Go.Shelf.Ren := ⟨fun | 53 => 33 | 64 => 50 | 63 => 49 | 78 => 77 | 79 => 78 | 70 => 68 | 71 => 69 | 72 => 70 | 73 => 71 | 74 => 72 | 75 => 73 | 59 => 74 | 76 => 75 | 77 => 76 | 88 => 101 | 89 => 102 | 90 => 103 | 91 => 104 | 92 => 105 | 68 => 106 | 96 => 121 | n => n,
  fun | 22 => 26 | 23 => 3 | 3 => 3 | 51 => 81 | 0 => 0 | 67 => 110 | 69 => 112 | 4 => 4 | 61 => 103 | 60 => 102 | 44 => 98 | 5 => 5 | 9 => 9 | 75 => 136 | 79 => 140 | 83 => 156 | 84 => 157 | n => n,
  fun | n => n⟩
theorem sortI : Go.Proofs.SlLaysN.n53 Tryz.prog sortI_ren := {
  mixed := by kernel_rfl
  f53 := ⟨Tryz.f33.name, by decide, Tryz.func33.trans (congrArg some (by kernel_rfl))⟩
  f59 := ⟨Tryz.f74.name, by decide, Tryz.func74.trans (congrArg some (by kernel_rfl))⟩
  f63 := ⟨Tryz.f49.name, by decide, Tryz.func49.trans (congrArg some (by kernel_rfl))⟩
  f64 := Tryz.func50.trans (congrArg some (by kernel_rfl))
  f68 := ⟨Tryz.f106.name, by decide, Tryz.func106.trans (congrArg some (by kernel_rfl))⟩
  f70 := ⟨Tryz.f68.name, by decide, Tryz.func68.trans (congrArg some (by kernel_rfl))⟩
  f71 := ⟨Tryz.f69.name, by decide, Tryz.func69.trans (congrArg some (by kernel_rfl))⟩
  f72 := ⟨Tryz.f70.name, by decide, Tryz.func70.trans (congrArg some (by kernel_rfl))⟩
  f73 := ⟨Tryz.f71.name, by decide, Tryz.func71.trans (congrArg some (by kernel_rfl))⟩
  f74 := ⟨Tryz.f72.name, by decide, Tryz.func72.trans (congrArg some (by kernel_rfl))⟩
  f75 := ⟨Tryz.f73.name, by decide, Tryz.func73.trans (congrArg some (by kernel_rfl))⟩
  f76 := ⟨Tryz.f75.name, by decide, Tryz.func75.trans (congrArg some (by kernel_rfl))⟩
  f77 := ⟨Tryz.f76.name, by decide, Tryz.func76.trans (congrArg some (by kernel_rfl))⟩
  f78 := Tryz.func77.trans (congrArg some (by kernel_rfl))
  f79 := Tryz.func78.trans (congrArg some (by kernel_rfl))
  f88 := ⟨Tryz.f101.name, by decide, Tryz.func101.trans (congrArg some (by kernel_rfl))⟩
  f89 := Tryz.func102.trans (congrArg some (by kernel_rfl))
  f90 := Tryz.func103.trans (congrArg some (by kernel_rfl))
  f91 := ⟨Tryz.f104.name, by decide, Tryz.func104.trans (congrArg some (by kernel_rfl))⟩
  f92 := ⟨Tryz.f105.name, by decide, Tryz.func105.trans (congrArg some (by kernel_rfl))⟩
  f96 := ⟨Tryz.f121.name, by decide, Tryz.func121.trans (congrArg some (by kernel_rfl))⟩
  t0 := Tryz.underlying0
  a0 := Tryz.isAgg0
  z0 := Tryz.sizeOf0
  v0 := Tryz.zeroValue0
  t3 := Tryz.underlying3
  a3 := Tryz.isAgg3
  z3 := Tryz.sizeOf3
  v3 := Tryz.zeroValue3
  t4 := Tryz.underlying4
  a4 := Tryz.isAgg4
  z4 := Tryz.sizeOf4
  v4 := Tryz.zeroValue4
  t5 := Tryz.underlying5
  a5 := Tryz.isAgg5
  z5 := Tryz.sizeOf5
  v5 := Tryz.zeroValue5
  t9 := Tryz.underlying9
  a9 := Tryz.isAgg9
  z9 := Tryz.sizeOf9
  v9 := Tryz.zeroValue9
  t22 := Tryz.underlying26
  a22 := Tryz.isAgg26
  z22 := Tryz.sizeOf26
  v22 := Tryz.zeroValue26
  t23 := Tryz.underlying3
  a23 := Tryz.isAgg3
  z23 := Tryz.sizeOf3
  v23 := Tryz.zeroValue3
  t44 := Tryz.underlying98
  a44 := Tryz.isAgg98
  z44 := Tryz.sizeOf98
  v44 := Tryz.zeroValue98
  t51 := Tryz.underlying81
  a51 := Tryz.isAgg81
  z51 := Tryz.sizeOf81
  v51 := Tryz.zeroValue81
  t60 := Tryz.underlying102
  a60 := Tryz.isAgg102
  z60 := Tryz.sizeOf102
  v60 := Tryz.zeroValue102
  t61 := Tryz.underlying103
  a61 := Tryz.isAgg103
  z61 := Tryz.sizeOf103
  v61 := Tryz.zeroValue103
  t67 := Tryz.underlying110
  a67 := Tryz.isAgg110
  z67 := Tryz.sizeOf110
  v67 := Tryz.zeroValue110
  t69 := Tryz.underlying112
  a69 := Tryz.isAgg112
  z69 := Tryz.sizeOf112
  v69 := Tryz.zeroValue112
  t75 := Tryz.underlying136
  a75 := Tryz.isAgg136
  z75 := Tryz.sizeOf136
  v75 := Tryz.zeroValue136
  t79 := Tryz.underlying140
  a79 := Tryz.isAgg140
  z79 := Tryz.sizeOf140
  v79 := Tryz.zeroValue140
  t83 := Tryz.underlying156
  a83 := Tryz.isAgg156
  z83 := Tryz.sizeOf156
  v83 := Tryz.zeroValue156
  t84 := Tryz.underlying157
  a84 := Tryz.isAgg157
  z84 := Tryz.sizeOf157
  v84 := Tryz.zeroValue157 }

def compactI_ren : Go.Shelf.Ren := ⟨fun | 43 => 34 | n => n,
  fun | 22 => 26 | 23 => 3 | 3 => 3 | 4 => 4 | 0 => 0 | n => n,
  fun | n => n⟩
theorem compactI : Go.Proofs.SlLaysN.n43 Tryz.prog compactI_ren := {
  mixed := by kernel_rfl
  f43 := ⟨Tryz.f34.name, by decide, Tryz.func34.trans (congrArg some (by kernel_rfl))⟩
  t0 := Tryz.underlying0
  a0 := Tryz.isAgg0
  z0 := Tryz.sizeOf0
  v0 := Tryz.zeroValue0
  t3 := Tryz.underlying3
  a3 := Tryz.isAgg3
  z3 := Tryz.sizeOf3
  v3 := Tryz.zeroValue3
  t4 := Tryz.underlying4
  a4 := Tryz.isAgg4
  z4 := Tryz.sizeOf4
  v4 := Tryz.zeroValue4
  t22 := Tryz.underlying26
  a22 := Tryz.isAgg26
  z22 := Tryz.sizeOf26
  v22 := Tryz.zeroValue26
  t23 := Tryz.underlying3
  a23 := Tryz.isAgg3
  z23 := Tryz.sizeOf3
  v23 := Tryz.zeroValue3
  i23 := by kernel_rfl }


/-- A list sorted. -/
def srt (xs : List Int) : List Int := xs.mergeSort fun x y => decide (x ≤ y)
theorem srt_len (xs : List Int) : (srt xs).length = xs.length := List.length_mergeSort _
theorem srt_mem {xs : List Int} {z : Int} : z ∈ srt xs ↔ z ∈ xs := (List.mergeSort_perm _ _).mem_iff

theorem keeps_upto {zs : List Int} : ∀ {m : Nat} {z : Int}, m ≤ zs.length → (z ∈ Lib.compactUpTo zs.toArray m ↔ z ∈ zs.take m)
  | 0, z, _ => by simp [Lib.compactUpTo]
  | m + 1, z, h => by
    have ih := keeps_upto (zs := zs) (m := m) (z := z) (by omega)
    have hget : ∀ j (hj : j < zs.length), zs.toArray[j]! = zs[j] := fun j hj => by rw [getElem!_pos zs.toArray j (by simpa using hj)]; rfl
    rw [Lib.compactUpTo_succ, List.mem_append, ih, List.take_succ_eq_append_getElem (show m < zs.length by omega), List.mem_append]
    cases hk : Lib.keeps zs.toArray m
    · simp only [Bool.false_eq_true, if_false, List.not_mem_nil, or_false]
      refine ⟨.inl, fun h2 => h2.elim id fun h2 => ?_⟩
      rw [List.mem_singleton] at h2
      subst h2
      unfold Lib.keeps at hk
      rw [decide_eq_false_iff_not, not_or, Classical.not_not] at hk
      obtain ⟨h0, h1⟩ := hk
      rw [hget m (by omega), hget (m - 1) (by omega)] at h1
      rw [h1]
      exact List.mem_take_iff_getElem.2 ⟨m - 1, by omega, rfl⟩
    · simp only [if_true, List.mem_singleton]
      rw [hget m (by omega)]
theorem compact_mem {zs : List Int} {z : Int} : z ∈ Lib.compact zs ↔ z ∈ zs := by
  unfold Lib.compact
  rw [keeps_upto (Nat.le_refl _), List.take_length]
theorem compact_le (zs : List Int) : (Lib.compact zs).length ≤ zs.length := by
  unfold Lib.compact Lib.compactUpTo
  rw [List.length_map]
  exact Nat.le_trans (List.length_filter_le _ _) (by simp)

set_option maxHeartbeats 400000 in
/-- Compact of a list of the call's own. -/
theorem compactI_any (v : Value) (base : Nat) (zs : List Int) (w : World) (h : w.ownsRow base 3 1 v zs.length (zs.map (Value.int .i64))) (hn : zs.length ≤ 1000) :
    Calls Tryz.prog 34 #[v] w fun e w' => ∃ A n c, e = .returned (.slice A n c) ∧ IntsAt w' w'.heap.size A n (Lib.compact zs) ∧ ∀ B, B ≤ base → Below B w w' := by
  obtain ⟨hl, ⟨rfl, h0⟩ | ⟨g, cap, cur, rfl, hbase, hg, r1, r2, r3, r4⟩⟩ := h
  · have hnil : zs = [] := by
      rw [List.length_map] at hl
      exact List.eq_nil_of_length_eq_zero (by omega)
    subst hnil
    refine (AnyG.slices_Compact_int_empty compactI none 0 w).mono ?_
    rintro e w2 ⟨rfl, rfl⟩
    exact ⟨none, 0, 0, rfl, IntsAt.nil _ _ 0, fun B _ => Below.refl _ _⟩
  · rw [Nat.mul_one] at r4
    have hH : Go.Sort.Holds (Value.int .i64) w g 0 zs.toArray := holds_of_blockI hg r4
    refine (AnyG.slices_Compact_int compactI g 0 cap zs w hH (by omega) r1).mono ?_
    rintro e w2 ⟨rfl, q, rfl⟩
    have hle := compact_le zs
    have hgr := grownBy_sortedI (w := w) (g := g) (n := q) (os := #[]) (Lib.compact zs ++ List.replicate (zs.length - (Lib.compact zs).length) 0).toArray
    rw [grow_empty] at hgr
    have hhp := heap_sortedI (w := w) (n := q) (os := #[]) (Lib.compact zs ++ List.replicate (zs.length - (Lib.compact zs).length) 0).toArray hg
    rw [grow_empty] at hhp
    refine ⟨_, _, _, rfl, ⟨rfl, by omega, fun h0 => ⟨g, 0, rfl, (Array.getElem?_eq_some_iff.1 hhp).1, fun j hj => ?_⟩⟩, fun B hB => (Below.refl B w).grown hgr ?_ (fun k e => by cases e; omega)⟩
    · rw [Nat.zero_add, cell_of_row _ g j _ _ (0, 0) hhp]
      have hjz : j < zs.length := by omega
      have hjc : j < cur.size := by omega
      simp [putCells, hjc, hj, show j < (Lib.compact zs).length + (zs.length - (Lib.compact zs).length) by omega]
    · have := (Array.getElem?_eq_some_iff.1 hg).1; omega

end Go.Proofs.YtapcdhagkbfccaaGreat

namespace Go.Proofs.YtapcdhagkbfccaaGreat
open Go.RowKit

theorem asc_ext : ∀ (a b : List Int), a.Pairwise (· < ·) → b.Pairwise (· < ·) → (∀ z, z ∈ a ↔ z ∈ b) → a = b
  | [], [], _, _, _ => rfl
  | [], y :: b, _, _, h => by have := (h y).2 (by simp); simp at this
  | x :: a, [], _, _, h => by have := (h x).1 (by simp); simp at this
  | x :: a, y :: b, ha, hb, h => by
    rw [List.pairwise_cons] at ha hb
    have h1 : x = y := by
      have p := (h x).1 (by simp)
      have q := (h y).2 (by simp)
      rw [List.mem_cons] at p q
      rcases p with p | p
      · exact p
      · rcases q with q | q
        · exact q.symm
        · have := hb.1 x p
          have := ha.1 y q
          omega
    subst h1
    rw [asc_ext a b ha.2 hb.2 fun z => ?_]
    have hz := h z
    rw [List.mem_cons, List.mem_cons] at hz
    constructor
    · intro hm
      rcases hz.1 (.inr hm) with e | e
      · have := ha.1 z hm; omega
      · exact e
    · intro hm
      rcases hz.2 (.inr hm) with e | e
      · have := hb.1 z hm; omega
      · exact e
theorem compact_asc {zs : List Int} (hs : zs.Pairwise (· ≤ ·)) : ∀ m, m ≤ zs.length → (Lib.compactUpTo zs.toArray m).Pairwise (· < ·)
  | 0, _ => by simp [Lib.compactUpTo]
  | m + 1, h => by
    have hget : ∀ j (hj : j < zs.length), zs.toArray[j]! = zs[j] := fun j hj => by rw [getElem!_pos zs.toArray j (by simpa using hj)]; rfl
    rw [Lib.compactUpTo_succ, List.pairwise_append]
    refine ⟨compact_asc hs m (by omega), ?_, ?_⟩
    · split <;> simp
    · intro x hx y hy
      cases hk : Lib.keeps zs.toArray m
      · rw [hk] at hy; simp at hy
      · rw [hk, if_pos rfl, List.mem_singleton, hget m (by omega)] at hy
        rw [hy]
        rw [keeps_upto (by omega)] at hx
        obtain ⟨i, hi, rfl⟩ := List.mem_take_iff_getElem.1 hx
        have hi2 : i < m := by omega
        have h1 : zs[i] ≤ zs[m] := List.pairwise_iff_getElem.1 hs i m (by omega) (by omega) hi2
        have h2 : zs[m] ≠ zs[m - 1] := by
          unfold Lib.keeps at hk
          rw [decide_eq_true_iff] at hk
          rcases hk with h0 | h0
          · omega
          · rw [hget m (by omega), hget (m - 1) (by omega)] at h0
            exact h0
        have h3 : zs[i] ≤ zs[m - 1] := by
          by_cases e : i = m - 1
          · subst e; exact Int.le_refl _
          · exact List.pairwise_iff_getElem.1 hs i (m - 1) (by omega) (by omega) (by omega)
        have h4 : zs[m - 1] ≤ zs[m] := List.pairwise_iff_getElem.1 hs (m - 1) m (by omega) (by omega) (by omega)
        omega
theorem srt_asc (xs : List Int) : (srt xs).Pairwise (· ≤ ·) := by
  have := List.pairwise_mergeSort (le := fun x y : Int => decide (x ≤ y)) (fun a b c h1 h2 => by simp at h1 h2 ⊢; omega) (fun a b => by simp; omega) xs
  exact this.imp fun h => by simpa using h
/-- What the kernel sorts and what the reference counts up is the same. -/
theorem cited_same {pp : List Stp} {b : List Bool} {g : Nat} (h : stepsTo (g : Int) pp pp.length) : Lib.compact (srt (citL pp b pp.length)) = citG pp b g := by
  refine asc_ext _ _ ?_ (citG_asc pp b g) fun z => ?_
  · unfold Lib.compact
    exact compact_asc (srt_asc _) _ (Nat.le_refl _)
  · rw [compact_mem, srt_mem, citL_mem, citG_mem]
    constructor
    · intro hz
      refine ⟨?_, hz⟩
      have key : ∀ k, k ≤ pp.length → citB pp b z k = true → 0 ≤ z ∧ z < (g : Int) := by
        intro k
        induction k with
        | zero => intro _ h0; simp [citB] at h0
        | succ k ih =>
          intro hk h1
          rw [citB, Bool.or_eq_true] at h1
          rcases h1 with h1 | h1
          · exact ih (by omega) h1
          · simp only [Bool.and_eq_true, decide_eq_true_iff] at h1
            obtain ⟨⟨_, h2⟩, h3⟩ := h1
            have hx : pp[k]? = some pp[k] := List.getElem?_eq_getElem (by omega)
            have hd : pp.getD k (0, 0, 0) = pp[k] := by rw [List.getD_eq_getElem?_getD, hx]; rfl
            rw [hd] at h2 h3
            rcases stepOk_num (h k (by omega) _ hx) with ⟨a1, a2, a3, a4⟩ | ⟨a1, a2, a3, a4, a5⟩
            · omega
            · omega
      exact key _ (Nat.le_refl _) hz
    · exact fun hz => hz.2

/-- Sort of a list of the call's own. -/
theorem sortI_any (v : Value) (base : Nat) (xs : List Int) (w : World) (h : w.ownsRow base 3 1 v xs.length (xs.map (Value.int .i64))) (hn : xs.length ≤ 1000) :
    Calls Tryz.prog 33 #[v] w fun e w' => e = .returned (.tuple #[]) ∧ w'.ownsRow base 3 1 v (srt xs).length ((srt xs).map (Value.int .i64)) ∧ w.heap.size ≤ w'.heap.size ∧ ∀ B, B ≤ base → B ≤ w.heap.size → Below B w w' := by
  obtain ⟨hl, ⟨rfl, h0⟩ | ⟨g, cap, cur, rfl, hbase, hg, r1, r2, r3, r4⟩⟩ := h
  · have hnil : xs = [] := by
      rw [List.length_map] at hl
      exact List.eq_nil_of_length_eq_zero (by omega)
    subst hnil
    refine (AnyG.slices_Sort_int_none sortI none 0 w).mono ?_
    rintro e w2 ⟨rfl, rfl⟩
    exact ⟨rfl, by simpa [srt] using World.ownsRow_nil _ _ _ _, Nat.le_refl _, fun B _ _ => Below.refl _ _⟩
  · rw [Nat.mul_one] at r4
    have hH : Go.Sort.Holds (Value.int .i64) w g 0 xs.toArray := holds_of_blockI hg r4
    have hgl : g < w.heap.size := (Array.getElem?_eq_some_iff.1 hg).1
    refine (AnyG.slices_Sort_int sortI g 0 cap xs w hH hgl (by omega)).mono ?_
    rintro e w2 ⟨rfl, k, os, rfl⟩
    have hown := ownsRow_sortedI (w := w) (n := k) (os := os) (ss := xs) (ts := srt xs) (srt_len xs) hbase hg r1 r2 r3
    have hgr := grownBy_sortedI (w := w) (g := g) (n := k) (os := os) (srt xs).toArray
    refine ⟨rfl, by rw [srt_len]; exact hown, hgr.size, fun B hB hB2 => (Below.refl B w).grown hgr hB2 (fun j e => by cases e; omega)⟩

end Go.Proofs.YtapcdhagkbfccaaGreat
