/- slices.SortFunc at Term by Compare: what the row holds behind it. -/
import Derived.Test.YtmccdmpemlmkkaaJ1
import Derived.Test.YtmccdmpemlmkkaaB4
import Derived.Shelf.SlSortCmp.Whole1
namespace Go.Proofs.Ytmccdmpemlmkkaa
open Go.RowKit Go.Shelf

def sortT_ren : Go.Shelf.Ren := ⟨fun | 6 => 60 | 15 => 76 | 14 => 75 | 28 => 88 | 29 => 89 | 20 => 80 | 21 => 81 | 22 => 82 | 23 => 83 | 24 => 84 | 25 => 85 | 26 => 86 | 27 => 87 | 46 => 90 | 47 => 91 | 48 => 92 | 49 => 93 | 50 => 94 | 57 => 95 | n => n,
  fun | 22 => 36 | 24 => 25 | 25 => 54 | 3 => 3 | 39 => 89 | 0 => 0 | 53 => 102 | 55 => 104 | 4 => 4 | 46 => 96 | 45 => 95 | 50 => 92 | 5 => 5 | 9 => 9 | 66 => 105 | 70 => 109 | 76 => 111 | 77 => 112 | n => n,
  fun | n => n⟩
theorem sortT : Go.Proofs.SlLaysF.n6 Try.prog sortT_ren := {
  mixed := by kernel_rfl
  f6 := ⟨Try.f60.name, by decide, Try.func60.trans (congrArg some (by kernel_rfl))⟩
  f14 := ⟨Try.f75.name, by decide, Try.func75.trans (congrArg some (by kernel_rfl))⟩
  f15 := Try.func76.trans (congrArg some (by kernel_rfl))
  f20 := ⟨Try.f80.name, by decide, Try.func80.trans (congrArg some (by kernel_rfl))⟩
  f21 := ⟨Try.f81.name, by decide, Try.func81.trans (congrArg some (by kernel_rfl))⟩
  f22 := ⟨Try.f82.name, by decide, Try.func82.trans (congrArg some (by kernel_rfl))⟩
  f23 := ⟨Try.f83.name, by decide, Try.func83.trans (congrArg some (by kernel_rfl))⟩
  f24 := ⟨Try.f84.name, by decide, Try.func84.trans (congrArg some (by kernel_rfl))⟩
  f25 := ⟨Try.f85.name, by decide, Try.func85.trans (congrArg some (by kernel_rfl))⟩
  f26 := ⟨Try.f86.name, by decide, Try.func86.trans (congrArg some (by kernel_rfl))⟩
  f27 := ⟨Try.f87.name, by decide, Try.func87.trans (congrArg some (by kernel_rfl))⟩
  f28 := Try.func88.trans (congrArg some (by kernel_rfl))
  f29 := Try.func89.trans (congrArg some (by kernel_rfl))
  f46 := ⟨Try.f90.name, by decide, Try.func90.trans (congrArg some (by kernel_rfl))⟩
  f47 := Try.func91.trans (congrArg some (by kernel_rfl))
  f48 := Try.func92.trans (congrArg some (by kernel_rfl))
  f49 := ⟨Try.f93.name, by decide, Try.func93.trans (congrArg some (by kernel_rfl))⟩
  f50 := ⟨Try.f94.name, by decide, Try.func94.trans (congrArg some (by kernel_rfl))⟩
  f57 := ⟨Try.f95.name, by decide, Try.func95.trans (congrArg some (by kernel_rfl))⟩
  t0 := Try.underlying0
  a0 := Try.isAgg0
  z0 := Try.sizeOf0
  v0 := Try.zeroValue0
  t3 := Try.underlying3
  a3 := Try.isAgg3
  z3 := Try.sizeOf3
  v3 := Try.zeroValue3
  t4 := Try.underlying4
  a4 := Try.isAgg4
  z4 := Try.sizeOf4
  v4 := Try.zeroValue4
  t5 := Try.underlying5
  a5 := Try.isAgg5
  z5 := Try.sizeOf5
  v5 := Try.zeroValue5
  t9 := Try.underlying9
  a9 := Try.isAgg9
  z9 := Try.sizeOf9
  v9 := Try.zeroValue9
  t22 := Try.underlying36
  a22 := Try.isAgg36
  z22 := Try.sizeOf36
  v22 := Try.zeroValue36
  a24 := Try.isAgg25
  z24 := Try.sizeOf25
  t25 := Try.underlying54
  a25 := Try.isAgg54
  z25 := Try.sizeOf54
  v25 := Try.zeroValue54
  t39 := Try.underlying89
  a39 := Try.isAgg89
  z39 := Try.sizeOf89
  v39 := Try.zeroValue89
  t45 := Try.underlying95
  a45 := Try.isAgg95
  z45 := Try.sizeOf95
  v45 := Try.zeroValue95
  t46 := Try.underlying96
  a46 := Try.isAgg96
  z46 := Try.sizeOf96
  v46 := Try.zeroValue96
  t50 := Try.underlying92
  a50 := Try.isAgg92
  z50 := Try.sizeOf92
  v50 := Try.zeroValue92
  t53 := Try.underlying102
  a53 := Try.isAgg102
  z53 := Try.sizeOf102
  v53 := Try.zeroValue102
  t55 := Try.underlying104
  a55 := Try.isAgg104
  z55 := Try.sizeOf104
  v55 := Try.zeroValue104
  t66 := Try.underlying105
  a66 := Try.isAgg105
  z66 := Try.sizeOf105
  v66 := Try.zeroValue105
  t70 := Try.underlying109
  a70 := Try.isAgg109
  z70 := Try.sizeOf109
  v70 := Try.zeroValue109
  t76 := Try.underlying111
  a76 := Try.isAgg111
  z76 := Try.sizeOf111
  v76 := Try.zeroValue111
  t77 := Try.underlying112
  a77 := Try.isAgg112
  z77 := Try.sizeOf112
  v77 := Try.zeroValue112 }


open Go.Lib Go.Sort
/-- A row in block g whose first cells hold slices that read as tt, their numbers in other blocks. -/
structure CRow (w : World) (g m : Nat) (ls : List Hd) (tt : List (List Int)) : Prop where
  blk : ∃ cs, w.heap[g]? = some (.cells cs 25 (0, 0)) ∧ ∀ j (h : j < ls.length), cs[j]? = some ls[j].val
  ll : ls.length = m
  len : m = tt.length
  each : ∀ j (h : j < ls.length) (h' : j < tt.length), IntsBut w (some g) ls[j].1 ls[j].2.1 tt[j]
section
variable {w w' : World} {g m : Nat} {ls : List Hd} {tt : List (List Int)}
theorem CRow.lt (h : CRow w g m ls tt) : g < w.heap.size := by
  obtain ⟨cs, h1, _⟩ := h.blk
  exact (Array.getElem?_eq_some_iff.1 h1).1
theorem CRow.cell (h : CRow w g m ls tt) {j : Nat} (hj : j < m) : ∃ A n c t, w.cell? ⟨g, j, none⟩ = some (.slice A n c) ∧ w.frozen? ⟨g, j, none⟩ = false ∧ ls[j]? = some (A, n, c) ∧ tt[j]? = some t ∧ IntsBut w (some g) A n t := by
  obtain ⟨cs, h1, h2⟩ := h.blk
  have hl : j < ls.length := by rw [h.ll]; exact hj
  have ht : j < tt.length := by rw [← h.len]; exact hj
  have hb : Blk w g 25 cs := h1
  refine ⟨ls[j].1, ls[j].2.1, ls[j].2.2, tt[j], ?_, hb.frozen j, List.getElem?_eq_getElem hl, List.getElem?_eq_getElem ht, h.each j hl ht⟩
  rw [hb.cell, h2 j hl]
  rfl
theorem CRow.of_rows {base : Nat} {cap : Nat} (h : RowsAt 25 w base (.slice (some ⟨g, 0, none⟩) m cap) m ls tt) (hm : 0 < m) : CRow w g m ls tt ∧ base ≤ g ∧ m ≤ cap ∧ cap ≤ 9223372036854775807 := by
  have hll := h.ll
  have hlt := h.len
  have he := h.each
  obtain ⟨hl, ⟨e, rfl⟩ | ⟨g', cap', cur, e, hbg, hcur, hn1, hn2, hsz, htk⟩⟩ := h.row
  · cases e
  · cases e
    refine ⟨⟨⟨cur, hcur, fun j hj => ?_⟩, hll, hlt, he⟩, hbg, by omega, by unfold maxLen at hn2; omega⟩
    have hj' : j < m * 1 := by omega
    have e1 : cur.toList[j]? = (cur.toList.take (m * 1))[j]? := by rw [List.getElem?_take, if_pos hj']
    rw [← Array.getElem?_toList, e1, htk, List.getElem?_map, List.getElem?_eq_getElem hj]
    rfl
end

def hdOf (ls : List Hd) (i : Nat) : Hd := (ls[i]?).getD (none, 0, 0)
def ttOf (tt : List (List Int)) (i : Nat) : List Int := (tt[i]?).getD []
theorem range_get! (k j : Nat) (h : j < k) : (List.range k).toArray[j]! = j := by
  rw [getElem!_pos _ j (by simpa using h)]
  simp
theorem swo_cmp (tt : List (List Int)) : SWO (ltOf fun i j : Nat => cmpL (ttOf tt i) (ttOf tt j)) where
  irrefl x := by simp [ltOf, cmpL_self]
  trans x y z h1 h2 := by
    simp only [ltOf, decide_eq_true_eq] at *
    exact cmpL_lt_trans h1 (Int.le_of_lt h2)
  ntrans x y z h1 h2 := by
    simp only [ltOf, decide_eq_false_iff_not, Int.not_lt] at *
    have := cmpL_neg (ttOf tt x) (ttOf tt y)
    have := cmpL_neg (ttOf tt y) (ttOf tt z)
    have := cmpL_neg (ttOf tt x) (ttOf tt z)
    have := cmpL_trans (ttOf tt z) (ttOf tt y) (ttOf tt x) (by omega) (by omega)
    omega

theorem heap_putRow_other {α : Type} [Inhabited α] (enc : α → Value) (w : World) (blk : Nat) (d : Array α) (i : Nat) (h : i ≠ blk) : (putRow enc w blk 0 d).heap[i]? = w.heap[i]? := by
  unfold putRow mapBlock
  simp only [Array.getElem?_modify]
  rw [if_neg (fun e => h e.symm)]
theorem heap_grow_lt (w : World) (os : Array Obj) (i : Nat) (h : i < w.heap.size) : (grow w os).heap[i]? = w.heap[i]? := by
  unfold grow
  exact Array.getElem?_append_left h
theorem below_sort {α : Type} [Inhabited α] (enc : α → Value) (w : World) (g n : Nat) (d : Array α) (os : Array Obj) (hg : g < w.heap.size) : w.grownBy (sortWorld enc w g 0 n d os) (some g) := by
  refine ⟨rfl, rfl, rfl, ?_, fun k hk hne => ?_⟩
  · unfold sortWorld
    rw [Go.Sort.size_grow, Go.Sort.size_putRow]
    exact Nat.le_add_right _ _
  · unfold sortWorld
    rw [heap_grow_lt _ _ _ (by rw [Go.Sort.size_putRow]; show k < w.heap.size; omega), heap_putRow_other _ _ _ _ _ (fun e => hne (by rw [e]))]
    rfl

theorem sort_cell {α : Type} [Inhabited α] (enc : α → Value) (w : World) (g n : Nat) (d : Array α) (os : Array Obj) (a : Addr) (h1 : a.block ≠ g) (h2 : a.block < w.heap.size) : (sortWorld enc w g 0 n d os).cell? a = w.cell? a := by
  refine World.cell?_of_block ?_
  unfold sortWorld
  rw [heap_grow_lt _ _ _ (by rw [Go.Sort.size_putRow]; exact h2), heap_putRow_other _ _ _ _ _ h1]
  rfl

set_option maxHeartbeats 1000000 in
theorem sortT_any (g m cap : Nat) (ls : List Hd) (tt : List (List Int)) (w : World) (hR : CRow w g m ls tt) (hm : m ≤ 1000) :
    Calls Try.prog 60 #[.slice (some ⟨g, 0, none⟩) m cap, .func (.func 38) #[] #[]] w fun e w' => e = .returned (.tuple #[]) ∧ ∃ ls' tt', CRow w' g m ls' tt' ∧ (∀ z, z ∈ tt' ↔ z ∈ tt) ∧ (∀ i j (hi : i < tt'.length) (hj : j < tt'.length), i < j → cmpL tt'[i] tt'[j] ≤ 0) ∧ w.grownBy w' (some g) := by
  have hlt := hR.lt
  have hll := hR.ll
  have hlen := hR.len
  let enc : Nat → Value := fun i => (hdOf ls i).val
  have hds : (List.range m).toArray.size = m := by simp
  have hH : Holds enc w g 0 (List.range m).toArray := by
    intro j hj
    rw [hds] at hj
    obtain ⟨A, n, c, t, c1, f1, e1, _⟩ := hR.cell hj
    rw [Nat.zero_add]
    refine ⟨?_, f1⟩
    rw [c1, range_get! m j hj]
    show _ = some (hdOf ls j).val
    rw [hdOf, e1]
    rfl
  have hI : ∀ W : World, (∀ a : Addr, a.block ≠ g → a.block < w.heap.size → W.cell? a = w.cell? a) → ∀ x : Nat, IntsAt W (w.heap.size) (hdOf ls x).1 (hdOf ls x).2.1 (ttOf tt x) := by
    intro W hW x
    by_cases hx : x < m
    · have h1 : x < ls.length := by omega
      have h2 : x < tt.length := by omega
      have := hR.each x h1 h2
      rw [hdOf, ttOf, List.getElem?_eq_getElem h1, List.getElem?_eq_getElem h2]
      refine ⟨this.len, this.max, fun hn => ?_⟩
      obtain ⟨b, off, e, hb, hne, hc⟩ := this.mem hn
      exact ⟨b, off, e, hb, fun j hj => (hW _ (fun e => hne (by rw [← e])) hb).trans (hc j hj)⟩
    · rw [hdOf, ttOf, List.getElem?_eq_none (by omega), List.getElem?_eq_none (by omega)]
      exact ⟨rfl, by simp, fun h => by simp at h⟩
  have hcmp : CmpReads Try.prog 38 #[] enc (fun i j : Nat => cmpL (ttOf tt i) (ttOf tt j)) g 0 (List.range m).toArray.size w := by
    intro q os dk _ x y
    have hW : ∀ a : Addr, a.block ≠ g → a.block < w.heap.size → (sortWorld enc w g 0 q dk os).cell? a = w.cell? a := fun a h1 h2 => sort_cell enc w g q dk os a h1 h2
    refine (compare_any (hdOf ls x).1 (hdOf ls y).1 (hdOf ls x).2.1 (hdOf ls x).2.2 (hdOf ls y).2.1 (hdOf ls y).2.2 (ttOf tt x) (ttOf tt y) _ _ (hI _ hW x) (hI _ hW y)).mono ?_
    rintro e w' ⟨rfl, rfl⟩
    exact ⟨rfl, 0, rfl⟩
  have hcon := Any.slices_SortFunc sortT enc (fun x => rfl) (fun i j : Nat => cmpL (ttOf tt i) (ttOf tt j)) (swo_cmp tt) 38 #[] g 0 cap (List.range m).toArray w
    (enters_of Try.func38 (by kernel_rfl) rfl) hcmp.lays hH hlt (by rw [hds]; omega)
  rw [hds] at hcon
  refine hcon.mono ?_
  rintro e w' ⟨rfl, d', n, os, ⟨hsz, _, hperm⟩, hsort, rfl⟩
  rw [hds] at hsz
  have hperm' : d'.toList.Perm (List.range m) := by
    have h1 : (d'.extract 0 m) = d' := by rw [← hsz]; simp
    have h2 : ((List.range m).toArray.extract 0 m) = (List.range m).toArray := by simp [List.extract]
    rw [h1, h2] at hperm
    simpa using hperm
  have hmem : ∀ i, i ∈ d'.toList ↔ i < m := fun i => by rw [hperm'.mem_iff]; simp
  have hget : ∀ j (h : j < m), ∃ i, d'.toList[j]? = some i ∧ i < m ∧ d'[j]! = i := by
    intro j h
    have hj : j < d'.size := by omega
    refine ⟨d'[j], by rw [Array.getElem?_toList]; exact Array.getElem?_eq_getElem hj, ?_, getElem!_pos _ j hj⟩
    exact (hmem _).1 (by simp)
  have hlt' : g < (sortWorld enc w g 0 n d' os).heap.size := Nat.lt_of_lt_of_le hlt (below_sort enc w g n d' os hlt).size
  have hW : ∀ a : Addr, a.block ≠ g → a.block < w.heap.size → (sortWorld enc w g 0 n d' os).cell? a = w.cell? a := fun a h1 h2 => sort_cell enc w g n d' os a h1 h2
  refine ⟨rfl, d'.toList.map (hdOf ls), d'.toList.map (ttOf tt), ⟨?_, by simp [hsz], by simp [hsz], ?_⟩, ?_, ?_, below_sort enc w g n d' os hlt⟩
  · obtain ⟨cs, h1, h2⟩ := hR.blk
    refine ⟨putCells enc 0 d' cs, ?_, fun j hj => ?_⟩
    · unfold sortWorld
      rw [heap_grow_lt _ _ _ (by rw [Go.Sort.size_putRow]; exact hlt)]
      unfold putRow mapBlock
      simp only [Array.getElem?_modify, if_true]
      show Option.map _ w.heap[g]? = _
      rw [h1]
      rfl
    · have hj' : j < m := by simpa [hsz] using hj
      obtain ⟨i, q1, q2, q3⟩ := hget j hj'
      have hjl : j < ls.length := by omega
      have h3 := h2 j hjl
      unfold putCells
      rw [Array.getElem?_mapIdx, h3, Option.map_some, if_pos ⟨Nat.zero_le _, by omega⟩, Nat.sub_zero, q3]
      simp only [List.getElem_map]
      have : d'.toList[j]'(by simpa using hj) = i := by
        have := List.getElem?_eq_some_iff.1 q1
        exact this.2
      rw [this]
  · intro j a b
    simp only [List.getElem_map]
    have hj' : j < m := by simpa [hsz] using a
    obtain ⟨i, q1, q2, q3⟩ := hget j hj'
    have e : d'.toList[j]'(by simpa using a) = i := (List.getElem?_eq_some_iff.1 q1).2
    rw [e]
    have h1 : i < ls.length := by omega
    have h2 : i < tt.length := by omega
    have h3 := hR.each i h1 h2
    rw [hdOf, ttOf, List.getElem?_eq_getElem h1, List.getElem?_eq_getElem h2]
    refine ⟨h3.len, h3.max, fun hn => ?_⟩
    obtain ⟨b', off, e, hb, hne, hc⟩ := h3.mem hn
    exact ⟨b', off, e, Nat.lt_of_lt_of_le hb (below_sort enc w g n d' os hlt).size, hne, fun j hj => (hW _ (fun e => hne (by rw [← e])) hb).trans (hc j hj)⟩
  · intro z
    rw [List.mem_map]
    constructor
    · rintro ⟨i, h1, rfl⟩
      have := (hmem i).1 h1
      have h2 : i < tt.length := by omega
      rw [ttOf, List.getElem?_eq_getElem h2]
      exact List.getElem_mem _
    · intro hz
      obtain ⟨i, hi, rfl⟩ := List.getElem_of_mem hz
      exact ⟨i, (hmem i).2 (by omega), by rw [ttOf, List.getElem?_eq_getElem hi]; rfl⟩
  · intro i j hi hj hij
    have hi' : i < m := by simpa [hsz] using hi
    have hj' : j < m := by simpa [hsz] using hj
    obtain ⟨a, q1, q2, q3⟩ := hget i hi'
    obtain ⟨b, p1, p2, p3⟩ := hget j hj'
    have h := hsort i j (Nat.zero_le _) hij hj'
    rw [q3, p3] at h
    simp only [ltOf, decide_eq_false_iff_not, Int.not_lt] at h
    simp only [List.getElem_map]
    rw [(List.getElem?_eq_some_iff.1 q1).2, (List.getElem?_eq_some_iff.1 p1).2]
    have := cmpL_neg (ttOf tt a) (ttOf tt b)
    omega

end Go.Proofs.Ytmccdmpemlmkkaa
