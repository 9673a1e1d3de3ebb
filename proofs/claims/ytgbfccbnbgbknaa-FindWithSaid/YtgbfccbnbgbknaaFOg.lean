/- What the groups are: the mathematics. -/
import Derived.Test.YtgbfccbnbgbknaaR2g
import Derived.Test.YtgbfccbnbgbknaaL2g
import Derived.Test.YtgbfccbnbgbknaaFCg
import Derived.Test.YtgbfccbnbgbknaaY19g
import Derived.Laws.Rows
import Derived.Laws.CopyRow
import Derived.Test.YtgbfccbnbgbknaaN10g
import Derived.Laws.OwnMore
import Derived.Deep.CutRange
import Derived.Deep.WholeRow
/- Canonical forms are their own: the plain mathematics. -/
namespace Go.Proofs.Ytgbfccbnbgbknaa
open Go.RowKit

def iotaN (n : Nat) : List Int := (List.range n).map fun i => -((i : Nat) : Int) - 1
theorem iotaN_length (n : Nat) : (iotaN n).length = n := by simp [iotaN]
theorem iotaN_succ (n : Nat) : iotaN (n + 1) = iotaN n ++ [-(n : Int) - 1] := by simp [iotaN, List.range_succ]
theorem iotaN_mem {n : Nat} {y : Int} : y ∈ iotaN n ↔ ∃ i : Nat, i < n ∧ y = -(i : Int) - 1 := by
  unfold iotaN
  rw [List.mem_map]
  constructor
  · rintro ⟨i, hi, rfl⟩; exact ⟨i, by simpa using hi, rfl⟩
  · rintro ⟨i, hi, rfl⟩; exact ⟨i, by simpa using hi, rfl⟩
theorem iotaN_nodup : ∀ n, (iotaN n).Nodup
  | 0 => by simp [iotaN]
  | n + 1 => by
    rw [iotaN_succ, List.nodup_append]
    refine ⟨iotaN_nodup n, by simp, fun a ha b hb => ?_⟩
    simp only [List.mem_singleton] at hb
    obtain ⟨i, hi, rfl⟩ := iotaN_mem.1 ha
    omega
theorem iotaN_idx {n i : Nat} (h : i < n) : (iotaN n).idxOf (-(i : Int) - 1) = i := by
  have hl : i < (iotaN n).length := by rw [iotaN_length]; exact h
  have e : (iotaN n)[i] = -(i : Int) - 1 := by simp [iotaN]
  rw [← e]
  exact (iotaN_nodup n).idxOf_getElem i hl
theorem canonL_again : ∀ (zs seen : List Int), canonL (iotaN seen.length) (canonL seen zs) = canonL seen zs
  | [], _ => rfl
  | z :: r, seen => by
    simp only [canonL]
    by_cases h0 : 0 ≤ z
    · have e1 : ren1 seen z = z := by simp [ren1, h0]
      have e2 : addSeen seen z = seen := by simp [addSeen, h0]
      rw [e1, e2]
      have e3 : ren1 (iotaN seen.length) z = z := by simp [ren1, h0]
      have e4 : addSeen (iotaN seen.length) z = iotaN seen.length := by simp [addSeen, h0]
      rw [e3, e4, canonL_again r seen]
    · by_cases hc : z ∈ seen
      · have e2 : addSeen seen z = seen := by simp [addSeen, h0, hc]
        have hi : seen.idxOf z < seen.length := List.idxOf_lt_length_of_mem hc
        have e1 : ren1 seen z = -((seen.idxOf z : Nat) : Int) - 1 := by unfold ren1 cnum; rw [if_neg h0, e2]
        rw [e1, e2]
        have hy : ¬ (0 : Int) ≤ -((seen.idxOf z : Nat) : Int) - 1 := by omega
        have hm : (-((seen.idxOf z : Nat) : Int) - 1) ∈ iotaN seen.length := iotaN_mem.2 ⟨_, hi, rfl⟩
        have e4 : addSeen (iotaN seen.length) (-((seen.idxOf z : Nat) : Int) - 1) = iotaN seen.length := by
          unfold addSeen
          rw [if_neg hy, if_pos (List.contains_iff_mem.2 hm)]
        have e3 : ren1 (iotaN seen.length) (-((seen.idxOf z : Nat) : Int) - 1) = -((seen.idxOf z : Nat) : Int) - 1 := by
          unfold ren1 cnum
          rw [if_neg hy, e4, iotaN_idx hi]
        rw [e3, e4, canonL_again r seen]
      · have e2 : addSeen seen z = seen ++ [z] := by simp [addSeen, h0, hc]
        have e1 : ren1 seen z = -(seen.length : Int) - 1 := by
          unfold ren1 cnum
          rw [if_neg h0, e2, List.idxOf_append, if_neg hc]
          simp
        rw [e1, e2]
        have hy : ¬ (0 : Int) ≤ -(seen.length : Int) - 1 := by omega
        have hm : (-(seen.length : Int) - 1) ∉ iotaN seen.length := fun h => by
          obtain ⟨i, hi, e⟩ := iotaN_mem.1 h
          omega
        have e4 : addSeen (iotaN seen.length) (-(seen.length : Int) - 1) = iotaN (seen ++ [z]).length := by
          unfold addSeen
          rw [if_neg hy, if_neg (fun h => hm (List.contains_iff_mem.1 h)), List.length_append, List.length_singleton, iotaN_succ]
        have e3 : ren1 (iotaN seen.length) (-(seen.length : Int) - 1) = -(seen.length : Int) - 1 := by
          unfold ren1 cnum
          rw [if_neg hy, e4, List.length_append, List.length_singleton, iotaN_idx (by omega)]
        rw [e3, e4, canonL_again r (seen ++ [z])]
theorem canon_canon (zs : List Int) : canon (canon zs) = canon zs := canonL_again zs []

end Go.Proofs.Ytgbfccbnbgbknaa

/- Canonical forms are their own: the plain mathematics. -/
namespace Go.Proofs.Ytgbfccbnbgbknaa
open Go.RowKit

theorem arOf_ren1 (ss : Sg) (seen : List Int) (z : Int) : arOf ss (ren1 seen z) = arOf ss z := by
  unfold ren1
  by_cases h : 0 ≤ z
  · rw [if_pos h]
  · rw [if_neg h]
    unfold arOf cnum
    rw [if_pos (by omega), if_pos (by omega)]
theorem scan_canonL (ss : Sg) : ∀ (zs seen : List Int) (n : Nat), scan ss n zs = some [] → scan ss n (canonL seen zs) = some []
  | [], _, _, h => h
  | z :: r, seen, 0, h => by rw [scan_zero] at h; cases h
  | z :: r, seen, n + 1, h => by
    simp only [scan] at h
    simp only [canonL, scan, arOf_ren1]
    exact scan_canonL ss r _ _ h

theorem nodup_le : ∀ (l m : List Int), l.Nodup → (∀ x ∈ l, x ∈ m) → l.length ≤ m.length
  | [], _, _, _ => by simp
  | x :: r, m, h, hs => by
    rw [List.nodup_cons] at h
    have hx := hs x (List.mem_cons_self ..)
    have := nodup_le r (m.erase x) h.2 (fun y hy => (List.mem_erase_of_ne (fun e => h.1 (by rw [← e]; exact hy))).2 (hs y (List.mem_cons_of_mem _ hy)))
    rw [List.length_erase_of_mem hx] at this
    have h0 : 0 < m.length := List.length_pos_of_mem hx
    simp only [List.length_cons]
    omega
theorem canon_num {ss : Sg} {zs : List Int} (h : ∀ z ∈ zs, -12 ≤ z ∧ z < (ss.length : Int)) : ∀ y ∈ canon zs, -12 ≤ y ∧ y < (ss.length : Int) := by
  intro y hy
  obtain ⟨i, hi, rfl⟩ := List.mem_iff_getElem.1 hy
  have hi' : i < zs.length := by rwa [canon_length] at hi
  have hg := cval_all zs hi'
  rw [List.getElem?_eq_getElem hi] at hg
  rw [Option.some.inj hg]
  have hz := h _ (List.getElem_mem hi')
  unfold cval
  split
  · rename_i hc
    have hl := nodup_le (seenTo zs zs.length) (iotaN 12) (seenTo_nodup _ _) (fun x hx => by
      have h1 := seen_neg zs _ x hx
      have h2 := (h x (seen_mem zs _ x hx)).1
      exact iotaN_mem.2 ⟨(-x - 1).toNat, by omega, by omega⟩)
    rw [iotaN_length] at hl
    have := hc.2
    omega
  · exact hz
theorem valOk_canon {ss : Sg} {zs : List Int} (h : valOk ss zs = true) : valOk ss (canon zs) = true := by
  obtain ⟨h1, h2, h3, h4⟩ := valOk_term h
  have h5 := valOk_sig h
  have h6 := canon_num h3
  simp only [valOk, termOk, Bool.and_eq_true, decide_eq_true_eq, List.all_eq_true, numOk, canon_length]
  exact ⟨h5, h1, h2, h6, scan_canonL ss zs [] 1 h4⟩
theorem isCan_canon {ss : Sg} {zs : List Int} (h : valOk ss zs = true) : isCanOk ss (canon zs) = true := by
  simp [isCanOk, valOk_canon h, canon_canon]
theorem alike_canon {ss : Sg} {zs : List Int} (h : valOk ss zs = true) : alikeOk ss zs (canon zs) = true := by
  have := valOk_canon h
  simp only [valOk, Bool.and_eq_true] at this
  simp [alikeOk, h, this.2, canon_canon]

end Go.Proofs.Ytgbfccbnbgbknaa

/- Contract: keyed (a term as the key of a map). -/
namespace Go.Proofs.Ytgbfccbnbgbknaa
open Go.RowKit

/-- The numbers of a term, and zeros behind them. -/
def keyL (zs : List Int) : List Int := zs ++ List.replicate (60 - zs.length) 0
def keyA (zs : List Int) : Array Value := ((keyL zs).map (Value.int .i64)).toArray
theorem keyL_len {zs : List Int} (h : zs.length ≤ 60) : (keyL zs).length = 60 := by simp [keyL]; omega
theorem keyA_size {zs : List Int} (h : zs.length ≤ 60) : (keyA zs).size = 60 := by simp [keyA, keyL_len h]
theorem keyA_one (zs : List Int) : (keyA zs).all (·.oneCell') = true := by
  unfold keyA
  rw [List.all_toArray, List.all_map, List.all_eq_true]
  intro x _
  rfl
theorem keyA_made {zs : List Int} (_h : zs.length ≤ 60) (cur : Array Value) (hc : cur = Array.replicate 60 (.int .i64 0)) : (cur.toList.take 0 ++ zs.map (Value.int .i64) ++ cur.toList.drop (0 + (zs.map (Value.int .i64)).length)).toArray = keyA zs := by
  subst hc
  unfold keyA keyL
  rw [Array.toList_replicate, List.drop_replicate]
  simp
theorem info_key' : (Try.prog.info? 178).map (·.size) = some 60 := by kernel_rfl
theorem below_setRow {B : Nat} {a w : World} (h : Below B a w) {g : Nat} (hp : B ≤ g) (cs : Array Value) : Below B a (w.setRow g cs) :=
  h.trans ⟨rfl, rfl, rfl, by simp, fun k hk => setRow_other w g k cs (by omega)⟩
theorem info_key : (Try.prog.info? 178).map (·.size) = some 60 := by kernel_rfl

set_option maxRecDepth 100000 in
set_option maxHeartbeats 1000000 in
theorem keyed_any (A : Option Addr) (n c : Nat) (zs : List Int) (w : World) (hx : IntsAt w w.heap.size A n zs) (h1 : 1 ≤ n) (hn : n ≤ 60) :
    Calls Try.prog 199 #[.slice A n c] w fun e w' => e = .returned (.agg (keyA zs)) ∧ Below w.heap.size w w' := by
  obtain ⟨b, off, rfl, hb, hcell⟩ := hx.mem (by omega)
  have hlen := hx.len
  have hz60 : (#[.int .i64 0, .int .i64 0, .int .i64 0, .int .i64 0, .int .i64 0, .int .i64 0, .int .i64 0, .int .i64 0, .int .i64 0, .int .i64 0, .int .i64 0, .int .i64 0, .int .i64 0, .int .i64 0, .int .i64 0, .int .i64 0, .int .i64 0, .int .i64 0, .int .i64 0, .int .i64 0, .int .i64 0, .int .i64 0, .int .i64 0, .int .i64 0, .int .i64 0, .int .i64 0, .int .i64 0, .int .i64 0, .int .i64 0, .int .i64 0, .int .i64 0, .int .i64 0, .int .i64 0, .int .i64 0, .int .i64 0, .int .i64 0, .int .i64 0, .int .i64 0, .int .i64 0, .int .i64 0, .int .i64 0, .int .i64 0, .int .i64 0, .int .i64 0, .int .i64 0, .int .i64 0, .int .i64 0, .int .i64 0, .int .i64 0, .int .i64 0, .int .i64 0, .int .i64 0, .int .i64 0, .int .i64 0, .int .i64 0, .int .i64 0, .int .i64 0, .int .i64 0, .int .i64 0, .int .i64 0] : Array Value) = Array.replicate 60 (.int .i64 0) := by rfl
  have hB2 : Below w.heap.size w ((w.alloc (.cells #[.int .i64 0, .int .i64 0, .int .i64 0, .int .i64 0, .int .i64 0, .int .i64 0, .int .i64 0, .int .i64 0, .int .i64 0, .int .i64 0, .int .i64 0, .int .i64 0, .int .i64 0, .int .i64 0, .int .i64 0, .int .i64 0, .int .i64 0, .int .i64 0, .int .i64 0, .int .i64 0, .int .i64 0, .int .i64 0, .int .i64 0, .int .i64 0, .int .i64 0, .int .i64 0, .int .i64 0, .int .i64 0, .int .i64 0, .int .i64 0, .int .i64 0, .int .i64 0, .int .i64 0, .int .i64 0, .int .i64 0, .int .i64 0, .int .i64 0, .int .i64 0, .int .i64 0, .int .i64 0, .int .i64 0, .int .i64 0, .int .i64 0, .int .i64 0, .int .i64 0, .int .i64 0, .int .i64 0, .int .i64 0, .int .i64 0, .int .i64 0, .int .i64 0, .int .i64 0, .int .i64 0, .int .i64 0, .int .i64 0, .int .i64 0, .int .i64 0, .int .i64 0, .int .i64 0, .int .i64 0] 178)).alloc (.cells #[.int .i64 0, .int .i64 0, .int .i64 0, .int .i64 0, .int .i64 0, .int .i64 0, .int .i64 0, .int .i64 0, .int .i64 0, .int .i64 0, .int .i64 0, .int .i64 0, .int .i64 0, .int .i64 0, .int .i64 0, .int .i64 0, .int .i64 0, .int .i64 0, .int .i64 0, .int .i64 0, .int .i64 0, .int .i64 0, .int .i64 0, .int .i64 0, .int .i64 0, .int .i64 0, .int .i64 0, .int .i64 0, .int .i64 0, .int .i64 0, .int .i64 0, .int .i64 0, .int .i64 0, .int .i64 0, .int .i64 0, .int .i64 0, .int .i64 0, .int .i64 0, .int .i64 0, .int .i64 0, .int .i64 0, .int .i64 0, .int .i64 0, .int .i64 0, .int .i64 0, .int .i64 0, .int .i64 0, .int .i64 0, .int .i64 0, .int .i64 0, .int .i64 0, .int .i64 0, .int .i64 0, .int .i64 0, .int .i64 0, .int .i64 0, .int .i64 0, .int .i64 0, .int .i64 0, .int .i64 0] 178)) := bel_al (bel_al (Below.refl _ w) _) _
  have hg3 : ((w.alloc (.cells #[.int .i64 0, .int .i64 0, .int .i64 0, .int .i64 0, .int .i64 0, .int .i64 0, .int .i64 0, .int .i64 0, .int .i64 0, .int .i64 0, .int .i64 0, .int .i64 0, .int .i64 0, .int .i64 0, .int .i64 0, .int .i64 0, .int .i64 0, .int .i64 0, .int .i64 0, .int .i64 0, .int .i64 0, .int .i64 0, .int .i64 0, .int .i64 0, .int .i64 0, .int .i64 0, .int .i64 0, .int .i64 0, .int .i64 0, .int .i64 0, .int .i64 0, .int .i64 0, .int .i64 0, .int .i64 0, .int .i64 0, .int .i64 0, .int .i64 0, .int .i64 0, .int .i64 0, .int .i64 0, .int .i64 0, .int .i64 0, .int .i64 0, .int .i64 0, .int .i64 0, .int .i64 0, .int .i64 0, .int .i64 0, .int .i64 0, .int .i64 0, .int .i64 0, .int .i64 0, .int .i64 0, .int .i64 0, .int .i64 0, .int .i64 0, .int .i64 0, .int .i64 0, .int .i64 0, .int .i64 0] 178)).alloc (.cells #[.int .i64 0, .int .i64 0, .int .i64 0, .int .i64 0, .int .i64 0, .int .i64 0, .int .i64 0, .int .i64 0, .int .i64 0, .int .i64 0, .int .i64 0, .int .i64 0, .int .i64 0, .int .i64 0, .int .i64 0, .int .i64 0, .int .i64 0, .int .i64 0, .int .i64 0, .int .i64 0, .int .i64 0, .int .i64 0, .int .i64 0, .int .i64 0, .int .i64 0, .int .i64 0, .int .i64 0, .int .i64 0, .int .i64 0, .int .i64 0, .int .i64 0, .int .i64 0, .int .i64 0, .int .i64 0, .int .i64 0, .int .i64 0, .int .i64 0, .int .i64 0, .int .i64 0, .int .i64 0, .int .i64 0, .int .i64 0, .int .i64 0, .int .i64 0, .int .i64 0, .int .i64 0, .int .i64 0, .int .i64 0, .int .i64 0, .int .i64 0, .int .i64 0, .int .i64 0, .int .i64 0, .int .i64 0, .int .i64 0, .int .i64 0, .int .i64 0, .int .i64 0, .int .i64 0, .int .i64 0] 178)).heap[w.heap.size + 1]? = some (.cells #[.int .i64 0, .int .i64 0, .int .i64 0, .int .i64 0, .int .i64 0, .int .i64 0, .int .i64 0, .int .i64 0, .int .i64 0, .int .i64 0, .int .i64 0, .int .i64 0, .int .i64 0, .int .i64 0, .int .i64 0, .int .i64 0, .int .i64 0, .int .i64 0, .int .i64 0, .int .i64 0, .int .i64 0, .int .i64 0, .int .i64 0, .int .i64 0, .int .i64 0, .int .i64 0, .int .i64 0, .int .i64 0, .int .i64 0, .int .i64 0, .int .i64 0, .int .i64 0, .int .i64 0, .int .i64 0, .int .i64 0, .int .i64 0, .int .i64 0, .int .i64 0, .int .i64 0, .int .i64 0, .int .i64 0, .int .i64 0, .int .i64 0, .int .i64 0, .int .i64 0, .int .i64 0, .int .i64 0, .int .i64 0, .int .i64 0, .int .i64 0, .int .i64 0, .int .i64 0, .int .i64 0, .int .i64 0, .int .i64 0, .int .i64 0, .int .i64 0, .int .i64 0, .int .i64 0, .int .i64 0] 178 (0, 0)) := heap_alloc2_new w _ _
  have hg2 : ((w.alloc (.cells #[.int .i64 0, .int .i64 0, .int .i64 0, .int .i64 0, .int .i64 0, .int .i64 0, .int .i64 0, .int .i64 0, .int .i64 0, .int .i64 0, .int .i64 0, .int .i64 0, .int .i64 0, .int .i64 0, .int .i64 0, .int .i64 0, .int .i64 0, .int .i64 0, .int .i64 0, .int .i64 0, .int .i64 0, .int .i64 0, .int .i64 0, .int .i64 0, .int .i64 0, .int .i64 0, .int .i64 0, .int .i64 0, .int .i64 0, .int .i64 0, .int .i64 0, .int .i64 0, .int .i64 0, .int .i64 0, .int .i64 0, .int .i64 0, .int .i64 0, .int .i64 0, .int .i64 0, .int .i64 0, .int .i64 0, .int .i64 0, .int .i64 0, .int .i64 0, .int .i64 0, .int .i64 0, .int .i64 0, .int .i64 0, .int .i64 0, .int .i64 0, .int .i64 0, .int .i64 0, .int .i64 0, .int .i64 0, .int .i64 0, .int .i64 0, .int .i64 0, .int .i64 0, .int .i64 0, .int .i64 0] 178)).alloc (.cells #[.int .i64 0, .int .i64 0, .int .i64 0, .int .i64 0, .int .i64 0, .int .i64 0, .int .i64 0, .int .i64 0, .int .i64 0, .int .i64 0, .int .i64 0, .int .i64 0, .int .i64 0, .int .i64 0, .int .i64 0, .int .i64 0, .int .i64 0, .int .i64 0, .int .i64 0, .int .i64 0, .int .i64 0, .int .i64 0, .int .i64 0, .int .i64 0, .int .i64 0, .int .i64 0, .int .i64 0, .int .i64 0, .int .i64 0, .int .i64 0, .int .i64 0, .int .i64 0, .int .i64 0, .int .i64 0, .int .i64 0, .int .i64 0, .int .i64 0, .int .i64 0, .int .i64 0, .int .i64 0, .int .i64 0, .int .i64 0, .int .i64 0, .int .i64 0, .int .i64 0, .int .i64 0, .int .i64 0, .int .i64 0, .int .i64 0, .int .i64 0, .int .i64 0, .int .i64 0, .int .i64 0, .int .i64 0, .int .i64 0, .int .i64 0, .int .i64 0, .int .i64 0, .int .i64 0, .int .i64 0] 178)).heap[w.heap.size]? = some (.cells #[.int .i64 0, .int .i64 0, .int .i64 0, .int .i64 0, .int .i64 0, .int .i64 0, .int .i64 0, .int .i64 0, .int .i64 0, .int .i64 0, .int .i64 0, .int .i64 0, .int .i64 0, .int .i64 0, .int .i64 0, .int .i64 0, .int .i64 0, .int .i64 0, .int .i64 0, .int .i64 0, .int .i64 0, .int .i64 0, .int .i64 0, .int .i64 0, .int .i64 0, .int .i64 0, .int .i64 0, .int .i64 0, .int .i64 0, .int .i64 0, .int .i64 0, .int .i64 0, .int .i64 0, .int .i64 0, .int .i64 0, .int .i64 0, .int .i64 0, .int .i64 0, .int .i64 0, .int .i64 0, .int .i64 0, .int .i64 0, .int .i64 0, .int .i64 0, .int .i64 0, .int .i64 0, .int .i64 0, .int .i64 0, .int .i64 0, .int .i64 0, .int .i64 0, .int .i64 0, .int .i64 0, .int .i64 0, .int .i64 0, .int .i64 0, .int .i64 0, .int .i64 0, .int .i64 0, .int .i64 0] 178 (0, 0)) := heap_alloc2_old w _ _
  obtain ⟨W2, hW2⟩ : ∃ W2, ((w.alloc (.cells #[.int .i64 0, .int .i64 0, .int .i64 0, .int .i64 0, .int .i64 0, .int .i64 0, .int .i64 0, .int .i64 0, .int .i64 0, .int .i64 0, .int .i64 0, .int .i64 0, .int .i64 0, .int .i64 0, .int .i64 0, .int .i64 0, .int .i64 0, .int .i64 0, .int .i64 0, .int .i64 0, .int .i64 0, .int .i64 0, .int .i64 0, .int .i64 0, .int .i64 0, .int .i64 0, .int .i64 0, .int .i64 0, .int .i64 0, .int .i64 0, .int .i64 0, .int .i64 0, .int .i64 0, .int .i64 0, .int .i64 0, .int .i64 0, .int .i64 0, .int .i64 0, .int .i64 0, .int .i64 0, .int .i64 0, .int .i64 0, .int .i64 0, .int .i64 0, .int .i64 0, .int .i64 0, .int .i64 0, .int .i64 0, .int .i64 0, .int .i64 0, .int .i64 0, .int .i64 0, .int .i64 0, .int .i64 0, .int .i64 0, .int .i64 0, .int .i64 0, .int .i64 0, .int .i64 0, .int .i64 0] 178)).alloc (.cells #[.int .i64 0, .int .i64 0, .int .i64 0, .int .i64 0, .int .i64 0, .int .i64 0, .int .i64 0, .int .i64 0, .int .i64 0, .int .i64 0, .int .i64 0, .int .i64 0, .int .i64 0, .int .i64 0, .int .i64 0, .int .i64 0, .int .i64 0, .int .i64 0, .int .i64 0, .int .i64 0, .int .i64 0, .int .i64 0, .int .i64 0, .int .i64 0, .int .i64 0, .int .i64 0, .int .i64 0, .int .i64 0, .int .i64 0, .int .i64 0, .int .i64 0, .int .i64 0, .int .i64 0, .int .i64 0, .int .i64 0, .int .i64 0, .int .i64 0, .int .i64 0, .int .i64 0, .int .i64 0, .int .i64 0, .int .i64 0, .int .i64 0, .int .i64 0, .int .i64 0, .int .i64 0, .int .i64 0, .int .i64 0, .int .i64 0, .int .i64 0, .int .i64 0, .int .i64 0, .int .i64 0, .int .i64 0, .int .i64 0, .int .i64 0, .int .i64 0, .int .i64 0, .int .i64 0, .int .i64 0] 178)) = W2 := ⟨_, rfl⟩
  rw [hW2] at hB2 hg3 hg2
  have hk60 : (keyA zs).size = 60 := keyA_size (by omega)
  have hcp : (Builtin.copy_ #[24, 25] 3 #[.slice (some ⟨w.heap.size + 1, 0, none⟩) 60 60, .slice (some ⟨b, off, none⟩) n c]).run Try.prog W2 = .ok (goInt n) (W2.setRow (w.heap.size + 1) (keyA zs)) := by
    have := run_copy_row (P := Try.prog) W2 24 25 3 3 (w.heap.size + 1) 0 60 60 ⟨b, off, none⟩ n c _ _ (zs.map (Value.int .i64)) Try.underlying24 (by kernel_rfl) hg3
      (by rw [List.length_map, ← hlen]; exact (Nat.min_eq_left hn).symm)
      (fun j v hv => by
        rw [List.getElem?_map] at hv
        obtain ⟨x, hx1, rfl⟩ := Option.map_eq_some_iff.1 hv
        obtain ⟨hj, rfl⟩ := List.getElem?_eq_some_iff.1 hx1
        rw [add0]
        exact (hB2.cell (p := ⟨b, off + j, none⟩) hb).trans (hcell j hj))
      (by rw [hz60]; simp; omega) (by intro v hv; obtain ⟨x, _, rfl⟩ := List.mem_map.1 hv; rfl)
    rw [keyA_made (by omega) _ hz60, List.length_map, ← hlen] at this
    exact this
  have hB3 : Below w.heap.size w (W2.setRow (w.heap.size + 1) (keyA zs)) := below_setRow hB2 (by omega) _
  have hg4 : (W2.setRow (w.heap.size + 1) (keyA zs)).heap[w.heap.size + 1]? = some (.cells (keyA zs) 178 (0, 0)) := setRow_heap W2 _ _ _ _ _ hg3
  have hg5 : (W2.setRow (w.heap.size + 1) (keyA zs)).heap[w.heap.size]? = some (.cells #[.int .i64 0, .int .i64 0, .int .i64 0, .int .i64 0, .int .i64 0, .int .i64 0, .int .i64 0, .int .i64 0, .int .i64 0, .int .i64 0, .int .i64 0, .int .i64 0, .int .i64 0, .int .i64 0, .int .i64 0, .int .i64 0, .int .i64 0, .int .i64 0, .int .i64 0, .int .i64 0, .int .i64 0, .int .i64 0, .int .i64 0, .int .i64 0, .int .i64 0, .int .i64 0, .int .i64 0, .int .i64 0, .int .i64 0, .int .i64 0, .int .i64 0, .int .i64 0, .int .i64 0, .int .i64 0, .int .i64 0, .int .i64 0, .int .i64 0, .int .i64 0, .int .i64 0, .int .i64 0, .int .i64 0, .int .i64 0, .int .i64 0, .int .i64 0, .int .i64 0, .int .i64 0, .int .i64 0, .int .i64 0, .int .i64 0, .int .i64 0, .int .i64 0, .int .i64 0, .int .i64 0, .int .i64 0, .int .i64 0, .int .i64 0, .int .i64 0, .int .i64 0, .int .i64 0, .int .i64 0] 178 (0, 0)) := by
    rw [← hg2]
    exact setRow_other W2 _ _ _ (by omega)
  obtain ⟨W3, hW3⟩ : ∃ W3, W2.setRow (w.heap.size + 1) (keyA zs) = W3 := ⟨_, rfl⟩
  rw [hW3] at hcp hB3 hg4 hg5
  have hg6 : (W3.setRow w.heap.size (keyA zs)).heap[w.heap.size]? = some (.cells (keyA zs) 178 (0, 0)) := setRow_heap W3 _ _ _ _ _ hg5
  have hB4 : Below w.heap.size w (W3.setRow w.heap.size (keyA zs)) := below_setRow hB3 (Nat.le_refl _) _
  obtain ⟨W4, hW4⟩ : ∃ W4, W3.setRow w.heap.size (keyA zs) = W4 := ⟨_, rfl⟩
  rw [hW4] at hg6 hB4
  have HG4 := Lib.hid hg4
  have HG5 := Lib.hid hg5
  have HW4 := Lib.hid hW4
  have HZ := Lib.hid (show (#[.int .i64 0, .int .i64 0, .int .i64 0, .int .i64 0, .int .i64 0, .int .i64 0, .int .i64 0, .int .i64 0, .int .i64 0, .int .i64 0, .int .i64 0, .int .i64 0, .int .i64 0, .int .i64 0, .int .i64 0, .int .i64 0, .int .i64 0, .int .i64 0, .int .i64 0, .int .i64 0, .int .i64 0, .int .i64 0, .int .i64 0, .int .i64 0, .int .i64 0, .int .i64 0, .int .i64 0, .int .i64 0, .int .i64 0, .int .i64 0, .int .i64 0, .int .i64 0, .int .i64 0, .int .i64 0, .int .i64 0, .int .i64 0, .int .i64 0, .int .i64 0, .int .i64 0, .int .i64 0, .int .i64 0, .int .i64 0, .int .i64 0, .int .i64 0, .int .i64 0, .int .i64 0, .int .i64 0, .int .i64 0, .int .i64 0, .int .i64 0, .int .i64 0, .int .i64 0, .int .i64 0, .int .i64 0, .int .i64 0, .int .i64 0, .int .i64 0, .int .i64 0, .int .i64 0, .int .i64 0] : Array Value).size = (keyA zs).size by rw [hz60, hk60]; simp)
  clear hg2 hg3 hg4 hg5 hz60 hx hcell hlen hB2 hB3 hW3 hW4
  go_enter Try.func199, Try.ntmps199
  go_upto_region 3 with fail
  rename_i Qx Kx hKx
  refine wp_region_lit (l := [_, _]) ?_
  refine wpList_load_row rfl _ _ rfl (w.heap.size + 1) rfl _ _ _ _ HG4.out Try.underlying178 rfl (by rw [info_key, hk60]) ?_
  refine wpList_store_row rfl _ _ _ rfl w.heap.size (keyA zs) rfl rfl _ _ HG5.out (by rw [info_key, hk60]) HZ.out (keyA_one zs) ?_
  refine wpList_nil ?_
  show Kx _ _
  refine hKx _ _ ?_
  rw [HW4.out]
  clear hKx Kx
  go_wp2
  refine bodyPost_ret (v := .agg (keyA zs)) ?_ rfl ?_
  · exact results_cell_row (p := 2) rfl _ W4 w.heap.size _ _ _ _ rfl hg6 Try.underlying178 rfl (by rw [info_key, hk60])
  · exact ⟨rfl, hB4⟩

end Go.Proofs.Ytgbfccbnbgbknaa

/- A map from terms (as keys) to the numbers of their groups. -/
namespace Go.Proofs.Ytgbfccbnbgbknaa
open Go.RowKit Go.WideMaps

/-- A list that is a term by its signs, short enough to be a key. -/
def GoodK (ss : Sg) (zs : List Int) : Prop := scan ss 1 zs = some [] ∧ zs.length ≤ 60 ∧ ∀ z ∈ zs, -1000 ≤ z ∧ z ≤ 1000
theorem keyL_inj {ss : Sg} {a b : List Int} (ha : GoodK ss a) (hb : GoodK ss b) (h : keyL a = keyL b) : a = b := by
  have h1 := scan_append ss a 1 [] (List.replicate (60 - a.length) 0) ha.1
  have h2 := scan_append ss b 1 [] (List.replicate (60 - b.length) 0) hb.1
  have e : scan ss 1 (keyL a) = scan ss 1 (keyL b) := by rw [h]
  unfold keyL at e
  rw [h1, h2] at e
  have hl := congrArg List.length (Option.some.inj e)
  simp only [List.nil_append, List.length_replicate] at hl
  have la := ha.2.1
  have lb := hb.2.1
  have : a.length = b.length := by omega
  have t := congrArg (List.take a.length) h
  unfold keyL at t
  rw [List.take_left' rfl, List.take_left' this.symm] at t
  exact t
theorem keyL_num {ss : Sg} {a : List Int} (ha : GoodK ss a) : ∀ z ∈ keyL a, -1000 ≤ z ∧ z ≤ 1000 := by
  intro z hz
  unfold keyL at hz
  rcases List.mem_append.1 hz with h | h
  · exact ha.2.2 z h
  · have := List.eq_of_mem_replicate h
    omega

theorem mapM_some {α β : Type} (f : α → Option β) (g : α → β) : ∀ (l : List α), (∀ x ∈ l, f x = some (g x)) → l.mapM f = some (l.map g)
  | [], _ => rfl
  | x :: r, h => by
    rw [List.mapM_cons, h x (by simp), mapM_some f g r (fun y hy => h y (by simp [hy]))]
    rfl
theorem flatten_one {α β : Type} (g : α → β) : ∀ l : List α, (l.map fun x => [g x]).flatten = l.map g
  | [] => rfl
  | x :: r => by simp [flatten_one g r]
theorem key_law : KeyLaw Try.prog 178 := by
  refine deep_law_laid (by kernel_rfl) (m := 3) (by omega) ?_ ?_ ?_
  · exact of_decide_eq_true (by kernel_rfl)
  · kernel_rfl
  · rw [Try.underlying178]
theorem key_keyed : Maps.Keyed Try.prog 178 := Maps.Keyed.of_law key_law
/-- The key of a term. -/
def kkey (zs : List Int) : Lit := .string (keyBytes ((List.range 60).map fun i => Lit.int .i64 ((keyL zs).getD i 0)))
theorem keyOf_key {ss : Sg} {zs : List Int} (h : GoodK ss zs) : keyOf Try.prog 178 (.agg (keyA zs)) = some (kkey zs) := by
  have hkt : Try.prog.keyType 178 = true := by kernel_rfl
  have hc : Try.prog.cellsOf 178 = 60 := by kernel_rfl
  have hc1 : Try.prog.cellsOf 3 = 1 := by kernel_rfl
  obtain ⟨m, hm⟩ : ∃ m, Try.prog.types.size = m + 1 := by
    have : decide (0 < Try.prog.types.size) = true := by kernel_rfl
    exact ⟨Try.prog.types.size - 1, by have := of_decide_eq_true this; omega⟩
  have hu := Try.underlying178
  have hi := Try.underlying3
  have hsz := keyA_size h.2.1
  have hlen : (keyA zs).toList.length = 60 := by rw [Array.length_toList]; exact hsz
  have hnum := keyL_num h
  have hkl := keyL_len h.2.1
  unfold keyOf kkey
  rw [hu]
  simp only
  rw [if_pos (by rw [hkt]; simp [Value.formed, hu, hc, hsz]), hm]
  unfold Program.keyLits
  rw [hu]
  simp only [Value.cells]
  simp only [hlen, hc, hc1, if_true]
  rw [mapM_some _ (fun i => [Lit.int .i64 ((keyL zs).getD i 0)]) _ (fun i hi' => by
    have hi60 : i < 60 := List.mem_range.1 hi'
    have hget : ((keyA zs).toList.drop (i * 1)).take 1 = [Value.int .i64 ((keyL zs).getD i 0)] := by
      unfold keyA
      rw [Nat.mul_one, ← List.map_drop, ← List.map_take, List.drop_eq_getElem_cons (by omega), List.getD_eq_getElem?_getD, List.getElem?_eq_getElem (by omega)]
      rfl
    rw [hget]
    unfold Program.keyLits
    rw [hi]
    simp only
    have hz : -1000 ≤ (keyL zs).getD i 0 ∧ (keyL zs).getD i 0 ≤ 1000 := by
      rw [List.getD_eq_getElem?_getD, List.getElem?_eq_getElem (by omega)]
      exact hnum _ (List.getElem_mem _)
    rw [if_pos ⟨by trivial, WalkArith.wf_i64 (by omega)⟩])]
  rw [Option.map_some, flatten_one]
  rfl
theorem kkey_inj {ss : Sg} {a b : List Int} (ha : GoodK ss a) (hb : GoodK ss b) (h : kkey a = kkey b) : a = b := by
  have h1 := keyOf_key ha
  have h2 := keyOf_key hb
  rw [← h] at h2
  have e := Array.toList_inj.2 (Value.agg.inj (key_law.inj h1 h2))
  unfold keyA at e
  simp only at e
  refine keyL_inj ha hb ?_
  have : Function.Injective (Value.int .i64) := fun x y hxy => (Value.int.inj hxy).2
  exact (List.map_inj_right this).1 e

/-- Block bm is the map of the forms met, each with its number. -/
def KeyMap (ss : Sg) (w : World) (bm : Nat) (met : List (List Int)) : Prop :=
  (∀ x ∈ met, GoodK ss x) ∧ ∃ D : DataW Unit, w.ownsMap Try.prog 178 (plainElem Try.prog 3) bm met.length D ∧ (Maps.Tidy D ∧ Maps.size D = met.length) ∧ (∀ x, GoodK ss x → Maps.has D (kkey x) = met.contains x) ∧ ∀ x, GoodK ss x → met.contains x = true → D.atKey (kkey x) (.lit (.int .i64 0)) = .lit (.int .i64 (met.idxOf x : Int))
section
variable {ss : Sg} {w w' : World} {bm : Nat} {met : List (List Int)} {row : Option Nat} {x : List Int}
theorem KeyMap.made (ss : Sg) (w : World) : KeyMap ss (w.alloc (.map #[] 0)) w.heap.size [] := ⟨by simp, .map [], World.ownsMap_made _ _ _ _, ⟨Maps.tidy_empty, rfl⟩, fun _ _ => rfl, fun x _ h => by simp at h⟩
theorem KeyMap.lt (h : KeyMap ss w bm met) : bm < w.heap.size := by obtain ⟨_, D, h1, _⟩ := h; exact h1.lt
theorem KeyMap.isMap (h : KeyMap ss w bm met) : ∃ es c, w.heap[bm]? = some (.map es c) := by obtain ⟨_, D, ⟨es, c, h1, _⟩, _⟩ := h; exact ⟨es, c, h1⟩
theorem KeyMap.grown (h : KeyMap ss w bm met) (hg : w.grownBy w' row) (hr : some bm ≠ row) : KeyMap ss w' bm met := by
  obtain ⟨hg0, D, h1, h2⟩ := h
  exact ⟨hg0, D, h1.kept hg hr, h2⟩
theorem KeyMap.look (h : KeyMap ss w bm met) (hx : GoodK ss x) :
    ∃ c : Int, (Instr.lookup 176 (.map (some bm)) (.agg (keyA x)) true).run Try.prog w = .ok (.tuple #[.int .i64 c, .bool (met.contains x)]) w := by
  obtain ⟨_, D, h1, h2, h3, h4⟩ := h
  obtain ⟨v, ps, hrun, hv⟩ := h1.look_ok key_keyed Try.underlying176 (zeroInt w) (plainElem_int Try.underlying3 (by decide)) (key := .agg (keyA x)) (keyOf_key hx)
  obtain ⟨c, rfl, hc, _⟩ := plainElem_int_inv Try.underlying3 hv
  exact ⟨c, by rw [hrun, h3 x hx]⟩
theorem KeyMap.look1 (h : KeyMap ss w bm met) (hx : GoodK ss x) (hk : met.contains x = true) :
    (Instr.lookup 176 (.map (some bm)) (.agg (keyA x)) false).run Try.prog w = .ok (.int .i64 (met.idxOf x : Int)) w := by
  obtain ⟨_, D, h1, h2, h3, h4⟩ := h
  obtain ⟨v, ps, hrun, hv⟩ := h1.lookup key_keyed Try.underlying176 (zeroInt w) (plainElem_int Try.underlying3 (by decide)) (key := .agg (keyA x)) (keyOf_key hx)
  obtain ⟨c, rfl, hc, _⟩ := plainElem_int_inv Try.underlying3 hv
  rw [h4 x hx hk] at hc
  have hc' := hc.symm
  simp at hc'
  rw [hrun, hc'.1]
theorem KeyMap.put (h : KeyMap ss w bm met) (hx : GoodK ss x) (hc : met.contains x = false) (hn : met.length < 1000) :
    ∃ w', (Instr.mapUpdate 176 (.map (some bm)) (.agg (keyA x)) (.int .i64 (met.length : Int))).run Try.prog w = .ok () w' ∧ KeyMap ss w' bm (met ++ [x]) ∧ w.grownBy w' (some bm) := by
  obtain ⟨hg0, D, h1, ⟨h2, h2s⟩, h3, h4⟩ := h
  obtain ⟨w', hrun, hown, hg⟩ := h1.update key_keyed Try.underlying176 (by unfold maxLen; omega) (key := .agg (keyA x)) (val := .int .i64 (met.length : Int)) (keyOf_key hx) (plainElem_int Try.underlying3 (WalkArith.wf_i64 (by omega)))
  have hkl : WideAt.IsKeyLit (kkey x) := by trivial
  have hmem : x ∉ met := by
    intro hm
    have := List.contains_iff_mem.2 hm
    rw [hc] at this
    cases this
  refine ⟨w', hrun, ⟨fun y hy => ?_, _, by simpa using hown, ⟨h2.put hkl _, by rw [Maps.size_put h2, h3 x hx, hc]; simp [h2s]⟩, fun y hy => ?_, fun y hy hyc => ?_⟩, hg⟩
  · rcases List.mem_append.1 hy with hy | hy
    · exact hg0 y hy
    · obtain rfl := List.mem_singleton.1 hy
      exact hx
  · by_cases e : y = x
    · subst e
      rw [Maps.has_put_same h2.isMap hkl]
      simp
    · rw [Maps.has_put_other (fun e2 => e (kkey_inj hy hx e2)), h3 y hy]
      simp [e]
  · by_cases e : y = x
    · subst e
      rw [Maps.atKey_put_same h2.isMap hkl, List.idxOf_append, if_neg hmem]
      simp
    · have hy1 : met.contains y = true := by
        have := List.contains_iff_mem.1 hyc
        rcases List.mem_append.1 this with hm | hm
        · exact List.contains_iff_mem.2 hm
        · exact absurd (List.mem_singleton.1 hm) e
      rw [Maps.atKey_put_other (fun e2 => e (kkey_inj hy hx e2)), h4 y hy hy1, List.idxOf_append, if_pos (List.contains_iff_mem.1 hy1)]
end

end Go.Proofs.Ytgbfccbnbgbknaa

/- A row of rows of numbers, each of which grows. -/
namespace Go.Proofs.Ytgbfccbnbgbknaa
open Go.RowKit

theorem snoc_get {α : Type} {l : List α} {x y : α} {j : Nat} (h : (l ++ [x])[j]? = some y) : (j < l.length ∧ l[j]? = some y) ∨ (j = l.length ∧ y = x) := by
  by_cases hj : j < l.length
  · rw [List.getElem?_append_left hj] at h
    exact .inl ⟨hj, h⟩
  · rw [List.getElem?_append_right (by omega)] at h
    have : j - l.length = 0 := by
      cases e : j - l.length with
      | zero => rfl
      | succ n => rw [e] at h; simp at h
    rw [this] at h
    simp at h
    exact .inr ⟨by omega, h.symm⟩
theorem set_get {α : Type} {l : List α} {x y : α} {k j : Nat} (h : (l.set k x)[j]? = some y) : (j = k ∧ y = x) ∨ (j ≠ k ∧ l[j]? = some y) := by
  rw [List.getElem?_set] at h
  by_cases e : k = j
  · rw [if_pos e] at h
    split at h
    · exact .inl ⟨e.symm, (Option.some.inj h).symm⟩
    · cases h
  · rw [if_neg e] at h
    exact .inr ⟨fun e' => e e'.symm, h⟩

theorem snoc_set {α : Type} {l : List α} {x y : α} {m : Nat} (h : l.length = m) : (l ++ [x]).set m y = l ++ [y] := by
  subst h
  rw [List.set_append_right _ _ (Nat.le_refl _), Nat.sub_self]
  rfl

/-- A row of the call's own, of rows of the call's own: no two share a block. -/
structure GRow (w : World) (base : Nat) (v : Value) (m : Nat) (hs : List Hd) (gg : List (List Int)) : Prop where
  row : w.ownsRow base 24 1 v m (hs.map Hd.val)
  len : gg.length = m
  each : ∀ (j : Nat) (x : Hd) (g : List Int), hs[j]? = some x → gg[j]? = some g → w.ownsRow base 3 1 x.val g.length (g.map (Value.int .i64))
  ne : ∀ (j : Nat) (x : Hd), hs[j]? = some x → ∀ b, x.val.ownBlock = some b → v.ownBlock ≠ some b
  ne2 : ∀ (j k : Nat) (x y : Hd), hs[j]? = some x → hs[k]? = some y → j ≠ k → ∀ b, x.val.ownBlock = some b → y.val.ownBlock ≠ some b
section
variable {w w' : World} {base m : Nat} {v : Value} {hs : List Hd} {gg : List (List Int)}
theorem GRow.ll (h : GRow w base v m hs gg) : hs.length = m := by
  have := h.row.1
  simpa using this
theorem GRow.gAt (h : GRow w base v m hs gg) {j : Nat} {x : Hd} (hx : hs[j]? = some x) : ∃ g, gg[j]? = some g := by
  obtain ⟨hj, _⟩ := List.getElem?_eq_some_iff.1 hx
  have hl := h.ll
  have hlen := h.len
  exact ⟨gg[j]'(by omega), List.getElem?_eq_getElem _⟩
theorem GRow.hAt (h : GRow w base v m hs gg) {j : Nat} (hj : j < m) : ∃ x g, hs[j]? = some x ∧ gg[j]? = some g := by
  have hl := h.ll
  have hlen := h.len
  exact ⟨hs[j]'(by omega), gg[j]'(by omega), List.getElem?_eq_getElem _, List.getElem?_eq_getElem _⟩
theorem GRow.start {w : World} {base : Nat} {v : Value} (h : w.ownsRow base 24 1 v 0 []) : GRow w base v 0 [] [] :=
  ⟨h, rfl, fun j x g hj => by simp at hj, fun j x hj => by simp at hj, fun j k x y hj => by simp at hj⟩
theorem GRow.kept {r : Option Nat} (h : GRow w base v m hs gg) (hg : w.grownBy w' r) (h1 : v.ownBlock = none ∨ v.ownBlock ≠ r) (h2 : ∀ (j : Nat) (x : Hd), hs[j]? = some x → x.val.ownBlock = none ∨ x.val.ownBlock ≠ r) : GRow w' base v m hs gg :=
  ⟨h.row.kept hg h1, h.len, fun j x g a b => (h.each j x g a b).kept hg (h2 j x a), h.ne, h.ne2⟩
theorem GRow.below (h : GRow w base v m hs gg) (hb : Below w.heap.size w w') : GRow w' base v m hs gg := by
  refine h.kept (grown_of_below hb) ?_ fun j x hj => ?_
  · cases v.ownBlock with
    | none => exact .inl rfl
    | some g => exact .inr (by simp)
  · cases x.val.ownBlock with
    | none => exact .inl rfl
    | some g => exact .inr (by simp)
/-- The blocks of the rows hold cells. -/
theorem own_cells {e : TypeId} {size n : Nat} {xs : List Value} (h : w.ownsRow base e size v n xs) {b : Nat} (hb : v.ownBlock = some b) : ∃ cs, w.heap[b]? = some (.cells cs e (0, 0)) := by
  rcases h.2 with ⟨rfl, _⟩ | ⟨g, cap, cur, rfl, _, hg, _⟩
  · simp [Value.ownBlock] at hb
  · simp [Value.ownBlock] at hb
    subst hb
    exact ⟨cur, hg⟩
/-- No block of theirs is a map's. -/
theorem GRow.no_map {bm c : Nat} {es : Array MapEntry} (h : GRow w base v m hs gg) (hm : w.heap[bm]? = some (.map es c)) : v.ownBlock ≠ some bm ∧ ∀ (j : Nat) (x : Hd), hs[j]? = some x → x.val.ownBlock ≠ some bm := by
  refine ⟨fun hv => ?_, fun j x hj hv => ?_⟩
  · obtain ⟨cs, hc⟩ := own_cells h.row hv
    rw [hm] at hc
    cases hc
  · obtain ⟨g, hg⟩ := h.gAt hj
    obtain ⟨cs, hc⟩ := own_cells (h.each j x g hj hg) hv
    rw [hm] at hc
    cases hc
/-- A map grew. -/
theorem GRow.mapped {bm c : Nat} {es : Array MapEntry} (h : GRow w base v m hs gg) (hm : w.heap[bm]? = some (.map es c)) (hg : w.grownBy w' (some bm)) : GRow w' base v m hs gg :=
  h.kept hg (.inr (h.no_map hm).1) fun j x hj => .inr ((h.no_map hm).2 j x hj)
/-- An empty row more. -/
theorem GRow.push {v' : Value} (h : GRow w base v m hs gg) (hown : w'.ownsRow base 24 1 v' (m + 1) (hs.map Hd.val ++ [.slice none 0 0])) (hg : w.grownBy w' v.ownBlock) (ho : v'.ownBlock = v.ownBlock ∨ v'.ownBlock = some w.heap.size) :
    GRow w' base v' (m + 1) (hs ++ [(none, 0, 0)]) (gg ++ [[]]) := by
  have hll := h.ll
  have hlen := h.len
  refine ⟨by simpa [Hd.val] using hown, by simp [hlen], fun j x g hx hg' => ?_, fun j x hx b hb => ?_, fun j k x y hx hy hjk b hb => ?_⟩
  · rcases snoc_get hx with ⟨hj, hx⟩ | ⟨hj, rfl⟩
    · rcases snoc_get hg' with ⟨_, hg'⟩ | ⟨hj', _⟩
      · refine (h.each j x g hx hg').kept hg ?_
        cases hv : x.val.ownBlock with
        | none => exact .inl rfl
        | some b => exact .inr fun e => h.ne j x hx b hv e.symm
      · omega
    · rcases snoc_get hg' with ⟨hj', _⟩ | ⟨_, rfl⟩
      · omega
      · exact World.ownsRow_nil _ _ _ _
  · rcases snoc_get hx with ⟨hj, hx⟩ | ⟨hj, rfl⟩
    · rcases ho with ho | ho
      · rw [ho]; exact h.ne j x hx b hb
      · rw [ho]
        intro e
        cases e
        obtain ⟨g, hg'⟩ := h.gAt hx
        have := ((h.each j x g hx hg').lt _ hb).2
        omega
    · simp [Hd.val, Value.ownBlock] at hb
  · rcases snoc_get hx with ⟨hj, hx⟩ | ⟨hj, rfl⟩
    · rcases snoc_get hy with ⟨hk, hy⟩ | ⟨hk, rfl⟩
      · exact h.ne2 j k x y hx hy hjk b hb
      · simp [Hd.val, Value.ownBlock]
    · simp [Hd.val, Value.ownBlock] at hb
/-- One of the rows grew, and its header is stored in its place. -/
theorem GRow.app {k gb cap : Nat} {x y : Hd} {g : List Int} {i : Int} (h : GRow w base (.slice (some ⟨gb, 0, none⟩) m cap) m hs gg) (hx : hs[k]? = some x) (hgk : gg[k]? = some g)
    (hown : w'.ownsRow base 3 1 y.val (g.length + 1) (g.map (Value.int .i64) ++ [.int .i64 i])) (hg : w.grownBy w' x.val.ownBlock) (ho : y.val.ownBlock = x.val.ownBlock ∨ y.val.ownBlock = some w.heap.size) :
    GRow (w'.setCell ⟨gb, k, none⟩ y.val) base (.slice (some ⟨gb, 0, none⟩) m cap) m (hs.set k y) (gg.set k (g ++ [i])) := by
  obtain ⟨hk, _⟩ := List.getElem?_eq_some_iff.1 hx
  have hvb : Value.ownBlock (.slice (some ⟨gb, 0, none⟩) m cap) = some gb := rfl
  have hrow : w'.ownsRow base 24 1 (.slice (some ⟨gb, 0, none⟩) m cap) m (hs.map Hd.val) := by
    refine h.row.kept hg (.inr ?_)
    intro e
    exact h.ne k x hx gb (by rw [← e, hvb]) hvb
  have hgb : gb < w.heap.size := (h.row.lt gb hvb).2
  have hyg : ∀ b, y.val.ownBlock = some b → b ≠ gb := by
    intro b hb e
    subst e
    rcases ho with ho | ho
    · rw [hb] at ho
      exact h.ne k x hx b ho.symm hvb
    · rw [hb] at ho
      cases ho
      omega
  have hst := hrow.stored k y.val
  refine ⟨by rw [List.map_set]; exact hst.1, by rw [List.length_set]; exact h.len, fun j z q hz hq => ?_, fun j z hz b hb => ?_, fun j l z u hz hu hjl b hb => ?_⟩
  · rcases set_get hz with ⟨rfl, rfl⟩ | ⟨hne, hz⟩
    · rcases set_get hq with ⟨_, rfl⟩ | ⟨hne, _⟩
      · rw [List.length_append, List.map_append]
        refine World.ownsRow.kept hown hst.2 ?_
        cases hv : z.val.ownBlock with
        | none => exact .inl rfl
        | some b => exact .inr fun e => hyg b hv (Option.some.inj e)
      · exact absurd rfl hne
    · rcases set_get hq with ⟨e, _⟩ | ⟨_, hq⟩
      · exact absurd e hne
      · refine ((h.each j z q hz hq).kept hg ?_).kept hst.2 ?_
        · cases hv : z.val.ownBlock with
          | none => exact .inl rfl
          | some b => exact .inr fun e => h.ne2 j k z x hz hx hne b hv e.symm
        · cases hv : z.val.ownBlock with
          | none => exact .inl rfl
          | some b => exact .inr fun e => h.ne j z hz b hv (by rw [hvb]; exact e.symm)
  · rcases set_get hz with ⟨_, rfl⟩ | ⟨hne, hz⟩
    · rw [hvb]
      intro e
      exact hyg b hb (Option.some.inj e).symm
    · exact h.ne j z hz b hb
  · rcases set_get hz with ⟨ejk, rfl⟩ | ⟨hne, hz0⟩
    · rcases set_get hu with ⟨elk, _⟩ | ⟨hne', hu⟩
      · omega
      · rcases ho with ho | ho
        · rw [hb] at ho
          exact h.ne2 k l x u hx hu (fun e => hne' e.symm) b ho.symm
        · rw [hb] at ho
          cases ho
          intro e
          obtain ⟨q, hq⟩ := h.gAt hu
          have := ((h.each l u q hu hq).lt _ e).2
          omega
    · rcases set_get hu with ⟨elk, rfl⟩ | ⟨hne', hu⟩
      · intro e
        rcases ho with ho | ho
        · rw [e] at ho
          exact h.ne2 k j x z hx hz0 (fun e => hne e.symm) b ho.symm hb
        · rw [e] at ho
          cases ho
          obtain ⟨q, hq⟩ := h.gAt hz0
          have := ((h.each j z q hz0 hq).lt _ hb).2
          omega
      · exact h.ne2 j l z u hz0 hu hjl b hb
end

end Go.Proofs.Ytgbfccbnbgbknaa

/- Contract: grouped, whatever the form. -/
namespace Go.Proofs.Ytgbfccbnbgbknaa
open Go.RowKit

/-- The forms met among the first k statements, and the groups. -/
def grpS (fs : Nat → List Int) : Nat → List (List Int) × List (List Int)
  | 0 => ([], [])
  | k + 1 => if (grpS fs k).1.contains (fs k) = true then ((grpS fs k).1, (grpS fs k).2.set ((grpS fs k).1.idxOf (fs k)) ((grpS fs k).2.getD ((grpS fs k).1.idxOf (fs k)) [] ++ [(k : Int)]))
    else ((grpS fs k).1 ++ [fs k], (grpS fs k).2 ++ [[(k : Int)]])
theorem grpS_old {fs : Nat → List Int} {k : Nat} (h : (grpS fs k).1.contains (fs k) = true) : grpS fs (k + 1) = ((grpS fs k).1, (grpS fs k).2.set ((grpS fs k).1.idxOf (fs k)) ((grpS fs k).2.getD ((grpS fs k).1.idxOf (fs k)) [] ++ [(k : Int)])) := by
  show (if _ then _ else _) = _
  rw [if_pos h]
theorem grpS_new {fs : Nat → List Int} {k : Nat} (h : (grpS fs k).1.contains (fs k) = false) : grpS fs (k + 1) = ((grpS fs k).1 ++ [fs k], (grpS fs k).2 ++ [[(k : Int)]]) := by
  show (if _ then _ else _) = _
  rw [if_neg (by rw [h]; simp)]
theorem grpS_len (fs : Nat → List Int) : ∀ k, (grpS fs k).1.length = (grpS fs k).2.length ∧ (grpS fs k).2.length ≤ k
  | 0 => ⟨rfl, Nat.le_refl _⟩
  | k + 1 => by
    obtain ⟨h1, h2⟩ := grpS_len fs k
    cases h : (grpS fs k).1.contains (fs k)
    · rw [grpS_new h]
      simp only [List.length_append, List.length_singleton]
      omega
    · rw [grpS_old h]
      simp only [List.length_set]
      omega

theorem grpS_each (fs : Nat → List Int) : ∀ (k j : Nat) (g : List Int), (grpS fs k).2[j]? = some g → g.length ≤ k
  | 0, j, g, h => by simp [grpS] at h
  | k + 1, j, g, h => by
    cases hq : (grpS fs k).1.contains (fs k)
    · rw [grpS_new hq] at h
      rcases snoc_get h with ⟨_, h⟩ | ⟨_, rfl⟩
      · have := grpS_each fs k j g h; omega
      · simp
    · rw [grpS_old hq] at h
      rcases set_get h with ⟨_, rfl⟩ | ⟨_, h⟩
      · rw [List.length_append, List.length_singleton, List.getD_eq_getElem?_getD]
        cases he : (grpS fs k).2[(grpS fs k).1.idxOf (fs k)]? with
        | none => simp
        | some y => have := grpS_each fs k _ y he; simp; omega
      · have := grpS_each fs k j g h; omega
theorem info_ints5 : (Try.prog.info? 24).map (fun i => (i.zero, i.size, i.bytes)) = some (some (.slice none 0 0), 1, 24) := by kernel_rfl

section
variable {ops : Array Oper} {rest : List Oper} {o : Oper} {a : Act} {w : World} {Q : Exit → Act → World → Prop}
theorem wpList_load_key (hgd : o.guard = none) (x : Operand) (ho : o.op = .load 178 x) (g : Nat) (cs : Array Value) (hx : a.eval x = .pointer (some ⟨g, 0, none⟩)) (hg : Blk w g 178 cs) (hs : cs.size = 60)
    (h : wpList Try.prog ops Q rest (a.put o.dst (.agg cs)) w) : wpList Try.prog ops Q (o :: rest) a w :=
  wpList_load_row hgd _ x ho g hx _ _ _ _ hg Try.underlying178 rfl (by rw [info_key, hs]) h
theorem wpList_store_key (hgd : o.guard = none) (x y : Operand) (ho : o.op = .store 178 x y) (cs old : Array Value) (hx : a.eval x = .pointer (some ⟨w.heap.size, 0, none⟩)) (hy : a.eval y = .agg cs) (hs : cs.size = 60) (hold : old.size = 60) (h1 : cs.all (·.oneCell') = true)
    (h : wpList Try.prog ops Q rest (a.put o.dst undef) (w.alloc (.cells cs 178))) : wpList Try.prog ops Q (o :: rest) a (w.alloc (.cells old 178)) := by
  refine wpList_store_row hgd _ x y ho w.heap.size cs hx hy _ old (heap_alloc_new w _) (by rw [info_key, hs]) (by rw [hold, hs]) h1 ?_
  rw [World.setRow_alloc_new]
  exact h
end

/-- What a form makes of the statements of a list. -/
def Forms (As : Option Addr) (ns cs : Nat) (g : Nat) (ls : List Hd) (fs : Nat → List Int) (B : Nat) (w : World) : Prop :=
  ∀ (W : World) (k : Nat) (A : Option Addr) (n c : Nat), Below B w W → ls[k]? = some (A, n, c) → Calls Try.prog g #[.slice As ns cs, .slice A n c] W fun e w' => ∃ A' n' c', e = .returned (.tuple #[.slice A' n' c', .int .i64 0]) ∧ IntsAt w' w'.heap.size A' n' (fs k) ∧ Below W.heap.size W w'

set_option maxRecDepth 100000 in
set_option maxHeartbeats 4000000 in
theorem grouped_any (g : Nat) (eg : ∀ args w, (callFunc g args).run Try.prog w = .ok (.enter g args) w) (As At : Option Addr) (ns cs n c : Nat) (ss : Sg) (ls : List Hd) (tt : List (List Int)) (fs : Nat → List Int) (w : World)
    (hs : SigAt w w.heap.size As ns ss) (ht : TermsAt w w.heap.size At n ls tt) (hv : shOk ss tt = true) (hf : Forms As ns cs g ls fs w.heap.size w) (hgd : ∀ k, k < n → GoodK ss (fs k) ∧ 1 ≤ (fs k).length) :
    Calls Try.prog 153 #[.slice As ns cs, .slice At n c, .func (.func g) #[] #[]] w fun e w' => ∃ A m c' hs', e = .returned (.tuple #[.slice A m c', .int .i64 0]) ∧ GRow w' w.heap.size (.slice A m c') m hs' (grpS fs n).2 ∧ Below w.heap.size w w' := by
  have hmm := @run_makeMap Try.prog
  obtain ⟨i0, hi, hz0, hz1, hz2⟩ := info_parts info_int
  obtain ⟨i1, hj, hy0, hy1, hy2⟩ := info_parts info_ints5
  have htl := ht.len
  have hsl := shOk_len hv
  have C1 := Lib.hid (fvalid_any As At ns cs n c ss ls tt w hs ht (by omega))
  rw [hv] at C1
  have hn : n ≤ 60 := by omega
  have HF := Lib.hid hf
  have HT := Lib.hid ht.hds
  have HGD := Lib.hid hgd
  clear hs ht hv hf hgd htl hsl
  go_enter Try.func153, Try.ntmps153
  go_wp2_with (go_at_call 59; refine C1.out.mono ?_; rintro e w1 ⟨rfl, hB1⟩; have HB1 := Lib.hid hB1; clear hB1)
  clear hmm
  have HB2 := Lib.hid (bel_al (bel_al HB1.out (.cells #[] 24)) (.map #[] 0))
  have HG0 := Lib.hid (GRow.start (World.ownsRow.alloc (World.ownsRow_lit (e := 24) (size := 1) w1 #[] 0 HB1.out.size (by unfold maxLen; omega) rfl) (.map #[] 0)))
  have HK0 := Lib.hid (KeyMap.made ss (w1.alloc (.cells #[] 24)))
  obtain ⟨bm, hbm⟩ : ∃ bm, w1.heap.size + 1 = bm := ⟨_, rfl⟩
  rw [hbm]
  have HBM := Lib.hid hbm
  clear hbm
  go_loopw [8, 26] (fun v i wr => ∃ (k : Nat) (Av : Option Addr) (cv : Nat) (hs : List Hd), k ≤ n ∧ i = .int .i64 k ∧ v = .slice Av (grpS fs k).2.length cv ∧ GRow wr w.heap.size (.slice Av (grpS fs k).2.length cv) (grpS fs k).2.length hs (grpS fs k).2 ∧ KeyMap ss wr bm (grpS fs k).1 ∧ Below w.heap.size w wr) (fun _ i _ => n - (intOf i).toNat)
  case atStart => exact ⟨0, some ⟨w1.heap.size, 0, none⟩, 0, [], Nat.zero_le _, rfl, rfl, HG0.out, by have := HK0.out; rw [World.size_alloc, HBM.out] at this; exact this, HB2.out⟩
  case round =>
    obtain ⟨k, Av, cv, hs, hk, rfl, rfl, hG, hK, hB⟩ := hrel
    by_cases hlt : k < n
    · obtain ⟨b, off, A', n', c', rfl, hb, q1, q2⟩ := HT.out.cellAt hlt
      have q3 := (hB.cell (p := ⟨b, off + k, none⟩) hb).trans q1
      have hk0 : (0 : Int) ≤ (k : Int) := by omega
      have hk1 : (k : Int) < (n : Int) := by omega
      have CF := Lib.hid (HF.out wr k A' n' c' hB q2)
      obtain ⟨hgk, hf1⟩ := HGD.out k hlt
      have hf60 := hgk.2.1
      have HK60 := Lib.hid (keyA_size hf60)
      have HK1 := Lib.hid (keyA_one (fs k))
      have HGK := Lib.hid hgk
      obtain ⟨hlen1, hlen2⟩ := grpS_len fs k
      have HB := Lib.hid hB
      have HG := Lib.hid hG
      have HK := Lib.hid hK
      have hml : (grpS fs k).2.length ≤ 60 := by omega
      clear hB hG hK q1 q2 hgk hb
      obtain ⟨m, hm⟩ : ∃ m, (grpS fs k).2.length = m := ⟨_, rfl⟩
      rw [hm] at hml hlen1 hlen2 HG
      rw [hm]
      have HM := Lib.hid hm
      go_upto_region 10 with (first
        | (go_at_fn g; refine CF.out.mono ?_; rintro e w2 ⟨A2, n2, c2, rfl, hI2, hB2'⟩; have HI2 := Lib.hid hI2; have HB3 := Lib.hid hB2'; clear hI2 hB2')
        | (go_at_call 199; refine (keyed_any A2 n2 c2 (fs k) w2 HI2.out (by have := HI2.out.len; omega) (by have := HI2.out.len; omega)).mono ?_; rintro e w3 ⟨rfl, hB4⟩; have HB4 := Lib.hid (below_then HB3.out hB4); clear hB4)
        | (refine wpList_store_key rfl _ _ rfl (keyA (fs k)) _ rfl rfl HK60.out rfl HK1.out ?_))
      obtain ⟨W4, hW4⟩ : ∃ W4, w3.alloc (.cells (keyA (fs k)) 178) = W4 := ⟨_, rfl⟩
      rw [hW4]
      have hB5 : Below wr.heap.size wr W4 := by rw [← hW4]; exact bel_al HB4.out _
      have HKB := Lib.hid (show Blk W4 w3.heap.size 178 (keyA (fs k)) by rw [← hW4]; exact Blk.new _ _ _)
      have HG4 := Lib.hid (HG.out.below hB5)
      have HK4 := Lib.hid (HK.out.grown (grown_of_below hB5) (by simp))
      have HB6 := Lib.hid (below_then HB.out hB5)
      clear hW4 hB5
      cases hq : (grpS fs k).1.contains (fs k)
      · obtain ⟨cq, hlk⟩ := HK4.out.look HGK.out
        rw [hq] at hlk
        obtain ⟨W5, hup, hK5, hg5⟩ := HK4.out.put HGK.out hq (by omega)
        rw [hlen1] at hup
        obtain ⟨es4, cl4, hm4⟩ := HK4.out.isMap
        have HG5 := Lib.hid (HG4.out.mapped hm4 hg5)
        have HK5 := Lib.hid hK5
        have HB7 := Lib.hid (HB6.out.grown hg5 HB6.out.size (fun j e => by cases e; rw [← HBM.out]; have := HB1.out.size; omega))
        have HKB5 := Lib.hid (HKB.out.grown hg5 (by intro e; cases e; have := HKB.out; unfold Blk at this; rw [hm4] at this; cases this))
        have HQ := Lib.hid hq
        clear hK5 hg5 hm4 hq
        go_upto_region 14 with (first
          | (refine wpList_load_key rfl _ rfl w3.heap.size (keyA (fs k)) rfl HKB.out HK60.out ?_)
          | (at_builtin
             refine wpList_append_own_at _ rfl _ _ 56 rfl w.heap.size 24 i1 _ 1 24 Try.underlying56 hj hy0 hy1 hy2 rfl (by omega) _ _ _ rfl (HG5.out.row.alloc _) ⟨W5.heap.size, 0, none⟩ 1 1 [.slice none 0 0] rfl rfl
               (World.news_of_block (cs := #[.slice none 0 0]) (t := 24) (fr := (0, 0)) (heap_alloc_new W5 _)) (by simp [Value.oneCell']) (by unfold maxLen; omega) (by omega) (by have := HB7.out.size; simp; omega) ?_
             intro v6 W6 hown6 hg6 _ ho6
             have HG6 := Lib.hid (GRow.push (HG5.out.below (bel_al (Below.refl W5.heap.size W5) (.cells #[.slice none 0 0] 24))) hown6 hg6 ho6)
             have hKV := HK5.out.grown (World.grownBy_alloc W5 (.cells #[.slice none 0 0] 24) none) (by simp)
             obtain ⟨es6, cl6, hm6⟩ := hKV.isMap
             have HK6 := Lib.hid (hKV.grown hg6 (by
               intro e
               exact ((HG5.out.below (bel_al (Below.refl W5.heap.size W5) (.cells #[.slice none 0 0] 24))).no_map hm6).1 e.symm))
             have HB8 := Lib.hid ((HB7.out.alloc HB7.out.size (.cells #[.slice none 0 0] 24)).grown hg6 (by have := HB7.out.size; simp; omega) (fun j e => (HG5.out.row.lt j e).1))
             have HKB6 := Lib.hid ((HKB5.out.alloc (.cells #[.slice none 0 0] 24)).grown hg6 (by
               intro e
               have h1 := (HG5.out.row.alloc (.cells #[.slice none 0 0] 24))
               obtain ⟨cs9, h2⟩ := own_cells h1 e.symm
               have h3 := HKB5.out.alloc (.cells #[.slice none 0 0] 24)
               unfold Blk at h3
               rw [h2] at h3
               simp at h3))
             obtain ⟨g6, cap6, hv6, _⟩ := hown6.form (by omega)
             subst hv6
             clear hown6 hg6 ho6 hKV hm6))
        have hlk2 := HK6.out.look1 HGK.out (by simp)
        have hidx : ((grpS fs k).1 ++ [fs k]).idxOf (fs k) = m := by
          rw [List.idxOf_append, if_neg (fun h => by have := List.contains_iff_mem.2 h; rw [HQ.out] at this; cases this)]
          simp [hlen1]
        rw [hidx] at hlk2
        clear hidx hlk hup
        obtain ⟨g, hg⟩ : ∃ g : List Int, g = [] := ⟨_, rfl⟩
        obtain ⟨xa, xn, xc, hx⟩ : ∃ xa xn xc, (hs ++ [((none, 0, 0) : Hd)])[m]? = some (xa, xn, xc) := ⟨none, 0, 0, by rw [List.getElem?_append_right (by rw [HG5.out.ll]; omega), HG5.out.ll]; simp⟩
        have HX := Lib.hid hx
        have HGJ := Lib.hid (show ((grpS fs k).2 ++ [[]])[m]? = some g by rw [List.getElem?_append_right (by rw [HM.out]; omega), HM.out, hg]; simp)
        have HGL := Lib.hid (show g.length ≤ k by rw [hg]; simp)
        have HSN : Hid (((grpS fs k).2 ++ [([] : List Int)]).set m (g ++ [(k : Int)]) = (grpS fs k).2 ++ [[(k : Int)]]) := Lib.hid (by rw [hg, snoc_set HM.out]; rfl)
        clear hx hg
        have cgb := (HG6.out.row.cellAt m (by omega)).trans (show ((hs ++ [((none, 0, 0) : Hd)]).map Hd.val)[m]? = some (.slice xa xn xc) by rw [List.getElem?_map, HX.out]; rfl)
        have hrowg := HG6.out.each m (xa, xn, xc) g HX.out HGJ.out
        have hgl : g.length ≤ k := HGL.out
        have hj0 : (0 : Int) ≤ ((m : Nat) : Int) := by omega
        have hjm : ((m : Nat) : Int) < (((m + 1) : Nat) : Int) := by omega
        have HROWG := Lib.hid hrowg
        clear hrowg
        go_wp2_with (first
          | (refine wpList_load_key rfl _ rfl w3.heap.size (keyA (fs k)) rfl HKB6.out HK60.out ?_)
          | (at_builtin
             go_loud (refine wpList_append_own_at _ rfl _ _ 24 rfl w.heap.size 3 i0 _ 1 8 Try.underlying24 hi hz0 hz1 hz2 rfl (by omega) _ _ _ rfl (HROWG.out.alloc _) ⟨W6.heap.size, 0, none⟩ 1 1 [.int .i64 k] rfl rfl (World.news_of_block (cs := #[.int .i64 k]) (t := 3) (fr := (0, 0)) (heap_alloc_new W6 _)) (by simp [Value.oneCell']) (by have := HGL.out; unfold maxLen; omega) (by have := HGL.out; omega) (by have := HB8.out.size; simp; omega) ?_)
             intro v1 w7 hown1 hg1 _ ho1
             obtain ⟨g1, cap1, hv1, _⟩ := hown1.form (by omega)
             subst hv1
             have hGV := HG6.out.below (bel_al (Below.refl W6.heap.size W6) (.cells #[.int .i64 k] 3))
             have hKV := HK6.out.grown (World.grownBy_alloc W6 (.cells #[.int .i64 k] 3) none) (by simp)
             have hmapV := hKV.isMap
             have hrow7 := hGV.row.kept hg1 (.inr (fun e => hGV.ne m _ HX.out g6 e.symm rfl))
             have c7 := (hrow7.cellAt m (by omega)).trans (show ((hs ++ [((none, 0, 0) : Hd)]).map Hd.val)[m]? = some (.slice xa xn xc) by rw [List.getElem?_map, HX.out]; rfl)
             have f7 := hrow7.frozenAt m
             have HGR7 := Lib.hid (GRow.app (y := (some ⟨g1, 0, none⟩, g.length + 1, cap1)) (i := (k : Int)) hGV HX.out HGJ.out hown1 hg1 ho1)
             obtain ⟨es7, cl7, hm7⟩ := hmapV
             have hK7 := hKV.grown hg1 (by
               intro e
               exact (hGV.no_map hm7).2 m _ HX.out e.symm)
             have HK8 := Lib.hid (hK7.grown (hrow7.stored m (.slice (some ⟨g1, 0, none⟩) (g.length + 1) cap1)).2 (by
               intro e
               exact (hGV.no_map hm7).1 e.symm))
             have HB9 := Lib.hid (((HB8.out.alloc HB8.out.size (.cells #[.int .i64 k] 3)).grown hg1 (by have := HB8.out.size; simp; omega) (fun j e => (HROWG.out.lt j e).1)).setCell (p := ⟨g6, m, none⟩) (show w.heap.size ≤ g6 from (hGV.row.lt g6 rfl).1) (.slice (some ⟨g1, 0, none⟩) (g.length + 1) cap1))
             clear hown1 hg1 ho1 hGV hKV hm7 hrow7 hK7))
        go_roundw
        case rel => exact ⟨k + 1, some ⟨g6, 0, none⟩, cap6, _, by omega, by go_num, by rw [grpS_new HQ.out, List.length_append, HM.out]; rfl, by have := HGR7.out; rw [HSN.out] at this; rw [grpS_new HQ.out]; simp only [List.length_append, HM.out, List.length_singleton]; exact this, by rw [grpS_new HQ.out]; exact HK8.out, HB9.out⟩
        case measure => simp [intOf]; omega
      · obtain ⟨cq, hlk⟩ := HK4.out.look HGK.out
        rw [hq] at hlk
        have hlk2 := HK4.out.look1 HGK.out hq
        have hjlt : (grpS fs k).1.idxOf (fs k) < m := by rw [← hlen1]; exact List.idxOf_lt_length_iff.2 (List.contains_iff_mem.1 hq)
        obtain ⟨j, hj0⟩ : ∃ j, (grpS fs k).1.idxOf (fs k) = j := ⟨_, rfl⟩
        rw [hj0] at hlk2 hjlt
        obtain ⟨x, g, hx, hg⟩ := HG4.out.hAt hjlt
        obtain ⟨xa, xn, xc⟩ := x
        have HX := Lib.hid hx
        have HGJ := Lib.hid hg
        have HGL := Lib.hid (show g.length ≤ k from grpS_each fs k j g hg)
        have HQ := Lib.hid hq
        have HJ := Lib.hid hj0
        clear hx hg hq hj0
        obtain ⟨gb, capg, hAv, _⟩ := HG4.out.row.form (by omega)
        cases hAv
        have cgb := (HG4.out.row.cellAt j (by omega)).trans (show (hs.map Hd.val)[j]? = some (.slice xa xn xc) by rw [List.getElem?_map, HX.out]; rfl)
        have hrowg := HG4.out.each j (xa, xn, xc) g HX.out HGJ.out
        have hgl : g.length ≤ k := HGL.out
        have hj0 : (0 : Int) ≤ ((j : Nat) : Int) := by omega
        have hjm : ((j : Nat) : Int) < ((m : Nat) : Int) := by omega
        have HROWG := Lib.hid hrowg
        clear hrowg
        go_wp2_with (first
          | (refine wpList_load_key rfl _ rfl w3.heap.size (keyA (fs k)) rfl HKB.out HK60.out ?_)
          | (at_builtin
             go_loud (refine wpList_append_own_at _ rfl _ _ 24 rfl w.heap.size 3 i0 _ 1 8 Try.underlying24 hi hz0 hz1 hz2 rfl (by omega) _ _ _ rfl (HROWG.out.alloc _) ⟨W4.heap.size, 0, none⟩ 1 1 [.int .i64 k] rfl rfl (World.news_of_block (cs := #[.int .i64 k]) (t := 3) (fr := (0, 0)) (heap_alloc_new W4 _)) (by simp [Value.oneCell']) (by have := HGL.out; unfold maxLen; omega) (by have := HGL.out; omega) (by have := HB6.out.size; simp; omega) ?_)
             intro v1 w7 hown1 hg1 _ ho1
             obtain ⟨g1, cap1, hv1, _⟩ := hown1.form (by omega)
             subst hv1
             have hGV := HG4.out.below (bel_al (Below.refl W4.heap.size W4) (.cells #[.int .i64 k] 3))
             have hKV := HK4.out.grown (World.grownBy_alloc W4 (.cells #[.int .i64 k] 3) none) (by simp)
             have hmapV := hKV.isMap
             have hrow7 := hGV.row.kept hg1 (.inr (fun e => hGV.ne j _ HX.out gb e.symm rfl))
             have c7 := (hrow7.cellAt j (by omega)).trans (show (hs.map Hd.val)[j]? = some (.slice xa xn xc) by rw [List.getElem?_map, HX.out]; rfl)
             have f7 := hrow7.frozenAt j
             have HGR7 := Lib.hid (GRow.app (y := (some ⟨g1, 0, none⟩, g.length + 1, cap1)) (i := (k : Int)) hGV HX.out HGJ.out hown1 hg1 ho1)
             obtain ⟨es7, cl7, hm7⟩ := hmapV
             have hK7 := hKV.grown hg1 (by
               intro e
               exact (hGV.no_map hm7).2 j _ HX.out e.symm)
             have HK8 := Lib.hid (hK7.grown (hrow7.stored j (.slice (some ⟨g1, 0, none⟩) (g.length + 1) cap1)).2 (by
               intro e
               exact (hGV.no_map hm7).1 e.symm))
             have HB8 := Lib.hid (((HB6.out.alloc HB6.out.size (.cells #[.int .i64 k] 3)).grown hg1 (by have := HB6.out.size; simp; omega) (fun j e => (HROWG.out.lt j e).1)).setCell (p := ⟨gb, j, none⟩) (show w.heap.size ≤ gb from (hGV.row.lt gb rfl).1) (.slice (some ⟨g1, 0, none⟩) (g.length + 1) cap1))
             clear hown1 hg1 ho1 hGV hKV hm7 hrow7 hK7))
        go_roundw
        case rel => exact ⟨k + 1, some ⟨gb, 0, none⟩, _, _, by omega, by go_num, by rw [grpS_old HQ.out, List.length_set, HM.out], by rw [grpS_old HQ.out]; simp only [List.length_set, HM.out, HJ.out]; rw [List.getD_eq_getElem?_getD, HGJ.out]; exact HGR7.out, by rw [grpS_old HQ.out]; exact HK8.out, HB8.out⟩
        case measure => simp [intOf]; omega
    · obtain rfl : k = n := by omega
      have HG := Lib.hid hG
      have HB := Lib.hid hB
      clear hG hK hB
      obtain ⟨m, hm⟩ : ∃ m, (grpS fs k).2.length = m := ⟨_, rfl⟩
      rw [hm] at HG
      rw [hm]
      clear hm
      go_wp2
      go_ret2
      exact ⟨Av, m, cv, hs, rfl, HG.out, HB.out⟩

end Go.Proofs.Ytgbfccbnbgbknaa

/- Contracts: Groups, Shapes. -/
namespace Go.Proofs.Ytgbfccbnbgbknaa
open Go.RowKit

/-- The groups of a shelf by a form, and the error. -/
def grpZ (ss : Sg) (tt : List (List Int)) (F : List Int → List Int) : List (List Int) × Int := if shOk ss tt = true then ((grpS (fun k => F (tt.getD k [])) tt.length).2, 0) else ([], 1)
/-- Lists of numbers and an error are returned. -/
def RetG (w : World) (gr : List (List Int) × Int) (e : Ending) (w' : World) : Prop :=
  ∃ A m c hs, e = .returned (.tuple #[.slice A m c, .int .i64 gr.2]) ∧ GRow w' w.heap.size (.slice A m c) m hs gr.1 ∧ Below w.heap.size w w'

set_option maxRecDepth 100000 in
set_option maxHeartbeats 1000000 in
theorem grouped_bad (g : Nat) (As At : Option Addr) (ns cs n c : Nat) (ss : Sg) (ls : List Hd) (tt : List (List Int)) (w : World) (hs : SigAt w w.heap.size As ns ss) (ht : TermsAt w w.heap.size At n ls tt) (hn : n ≤ 1000000) (hv : shOk ss tt = false) :
    Calls Try.prog 153 #[.slice As ns cs, .slice At n c, .func (.func g) #[] #[]] w (RetG w ([], 1)) := by
  have C1 := Lib.hid (fvalid_any As At ns cs n c ss ls tt w hs ht hn)
  rw [hv] at C1
  clear hs ht hn hv
  go_enter Try.func153, Try.ntmps153
  go_wp2_with (go_at_call 59; refine C1.out.mono ?_; rintro e w1 ⟨rfl, hB1⟩; have HB1 := Lib.hid hB1; clear hB1)
  go_ret2
  exact ⟨none, 0, 0, [], rfl, GRow.start (World.ownsRow_nil _ _ _ _), HB1.out⟩

theorem scan_flat {ss : Sg} : ∀ (zs : List Int) (n : Nat), scan ss n zs = some [] → scan ss n (flat zs) = some []
  | [], n, h => h
  | z :: r, 0, h => by rw [scan_zero] at h; cases h
  | z :: r, n + 1, h => by
    simp only [scan] at h
    have ih := scan_flat r _ h
    show scan ss (n + arOf ss (if z < 0 then -1 else z)) (flat r) = some []
    have : arOf ss (if z < 0 then -1 else z) = arOf ss z := by
      by_cases hz : z < 0
      · rw [if_pos hz]; simp [arOf, hz]
      · rw [if_neg hz]
    rw [this]
    exact ih
theorem goodK_of {ss : Sg} {zs : List Int} (h : valOk ss zs = true) : GoodK ss zs := by
  obtain ⟨h1, h60, hnum, hs⟩ := valOk_term h
  have := (sigOk_len (valOk_sig h)).2
  exact ⟨hs, h60, fun z hz => by have := hnum z hz; omega⟩
theorem goodK_canon {ss : Sg} {zs : List Int} (h : valOk ss zs = true) : GoodK ss (canon zs) := goodK_of (valOk_canon h)
theorem goodK_flat {ss : Sg} {zs : List Int} (h : valOk ss zs = true) : GoodK ss (flat zs) := by
  obtain ⟨h1, h60, hnum, hs⟩ := valOk_term h
  have := (sigOk_len (valOk_sig h)).2
  refine ⟨scan_flat _ _ hs, by rw [flat_length]; exact h60, fun z hz => ?_⟩
  unfold flat at hz
  obtain ⟨y, hy, rfl⟩ := List.mem_map.1 hz
  have := hnum y hy
  split <;> omega

set_option maxRecDepth 100000 in
set_option maxHeartbeats 1000000 in
theorem fGroups_any (As At : Option Addr) (ns cs n c : Nat) (ss : Sg) (ls : List Hd) (tt : List (List Int)) (w : World) (hs : SigAt w w.heap.size As ns ss) (ht : TermsAt w w.heap.size At n ls tt) (hn : n ≤ 1000000) :
    Calls Try.prog 82 #[.slice As ns cs, .slice At n c] w (RetG w (grpZ ss tt canon)) := by
  have htl := ht.len
  cases hv : shOk ss tt
  · have C := Lib.hid (grouped_bad 19 As At ns cs n c ss ls tt w hs ht hn hv)
    have H : Hid (grpZ ss tt canon = ([], 1)) := Lib.hid (by unfold grpZ; rw [hv]; simp)
    rw [H.out]
    clear hs ht hn hv htl
    go_enter Try.func82, Try.ntmps82
    go_wp2_with (go_at_call 153; refine C.out.mono ?_; rintro e w1 ⟨A, m, c1, h1, rfl, hG, hB⟩; have HG := Lib.hid hG; have HB := Lib.hid hB; clear hG hB)
    go_ret2
    exact ⟨A, m, c1, h1, rfl, HG.out, HB.out⟩
  · have C := Lib.hid (grouped_any 19 (enters_of Try.func19 (by kernel_rfl) rfl) As At ns cs n c ss ls tt (fun k => canon (tt.getD k [])) w hs ht hv
      (fun W k A' n' c' hW hk => by
        obtain ⟨t, ht1, ht2, hI⟩ := ht.at hk
        have hval := shOk_each hv ht1
        simp only [ht2]
        refine (canonical_ok As A' ns cs n' c' ss t W (hs.up hW) ((hI.below hW).more hW.size) hval).mono ?_
        rintro e w' ⟨A, n, c, rfl, h1, h2⟩
        exact ⟨A, n, c, rfl, h1, h2⟩)
      (fun k hk => by
        have hk' : k < tt.length := by omega
        have hval := shOk_each hv (List.getElem?_eq_getElem hk')
        have hget : tt.getD k [] = tt[k] := by simp [List.getD_eq_getElem?_getD, List.getElem?_eq_getElem hk']
        simp only [hget]
        exact ⟨goodK_canon hval, by rw [canon_length]; exact (valOk_term hval).1⟩))
    have H : Hid (grpZ ss tt canon = ((grpS (fun k => canon (tt.getD k [])) n).2, 0)) := Lib.hid (by unfold grpZ; rw [hv, htl]; rfl)
    rw [H.out]
    generalize (grpS (fun k => canon (tt.getD k [])) n).2 = G at *
    clear hs ht hn hv htl
    go_enter Try.func82, Try.ntmps82
    go_wp2_with (go_at_call 153; refine C.out.mono ?_; rintro e w1 ⟨A, m, c1, h1, rfl, hG, hB⟩; have HG := Lib.hid hG; have HB := Lib.hid hB; clear hG hB)
    go_ret2
    exact ⟨A, m, c1, h1, rfl, HG.out, HB.out⟩

set_option maxRecDepth 100000 in
set_option maxHeartbeats 1000000 in
theorem fShapes_any (As At : Option Addr) (ns cs n c : Nat) (ss : Sg) (ls : List Hd) (tt : List (List Int)) (w : World) (hs : SigAt w w.heap.size As ns ss) (ht : TermsAt w w.heap.size At n ls tt) (hn : n ≤ 1000000) :
    Calls Try.prog 84 #[.slice As ns cs, .slice At n c] w (RetG w (grpZ ss tt flat)) := by
  have htl := ht.len
  cases hv : shOk ss tt
  · have C := Lib.hid (grouped_bad 24 As At ns cs n c ss ls tt w hs ht hn hv)
    have H : Hid (grpZ ss tt flat = ([], 1)) := Lib.hid (by unfold grpZ; rw [hv]; simp)
    rw [H.out]
    clear hs ht hn hv htl
    go_enter Try.func84, Try.ntmps84
    go_wp2_with (go_at_call 153; refine C.out.mono ?_; rintro e w1 ⟨A, m, c1, h1, rfl, hG, hB⟩; have HG := Lib.hid hG; have HB := Lib.hid hB; clear hG hB)
    go_ret2
    exact ⟨A, m, c1, h1, rfl, HG.out, HB.out⟩
  · have C := Lib.hid (grouped_any 24 (enters_of Try.func24 (by kernel_rfl) rfl) As At ns cs n c ss ls tt (fun k => flat (tt.getD k [])) w hs ht hv
      (fun W k A' n' c' hW hk => by
        obtain ⟨t, ht1, ht2, hI⟩ := ht.at hk
        have hval := shOk_each hv ht1
        simp only [ht2]
        refine (shape_ok As A' ns cs n' c' ss t W (hs.up hW) ((hI.below hW).more hW.size) hval).mono ?_
        rintro e w' ⟨A, n, c, rfl, h1, h2⟩
        exact ⟨A, n, c, rfl, h1, h2⟩)
      (fun k hk => by
        have hk' : k < tt.length := by omega
        have hval := shOk_each hv (List.getElem?_eq_getElem hk')
        have hget : tt.getD k [] = tt[k] := by simp [List.getD_eq_getElem?_getD, List.getElem?_eq_getElem hk']
        simp only [hget]
        exact ⟨goodK_flat hval, by rw [flat_length]; exact (valOk_term hval).1⟩))
    have H : Hid (grpZ ss tt flat = ((grpS (fun k => flat (tt.getD k [])) n).2, 0)) := Lib.hid (by unfold grpZ; rw [hv, htl]; rfl)
    rw [H.out]
    generalize (grpS (fun k => flat (tt.getD k [])) n).2 = G at *
    clear hs ht hn hv htl
    go_enter Try.func84, Try.ntmps84
    go_wp2_with (go_at_call 153; refine C.out.mono ?_; rintro e w1 ⟨A, m, c1, h1, rfl, hG, hB⟩; have HG := Lib.hid hG; have HB := Lib.hid hB; clear hG hB)
    go_ret2
    exact ⟨A, m, c1, h1, rfl, HG.out, HB.out⟩

end Go.Proofs.Ytgbfccbnbgbknaa

namespace Go.Proofs.Ytgbfccbnbgbknaa
open Go.RowKit

theorem chF_snoc {p : Nat → Bool} {k : Nat} (h : p k = true) : chF p (k + 1) = chF p k ++ [(k : Int)] := by
  show (if p k = true then _ else _) = _
  rw [if_pos h]
theorem chF_skip {p : Nat → Bool} {k : Nat} (h : p k = false) : chF p (k + 1) = chF p k := by
  show (if p k = true then _ else _) = _
  rw [if_neg (by rw [h]; simp)]
/-- The indexes below k of the statements with a form. -/
def idxs (fs : Nat → List Int) (x : List Int) (k : Nat) : List Int := chF (fun i => decide (fs i = x)) k
theorem grp_is (fs : Nat → List Int) : ∀ k, (grpS fs k).1.Nodup ∧ (∀ x, x ∈ (grpS fs k).1 ↔ ∃ i, i < k ∧ fs i = x) ∧ ∀ (j : Nat) (x : List Int), (grpS fs k).1[j]? = some x → (grpS fs k).2[j]? = some (idxs fs x k)
  | 0 => ⟨List.nodup_nil, fun x => by simp [grpS], fun j x h => by simp [grpS] at h⟩
  | k + 1 => by
    obtain ⟨h1, h2, h3⟩ := grp_is fs k
    obtain ⟨hl, _⟩ := grpS_len fs k
    cases hq : (grpS fs k).1.contains (fs k)
    · have hm : fs k ∉ (grpS fs k).1 := fun h => by have := List.contains_iff_mem.2 h; rw [hq] at this; cases this
      rw [grpS_new hq]
      refine ⟨?_, fun x => ?_, fun j x h => ?_⟩
      · rw [List.nodup_append]
        exact ⟨h1, by simp, fun a ha b hb => by rw [List.mem_singleton] at hb; subst hb; intro e; subst e; exact hm ha⟩
      · simp only [List.mem_append, List.mem_singleton, h2]
        constructor
        · rintro (⟨i, hi, e⟩ | e)
          · exact ⟨i, by omega, e⟩
          · exact ⟨k, by omega, e.symm⟩
        · rintro ⟨i, hi, e⟩
          by_cases hik : i = k
          · subst hik; exact .inr e.symm
          · exact .inl ⟨i, by omega, e⟩
      · rcases snoc_get h with ⟨hj, h⟩ | ⟨hj, rfl⟩
        · have hne : fs k ≠ x := fun e => hm (by rw [e]; exact List.mem_of_getElem? h)
          show ((grpS fs k).2 ++ [[(k : Int)]])[j]? = _
          rw [List.getElem?_append_left (by omega), h3 j x h]
          unfold idxs
          rw [chF_skip (p := fun i => decide (fs i = x)) (decide_eq_false hne)]
        · show ((grpS fs k).2 ++ [[(k : Int)]])[j]? = _
          rw [hj, hl, List.getElem?_append_right (Nat.le_refl _), Nat.sub_self]
          have : idxs fs (fs k) k = [] := by
            unfold idxs
            cases e : chF (fun i => decide (fs i = fs k)) k with
            | nil => rfl
            | cons z r =>
              have hz : z ∈ chF (fun i => decide (fs i = fs k)) k := by rw [e]; simp
              obtain ⟨i, hi, hp, _⟩ := chF_mem.1 hz
              exact absurd ((h2 _).2 ⟨i, hi, of_decide_eq_true hp⟩) hm
          unfold idxs at this ⊢
          rw [chF_snoc (p := fun i => decide (fs i = fs k)) (decide_eq_true rfl), this]
          rfl
    · have hm := List.contains_iff_mem.1 hq
      have hlt := List.idxOf_lt_length_iff.2 hm
      have hat : (grpS fs k).1[(grpS fs k).1.idxOf (fs k)]? = some (fs k) := by rw [List.getElem?_eq_getElem hlt, List.getElem_idxOf]
      rw [grpS_old hq]
      refine ⟨h1, fun x => ?_, fun j x h => ?_⟩
      · rw [h2]
        constructor
        · rintro ⟨i, hi, e⟩; exact ⟨i, by omega, e⟩
        · rintro ⟨i, hi, e⟩
          by_cases hik : i = k
          · subst hik; rw [← e]; exact (h2 _).1 hm
          · exact ⟨i, by omega, e⟩
      · show ((grpS fs k).2.set _ _)[j]? = _
        by_cases hj : (grpS fs k).1.idxOf (fs k) = j
        · rw [hj] at hat hlt ⊢
          rw [h] at hat
          cases hat
          rw [List.getElem?_set, if_pos rfl, if_pos (by omega), List.getD_eq_getElem?_getD, h3 j (fs k) h]
          unfold idxs
          rw [chF_snoc (p := fun i => decide (fs i = fs k)) (decide_eq_true rfl)]
          rfl
        · have hne : fs k ≠ x := by
            intro e
            subst e
            obtain ⟨hjl, e2⟩ := List.getElem?_eq_some_iff.1 h
            exact hj (by
              have := h1.idxOf_getElem j hjl
              rw [e2] at this
              exact this)
          rw [List.getElem?_set_ne hj, h3 j x h]
          unfold idxs
          rw [chF_skip (p := fun i => decide (fs i = x)) (decide_eq_false hne)]

theorem grpS_congr {fs fs' : Nat → List Int} : ∀ {k : Nat}, (∀ i, i < k → fs i = fs' i) → grpS fs k = grpS fs' k
  | 0, _ => rfl
  | k + 1, h => by
    unfold grpS
    rw [grpS_congr (fun i hi => h i (by omega)), h k (by omega)]
theorem chF_add (p : Nat → Bool) (a : Nat) : ∀ b, (chF p (a + b)).length = (chF p a).length + (chF (fun i => p (a + i)) b).length
  | 0 => rfl
  | b + 1 => by
    have ih := chF_add p a b
    cases h : p (a + b)
    · rw [← Nat.add_assoc, chF_skip h, chF_skip (p := fun i => p (a + i)) h, ih]
    · rw [← Nat.add_assoc, chF_snoc h, chF_snoc (p := fun i => p (a + i)) h, List.length_append, List.length_append, ih]
      simp
      omega
theorem chF_rot {p : Nat → Bool} {n k : Nat} (hk : k < n) : (chF (fun i => p ((i + k) % n)) n).length = (chF p n).length := by
  have e1 := chF_add (fun i => p ((i + k) % n)) (n - k) k
  have e2 := chF_add p k (n - k)
  rw [show n - k + k = n by omega] at e1
  rw [show k + (n - k) = n by omega] at e2
  rw [e1, e2, chF_congr (p := fun i => p ((i + k) % n)) (q := fun i => p (k + i)) (k := n - k) (fun i hi => by
    rw [Nat.mod_eq_of_lt (by omega), Nat.add_comm]), chF_congr (p := fun i => p ((n - k + i + k) % n)) (q := p) (k := k) (fun i hi => by
    rw [show n - k + i + k = i + n by omega, Nat.add_mod_right, Nat.mod_eq_of_lt (by omega)])]
  omega

theorem nodup_leT {α : Type} [DecidableEq α] : ∀ (l m : List α), l.Nodup → (∀ x ∈ l, x ∈ m) → l.length ≤ m.length
  | [], _, _, _ => by simp
  | x :: r, m, h, hs => by
    rw [List.nodup_cons] at h
    have hx := hs x (List.mem_cons_self ..)
    have := nodup_leT r (m.erase x) h.2 (fun y hy => (List.mem_erase_of_ne (fun e => h.1 (by rw [← e]; exact hy))).2 (hs y (List.mem_cons_of_mem _ hy)))
    rw [List.length_erase_of_mem hx] at this
    have h0 : 0 < m.length := List.length_pos_of_mem hx
    simp only [List.length_cons]
    omega
/-- Whether a group has as many statements as another one, and, moved, its first ones. -/
def okM (ga gb : List Int) (k n : Nat) : Nat → Bool
  | 0 => decide (ga.length = gb.length)
  | m + 1 => okM ga gb k n m && ga.contains (((gb.getD m 0).toNat + k) % n : Nat)
/-- Whether one of the first groups is such. -/
def sameJ (G : List (List Int)) (gb : List Int) (k n : Nat) : Nat → Bool
  | 0 => false
  | j + 1 => sameJ G gb k n j || okM (G.getD j []) gb k n gb.length
theorem sameJ_of {G : List (List Int)} {gb : List Int} {k n j : Nat} (h : okM (G.getD j []) gb k n gb.length = true) : ∀ {b : Nat}, j < b → sameJ G gb k n b = true
  | 0, hb => by omega
  | b + 1, hb => by
    show (sameJ G gb k n b || okM (G.getD b []) gb k n gb.length) = true
    by_cases e : j = b
    · subst e; rw [h]; simp
    · rw [sameJ_of h (show j < b by omega)]; simp
theorem okM_of {ga gb : List Int} {k n : Nat} (hl : ga.length = gb.length) (h : ∀ z ∈ gb, ga.contains ((z.toNat + k) % n : Nat) = true) : ∀ m, m ≤ gb.length → okM ga gb k n m = true
  | 0, _ => decide_eq_true hl
  | m + 1, hm => by
    show (okM ga gb k n m && _) = true
    rw [okM_of hl h m (by omega), Bool.true_and, List.getD_eq_getElem?_getD, List.getElem?_eq_getElem (by omega)]
    exact h _ (List.getElem_mem _)
/-- A shelf turned has the same groups, moved. -/
theorem turned {fs : Nat → List Int} {n k : Nat} (hk : k < n) : ((grpS (fun i => fs ((i + k) % n)) n).2.length = (grpS fs n).2.length) ∧
    ∀ (i : Nat) (gb : List Int), (grpS (fun i => fs ((i + k) % n)) n).2[i]? = some gb → sameJ (grpS fs n).2 gb k n (grpS fs n).2.length = true ∧ ∀ z ∈ gb, 0 ≤ z ∧ z < (n : Int) := by
  obtain ⟨a1, a2, a3⟩ := grp_is fs n
  obtain ⟨b1, b2, b3⟩ := grp_is (fun i => fs ((i + k) % n)) n
  obtain ⟨la, _⟩ := grpS_len fs n
  obtain ⟨lb, _⟩ := grpS_len (fun i => fs ((i + k) % n)) n
  have hsub1 : ∀ x, x ∈ (grpS (fun i => fs ((i + k) % n)) n).1 → x ∈ (grpS fs n).1 := fun x hx => by
    obtain ⟨i, hi, e⟩ := (b2 x).1 hx
    exact (a2 x).2 ⟨(i + k) % n, Nat.mod_lt _ (by omega), e⟩
  have hsub2 : ∀ x, x ∈ (grpS fs n).1 → x ∈ (grpS (fun i => fs ((i + k) % n)) n).1 := fun x hx => by
    obtain ⟨i, hi, e⟩ := (a2 x).1 hx
    refine (b2 x).2 ⟨(i + (n - k)) % n, Nat.mod_lt _ (by omega), ?_⟩
    rw [← e]
    have e2 : ((i + (n - k)) % n + k) % n = i := by
      by_cases h : i + (n - k) < n
      · rw [Nat.mod_eq_of_lt h, show i + (n - k) + k = i + n by omega, Nat.add_mod_right, Nat.mod_eq_of_lt hi]
      · have e1 : (i + (n - k)) % n = i - k := by
          rw [Nat.mod_eq_sub_mod (by omega), Nat.mod_eq_of_lt (by omega)]
          omega
        rw [e1, show i - k + k = i by omega, Nat.mod_eq_of_lt hi]
    simp only [e2]
  refine ⟨by have h1 := nodup_leT _ _ b1 hsub1; have h2 := nodup_leT _ _ a1 hsub2; omega, fun i gb hi => ?_⟩
  obtain ⟨hil, _⟩ := List.getElem?_eq_some_iff.1 hi
  have hx : (grpS (fun i => fs ((i + k) % n)) n).1[i]? = some ((grpS (fun i => fs ((i + k) % n)) n).1[i]'(by omega)) := List.getElem?_eq_getElem _
  obtain ⟨x, hxx⟩ : ∃ x, (grpS (fun i => fs ((i + k) % n)) n).1[i]'(by omega) = x := ⟨_, rfl⟩
  rw [hxx] at hx
  rw [b3 i x hx] at hi
  cases hi
  have hxa := hsub1 x (List.mem_of_getElem? hx)
  obtain ⟨j, hj, ej⟩ := List.mem_iff_getElem.1 hxa
  have hga := a3 j x (by rw [List.getElem?_eq_getElem hj, ej])
  have hbnd : ∀ z ∈ idxs (fun i => fs ((i + k) % n)) x n, 0 ≤ z ∧ z < (n : Int) := fun z hz => by
    obtain ⟨y, hy, _, rfl⟩ := chF_mem.1 hz
    omega
  refine ⟨sameJ_of (j := j) ?_ (by omega), hbnd⟩
  rw [List.getD_eq_getElem?_getD, hga]
  refine okM_of ?_ (fun z hz => ?_) _ (Nat.le_refl _)
  · exact (chF_rot (p := fun i => decide (fs i = x)) hk).symm
  · obtain ⟨y, hy, hp, rfl⟩ := chF_mem.1 hz
    rw [List.contains_iff_mem]
    exact chF_mem.2 ⟨(y + k) % n, Nat.mod_lt _ (by omega), hp, by simp⟩

end Go.Proofs.Ytgbfccbnbgbknaa
