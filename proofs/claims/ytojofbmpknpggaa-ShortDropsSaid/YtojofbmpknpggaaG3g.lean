/- Contracts: slices.Index[[]int], slices.Contains[[]int]. -/
import Derived.Test.YtojofbmpknpggaaL0g
import Derived.Maps.AppendAt
import Derived.Deep.AppendLies
import Derived.Lib.SliceRun
import Derived.Test.YtojofbmpknpggaaG1g
import Derived.Test.YtojofbmpknpggaaV1g
/- Words: an address moved; a row of ints that is returned. -/
namespace Go.Proofs.Ytojofbmpknpggaa
open Go.RowKit

theorem add0 (b off j : Nat) : (⟨b, off, none⟩ : Addr).add j = ⟨b, off + j, none⟩ := by
  unfold Addr.add
  split
  · subst_vars; rfl
  · rfl

/-- A row of the call's own is returned. -/
def RetRow (w : World) (xs : List Value) (e : Ending) (w' : World) : Prop := ∃ v, e = .returned v ∧ w'.ownsRow w.heap.size 3 1 v xs.length xs ∧ Below w.heap.size w w'

end Go.Proofs.Ytojofbmpknpggaa

/- Contracts: slices.Equal at Term; the reference's Has, Variables. -/
namespace Go.Proofs.Ytojofbmpknpggaa
open Go.RowKit

theorem row_ints {w : World} {base n : Nat} {v : Value} {zs : List Int} (h : w.ownsRow base 3 1 v n (zs.map (Value.int .i64))) (hn : n ≤ 1000000) : ∃ A c, v = .slice A n c ∧ IntsAt w w.heap.size A n zs := by
  obtain ⟨hl, ⟨rfl, rfl⟩ | ⟨g, cap, cur, rfl, hbg, hcur, hn1, hn2, hsz, htk⟩⟩ := h
  · have : zs = [] := List.eq_nil_of_length_eq_zero (by simpa using hl)
    subst this
    exact ⟨none, 0, rfl, IntsAt.nil _ _ 0⟩
  · have hl' : n = zs.length := by simpa using hl.symm
    refine ⟨some ⟨g, 0, none⟩, cap, rfl, ⟨hl', by omega, fun _ => ⟨g, 0, rfl, Blk.lt (t := 3) hcur, fun j hj => ?_⟩⟩⟩
    have hj' : j < n * 1 := by omega
    rw [Blk.cell (t := 3) hcur, Nat.zero_add]
    have e1 : cur.toList[j]? = (cur.toList.take (n * 1))[j]? := by rw [List.getElem?_take, if_pos hj']
    rw [← Array.getElem?_toList, e1, htk, List.getElem?_map, List.getElem?_eq_getElem hj]
    rfl

def NotIn (xs : List Int) (z : Int) (k : Nat) : Prop := ∀ j (h : j < xs.length), j < k → xs[j] ≠ z
theorem NotIn.all {xs : List Int} {z : Int} (h : NotIn xs z xs.length) : xs.contains z = false := by
  cases e : xs.contains z
  · rfl
  · obtain ⟨i, hi, he⟩ := List.mem_iff_getElem.1 (List.contains_iff_mem.1 e)
    exact absurd he (h i hi hi)

end Go.Proofs.Ytojofbmpknpggaa

/- The arguments of a term: the plain mathematics. -/
namespace Go.Proofs.Ytojofbmpknpggaa
open Go.RowKit

theorem scan_take (ss : Sg) : ∀ (l : List Int) (n p : Nat), p ≤ l.length → scan ss n l = some (l.drop p) → scan ss n (l.take p) = some []
  | l, 0, p, hp, h => by
    rw [scan_zero] at h
    have e : l.length = l.length - p := by
      have := congrArg List.length (Option.some.inj h)
      rwa [List.length_drop] at this
    rw [scan_zero]
    rcases Nat.eq_zero_or_pos p with rfl | h0
    · simp
    · have : l = [] := List.eq_nil_of_length_eq_zero (by omega)
      simp [this]
  | [], n + 1, p, hp, h => by cases h
  | z :: l, n + 1, p, hp, h => by
    have h0 := h
    simp only [scan] at h
    obtain ⟨p', h1, h2, h3⟩ := scan_suffix ss _ _ _ h
    cases p with
    | zero =>
      have := congrArg List.length h3
      simp only [List.drop_zero, List.length_cons, List.length_drop] at this
      omega
    | succ p =>
      simp only [List.take_succ_cons, scan]
      exact scan_take ss l _ p (by simpa using hp) (by simpa using h)

/-- Where argument k of a term begins. -/
def pos (ss : Sg) (zs : List Int) (k : Nat) : Nat := zs.length - ((scan ss k (zs.drop 1)).getD []).length
theorem scan_part {ss : Sg} {l : List Int} {r k : Nat} (h : scan ss r l = some []) (hk : k ≤ r) : ∃ p, p ≤ l.length ∧ k ≤ p ∧ scan ss k l = some (l.drop p) := by
  have e : r = k + (r - k) := by omega
  rw [e, scan_add] at h
  cases h1 : scan ss k l with
  | none => rw [h1] at h; cases h
  | some q =>
    obtain ⟨p, a, b, c⟩ := scan_suffix ss _ _ _ h1
    exact ⟨p, a, b, by rw [c]⟩
theorem pos_scan {ss : Sg} {zs : List Int} {r k : Nat} (h : scan ss r (zs.drop 1) = some []) (hl : 1 ≤ zs.length) (hk : k ≤ r) : scan ss k (zs.drop 1) = some (zs.drop (pos ss zs k)) ∧ 1 + k ≤ pos ss zs k ∧ pos ss zs k ≤ zs.length := by
  obtain ⟨p, h1, h2, h3⟩ := scan_part h hk
  rw [List.length_drop] at h1
  have e : pos ss zs k = 1 + p := by
    unfold pos
    rw [h3]
    simp only [Option.getD_some, List.length_drop]
    omega
  rw [e]
  exact ⟨by rw [h3, List.drop_drop], by omega, by omega⟩
theorem pos_step {ss : Sg} {zs : List Int} {r k : Nat} (h : scan ss r (zs.drop 1) = some []) (hl : 1 ≤ zs.length) (hk : k < r) : endI ss zs (pos ss zs k) = ((pos ss zs (k + 1) : Nat) : Int) ∧ pos ss zs k < pos ss zs (k + 1) ∧ scan ss 1 (zs.drop (pos ss zs k)) = some (zs.drop (pos ss zs (k + 1))) := by
  obtain ⟨a1, a2, a3⟩ := pos_scan h hl (Nat.le_of_lt hk)
  obtain ⟨b1, b2, b3⟩ := pos_scan h hl (show k + 1 ≤ r from hk)
  rw [scan_add, a1] at b1
  have b1' : scan ss 1 (zs.drop (pos ss zs k)) = some (zs.drop (pos ss zs (k + 1))) := b1
  obtain ⟨p, c1, c2, c3⟩ := scan_suffix ss _ _ _ b1'
  have hl3 := congrArg List.length c3
  rw [List.length_drop] at c1
  simp only [List.length_drop] at hl3
  refine ⟨?_, by omega, b1'⟩
  unfold endI
  rw [b1']
  simp only [List.length_drop]
  congr 1; omega
theorem scan_head {ss : Sg} {zs : List Int} (h : scan ss 1 zs = some []) (hl : 0 < zs.length) : scan ss (arOf ss zs[0]) (zs.drop 1) = some [] := by
  cases zs with
  | nil => simp at hl
  | cons z r => simpa [scan] using h

/-- Argument k of a term. -/
def argL (ss : Sg) (zs : List Int) (k : Nat) : List Int := (zs.drop (pos ss zs k)).take (pos ss zs (k + 1) - pos ss zs k)
end Go.Proofs.Ytojofbmpknpggaa

/- Contract: Alike. -/
namespace Go.Proofs.Ytojofbmpknpggaa
open Go.RowKit

end Go.Proofs.Ytojofbmpknpggaa

/- Contract: arguments. -/
namespace Go.Proofs.Ytojofbmpknpggaa
open Go.RowKit

theorem info_term : (Try.prog.info? 45).map (fun i => (i.zero, i.size, i.bytes)) = some (some (.slice none 0 0), 1, 24) := by kernel_rfl

end Go.Proofs.Ytojofbmpknpggaa

/- Contracts: slices.Clone at []int and at Term. -/
namespace Go.Proofs.Ytojofbmpknpggaa
open Go.RowKit

end Go.Proofs.Ytojofbmpknpggaa

namespace Go.Proofs.Ytojofbmpknpggaa
open Go.RowKit

set_option maxHeartbeats 1000000 in
theorem index_any (A : Option Addr) (n c : Nat) (xs : List Int) (z : Int) (w : World) (B : Nat) (hx : IntsAt w B A n xs) :
    Calls Try.prog 60 #[.slice A n c, .int .i64 z] w fun e w' => (∃ i : Int, e = .returned (.int .i64 i) ∧ decide ((0 : Int) ≤ i) = xs.contains z) ∧ w = w' := by
  have HLX := Lib.hid hx.len
  have hmx := hx.max
  have HX := Lib.hid hx
  obtain ⟨qb, hqb⟩ : ∃ qb, xs.contains z = qb := ⟨_, rfl⟩
  rw [hqb]
  have HQ := Lib.hid hqb
  clear hx hqb
  go_enter Try.func60, Try.ntmps60
  go_wp2
  go_loop [8] (fun i => ∃ k : Nat, k ≤ n ∧ i = .int .i64 k ∧ NotIn xs z k) (fun i => n - (intOf i).toNat)
  case atStart => exact ⟨0, Nat.zero_le _, rfl, fun _ _ h => absurd h (by omega)⟩
  case round =>
    obtain ⟨k, hk, rfl, hA⟩ := hrel
    by_cases hlt : k < n
    · obtain ⟨b, off, y, rfl, c1, k1, e1⟩ := HX.out.cellAt hlt
      by_cases e : y = z
      · have H := Lib.hid (show qb = true by rw [← HQ.out, List.contains_iff_mem, ← e, ← e1]; exact List.getElem_mem k1)
        have he : (z == y) = true := by simp [e]
        clear e e1 hA
        go_wp2
        go_ret
        exact ⟨⟨(k : Int), rfl, by rw [H.out]; exact decide_eq_true (by omega)⟩, rfl⟩
      · have H : Hid (NotIn xs z (k + 1)) := by
          intro j hj hlt2
          by_cases hjk : j < k
          · exact hA j hj hjk
          · obtain rfl : j = k := by omega
            rw [e1]; exact e
        have he : (z == y) = false := by simp; exact fun h => e h.symm
        clear e e1 hA
        go_wp2
        go_round
        case rel => exact ⟨k + 1, by omega, by go_num, H.out⟩
        case measure => simp [intOf]; omega
    · obtain rfl : k = n := by omega
      have H := Lib.hid (show qb = false by rw [← HQ.out]; exact NotIn.all (by rw [← HLX.out]; exact hA))
      clear hA
      go_wp2
      go_ret
      exact ⟨⟨-1, rfl, by rw [H.out]; rfl⟩, rfl⟩

set_option maxHeartbeats 400000 in
theorem contains_any (A : Option Addr) (n c : Nat) (xs : List Int) (z : Int) (w : World) (B : Nat) (hx : IntsAt w B A n xs) :
    Calls Try.prog 48 #[.slice A n c, .int .i64 z] w fun e w' => e = .returned (.bool (xs.contains z)) ∧ w = w' := by
  have C := Lib.hid (index_any A n c xs z w B hx)
  obtain ⟨qb, hqb⟩ : ∃ qb, xs.contains z = qb := ⟨_, rfl⟩
  rw [hqb] at C ⊢
  clear hx hqb
  go_enter Try.func48, Try.ntmps48
  go_wp2_with (go_at_call 60; refine C.out.mono ?_; rintro e w' ⟨⟨i, rfl, hi⟩, rfl⟩; have HI := Lib.hid hi; clear hi)
  go_ret
  exact ⟨ret_b HI.out, rfl⟩

end Go.Proofs.Ytojofbmpknpggaa
