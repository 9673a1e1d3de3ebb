/- Contract: Alike. -/
import Derived.Test.YtippmpcaongolaaW0g
import Derived.Test.YtippmpcaongolaaC1g
import Derived.Test.YtippmpcaongolaaL0g
import Derived.Test.YtippmpcaongolaaV1g
/- Contracts: slices.Equal at Term; the reference's Has, Variables. -/
namespace Go.Proofs.Ytippmpcaongolaa
open Go.RowKit

set_option maxRecDepth 100000 in
set_option maxHeartbeats 1000000 in
theorem eqT_any (A A2 : Option Addr) (n c n2 c2 : Nat) (xs ys : List Int) (w : World) (B : Nat) (hx : IntsAt w B A n xs) (hy : IntsAt w B A2 n2 ys) :
    Calls Try.prog 71 #[.slice A n c, .slice A2 n2 c2] w fun e w' => e = .returned (.bool (decide (xs = ys))) ∧ ∃ k, w' = w.drewN k := by
  have hlx := hx.len
  have hly := hy.len
  have hmx := hx.max
  by_cases hne : n = n2
  · have HL := Lib.hid (show xs.length = ys.length by omega)
    have HX := Lib.hid hx
    have HY := Lib.hid hy
    have HLX := Lib.hid hlx
    subst hne
    have hb : ((n : Int) != (n : Int)) = false := by simp
    clear hx hy hlx hly
    go_enter Try.func71, Try.ntmps71
    go_wp2
    go_loopw [13] (fun i wr => ∃ k : Nat, k ≤ n ∧ i = .int .i64 k ∧ Agree xs ys k ∧ ∃ m, wr = w.drewN m) (fun i _ => n - (intOf i).toNat)
    case atStart => exact ⟨0, Nat.zero_le _, rfl, Agree.zero _ _, 0, rfl⟩
    case round =>
      obtain ⟨k, hk, rfl, hA, m, rfl⟩ := hrel
      by_cases hlt : k < n
      · obtain ⟨b, off, z, rfl, c1, k1, e1⟩ := HX.out.cellAt hlt
        obtain ⟨b2, off2, y, rfl, c2, k2, e2⟩ := HY.out.cellAt hlt
        have hk0 : (0 : Int) ≤ (k : Int) := by omega
        have hk1 : (k : Int) < (n : Int) := by omega
        by_cases e : z = y
        · have H := Lib.hid (hA.succ k1 k2 (by rw [e1, e2, e]))
          have he : (z != y) = false := by simp [e]
          have he2 : (z == y) = true := by simp [e]
          clear e e1 e2 hA
          go_wp2_with fail
          go_quiet (fail)
          go_wp2
          go_roundw
          case rel => exact ⟨k + 1, by omega, by go_num, H.out, _, rfl⟩
          case measure => simp [intOf]; omega
        · have H := Lib.hid (Agree.bad k1 k2 (by rw [e1, e2]; exact e))
          have he : (z != y) = true := by simp [e]
          clear e e1 e2 hA
          go_wp2_with fail
          go_quiet (fail)
          go_wp2
          go_ret
          exact ⟨ret_b H.out.symm, _, World.drewN_drewN ..⟩
      · obtain rfl : k = n := by omega
        have H := Lib.hid (Agree.good (by rw [← HLX.out]; exact hA) HL.out)
        clear hA
        go_wp2
        go_ret
        exact ⟨ret_b H.out.symm, _, rfl⟩
  · have H := Lib.hid (len_ne (xs := xs) (ys := ys) (by omega))
    have hb : ((n : Int) != (n2 : Int)) = true := by simp; omega
    clear hx hy hlx hly hne
    go_enter Try.func71, Try.ntmps71
    go_wp2
    go_ret
    exact ⟨ret_b H.out.symm, 0, rfl⟩


theorem row_ints {w : World} {base n : Nat} {v : Value} {zs : List Int} (h : w.ownsRow base 3 1 v n (zs.map (Value.int .i64))) (hn : n ≤ 1000000) : ∃ A c, v = .slice A n c ∧ IntsAt w w.heap.size A n zs := by
  obtain ⟨hl, ⟨rfl, rfl⟩ | ⟨g, cap, cur, rfl, hbg, hcur, hn1, hn2, hsz, htk⟩⟩ := h
  · have : zs = [] := List.eq_nil_of_length_eq_zero (by simpa using hl)
    subst this
    exact ⟨none, 0, rfl, IntsAt.nil _ _ 0⟩
  · have hl' : n = zs.length := by simpa using hl.symm
    refine ⟨some ⟨g, 0, none⟩, cap, rfl, ⟨hl', by omega, fun _ => ⟨g, 0, rfl, Blk.lt (t := 3) hcur, fun j hj => ?_⟩⟩⟩
    have hj' : j < n * 1 := by omega
    rw [Blk.cell (t := 3) hcur, Nat.zero_add]
    have e1 : cur.toList[j]? = (cur.toList.take (n * 1))[j]? := by rw [List.getElem?_take, if_pos hj']
    rw [← Array.getElem?_toList, e1, htk, List.getElem?_map, List.getElem?_eq_getElem hj]
    rfl

def NotIn (xs : List Int) (z : Int) (k : Nat) : Prop := ∀ j (h : j < xs.length), j < k → xs[j] ≠ z
theorem NotIn.all {xs : List Int} {z : Int} (h : NotIn xs z xs.length) : xs.contains z = false := by
  cases e : xs.contains z
  · rfl
  · obtain ⟨i, hi, he⟩ := List.mem_iff_getElem.1 (List.contains_iff_mem.1 e)
    exact absurd he (h i hi hi)

end Go.Proofs.Ytippmpcaongolaa

namespace Go.Proofs.Ytippmpcaongolaa
open Go.RowKit

end Go.Proofs.Ytippmpcaongolaa
