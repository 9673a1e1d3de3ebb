/- Words: the statements' own sign in memory. -/
import Derived.Test.YtippmpcaongolaaL0g
import Derived.Deep.QuietTactic
import Derived.BigQuiet
/- Contract: the reference's Same. -/
namespace Go.Proofs.Ytippmpcaongolaa
open Go.RowKit

/-- The two lists agree on their first k numbers. -/
def Agree (xs ys : List Int) (k : Nat) : Prop := xs.take k = ys.take k
theorem Agree.zero (xs ys : List Int) : Agree xs ys 0 := by simp [Agree]
theorem Agree.succ {xs ys : List Int} {k : Nat} (h : Agree xs ys k) (h1 : k < xs.length) (h2 : k < ys.length) (e : xs[k] = ys[k]) : Agree xs ys (k + 1) := by
  unfold Agree at h ⊢
  rw [List.take_succ_eq_append_getElem h1, List.take_succ_eq_append_getElem h2, h, e]
theorem Agree.bad {xs ys : List Int} {k : Nat} (h1 : k < xs.length) (h2 : k < ys.length) (e : xs[k] ≠ ys[k]) : decide (xs = ys) = false := by
  rw [decide_eq_false]
  rintro rfl
  exact e rfl
theorem Agree.good {xs ys : List Int} (h : Agree xs ys xs.length) (hl : xs.length = ys.length) : decide (xs = ys) = true := by
  unfold Agree at h
  rw [List.take_length, hl, List.take_length] at h
  simpa using h
theorem len_ne {xs ys : List Int} (h : xs.length ≠ ys.length) : decide (xs = ys) = false := by
  rw [decide_eq_false]
  rintro rfl
  exact h rfl

theorem IntsAt.cellAt {w : World} {B : Nat} {A : Option Addr} {n : Nat} {zs : List Int} (h : IntsAt w B A n zs) {k : Nat} (hk : k < n) : ∃ b off z, A = some ⟨b, off, none⟩ ∧ w.cell? ⟨b, off + k, none⟩ = some (.int .i64 z) ∧ ∃ hk' : k < zs.length, zs[k] = z := by
  obtain ⟨b, off, e, _, hc⟩ := h.mem (by omega)
  have hk' : k < zs.length := by rw [← h.len]; exact hk
  exact ⟨b, off, zs[k], e, hc k hk', hk', rfl⟩

set_option maxRecDepth 100000 in
set_option maxHeartbeats 1000000 in
theorem same_any (A A2 : Option Addr) (n c n2 c2 : Nat) (xs ys : List Int) (w : World) (B : Nat) (hx : IntsAt w B A n xs) (hy : IntsAt w B A2 n2 ys) :
    Calls Try.prog 24 #[.slice A n c, .slice A2 n2 c2] w fun e w' => e = .returned (.bool (decide (xs = ys))) ∧ ∃ k, w' = w.drewN k := by
  have hlx := hx.len
  have hly := hy.len
  have hmx := hx.max
  by_cases hne : n = n2
  · have HL := Lib.hid (show xs.length = ys.length by omega)
    have HX := Lib.hid hx
    have HY := Lib.hid hy
    have HLX := Lib.hid hlx
    subst hne
    have hb : ((n : Int) != (n : Int)) = false := by simp
    clear hx hy hlx hly
    go_enter Try.func24, Try.ntmps24
    go_wp2
    go_loopw [5] (fun i wr => ∃ k : Nat, k ≤ n ∧ i = .int .i64 k ∧ Agree xs ys k ∧ ∃ m, wr = w.drewN m) (fun i _ => n - (intOf i).toNat)
    case atStart => exact ⟨0, Nat.zero_le _, rfl, Agree.zero _ _, 0, rfl⟩
    case round =>
      obtain ⟨k, hk, rfl, hA, m, rfl⟩ := hrel
      by_cases hlt : k < n
      · obtain ⟨b, off, z, rfl, c1, k1, e1⟩ := HX.out.cellAt hlt
        obtain ⟨b2, off2, y, rfl, c2, k2, e2⟩ := HY.out.cellAt hlt
        have hk0 : (0 : Int) ≤ (k : Int) := by omega
        have hk1 : (k : Int) < (n : Int) := by omega
        by_cases e : z = y
        · have H := Lib.hid (hA.succ k1 k2 (by rw [e1, e2, e]))
          have he : (z != y) = false := by simp [e]
          have he2 : (z == y) = true := by simp [e]
          clear e e1 e2 hA
          go_wp2_with fail
          go_quiet (fail)
          go_wp2
          go_roundw
          case rel => exact ⟨k + 1, by omega, by go_num, H.out, _, rfl⟩
          case measure => simp [intOf]; omega
        · have H := Lib.hid (Agree.bad k1 k2 (by rw [e1, e2]; exact e))
          have he : (z != y) = true := by simp [e]
          clear e e1 e2 hA
          go_wp2_with fail
          go_quiet (fail)
          go_wp2
          go_ret
          exact ⟨ret_b H.out.symm, _, World.drewN_drewN ..⟩
      · obtain rfl : k = n := by omega
        have H := Lib.hid (Agree.good (by rw [← HLX.out]; exact hA) HL.out)
        clear hA
        go_wp2
        go_ret
        exact ⟨ret_b H.out.symm, _, rfl⟩
  · have H := Lib.hid (len_ne (xs := xs) (ys := ys) (by omega))
    have hb : ((n : Int) != (n2 : Int)) = true := by simp; omega
    clear hx hy hlx hly hne
    go_enter Try.func24, Try.ntmps24
    go_wp2
    go_ret
    exact ⟨ret_b H.out.symm, 0, rfl⟩

end Go.Proofs.Ytippmpcaongolaa

/- Words: what is read goes up with the worlds; Same of equal lists. -/
namespace Go.Proofs.Ytippmpcaongolaa
open Go.RowKit

theorem SigAt.up {w w' : World} {n : Nat} {A : Option Addr} {ss : Sg} (h : SigAt w w.heap.size A n ss) (hb : Below w.heap.size w w') : SigAt w' w'.heap.size A n ss := (h.below hb).more hb.size
theorem IntsAt.up {w w' : World} {n : Nat} {A : Option Addr} {zs : List Int} (h : IntsAt w w.heap.size A n zs) (hb : Below w.heap.size w w') : IntsAt w' w'.heap.size A n zs := (h.below hb).more hb.size
theorem below_then {a b c : World} (h : Below a.heap.size a b) (k : Below b.heap.size b c) : Below a.heap.size a c := h.trans (k.mono h.size)

end Go.Proofs.Ytippmpcaongolaa

namespace Go.Proofs.Ytippmpcaongolaa
open Go.RowKit

theorem ints_of_blk {W : World} {b : Nat} (zs : List Int) (n : Nat) (cs : Array Value) (hcs : cs = (zs.map (Value.int .i64)).toArray) (h : Blk W b 3 cs) (hn : n = zs.length) (hm : zs.length ≤ 1000000) : IntsAt W W.heap.size (some ⟨b, 0, none⟩) n zs := by
  subst hcs
  exact IntsAt.of_blk h hn hm

end Go.Proofs.Ytippmpcaongolaa
