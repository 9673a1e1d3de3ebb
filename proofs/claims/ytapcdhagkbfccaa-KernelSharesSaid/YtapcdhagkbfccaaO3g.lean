/- Contract: the statements' own 'Small'. -/
import Derived.Test.YtapcdhagkbfccaaW0g
namespace Go.Proofs.Ytapcdhagkbfccaa
open Go.RowKit

/-- A slice's header. -/
abbrev Hd := Option Addr × Nat × Nat
def Hd.val (x : Hd) : Value := .slice x.1 x.2.1 x.2.2
/-- The slice value '.slice A n c' holds the slices ls. -/
structure HdsAt (w : World) (B : Nat) (A : Option Addr) (n : Nat) (ls : List Hd) : Prop where
  len : n = ls.length
  max : n ≤ 9223372036854775807
  mem : 0 < n → ∃ b off, A = some ⟨b, off, none⟩ ∧ b < B ∧ ∀ j (h : j < ls.length), w.cell? ⟨b, off + j, none⟩ = some (.slice ls[j].1 ls[j].2.1 ls[j].2.2)
theorem HdsAt.keep {w w' : World} {B : Nat} {A : Option Addr} {n : Nat} {ls : List Hd} (h : HdsAt w B A n ls) (hk : ∀ p : Addr, p.block < B → w'.cell? p = w.cell? p) : HdsAt w' B A n ls :=
  ⟨h.len, h.max, fun hn => by
    obtain ⟨b, off, e, hb, hs⟩ := h.mem hn
    exact ⟨b, off, e, hb, fun j hj => (hk _ hb).trans (hs j hj)⟩⟩
theorem HdsAt.more {w : World} {B B' : Nat} {A : Option Addr} {n : Nat} {ls : List Hd} (h : HdsAt w B A n ls) (hB : B ≤ B') : HdsAt w B' A n ls :=
  ⟨h.len, h.max, fun hn => by
    obtain ⟨b, off, e, hb, hs⟩ := h.mem hn
    exact ⟨b, off, e, by omega, hs⟩⟩
theorem HdsAt.below {w w' : World} {B : Nat} {A : Option Addr} {n : Nat} {ls : List Hd} (h : HdsAt w B A n ls) (hb : Below B w w') : HdsAt w' B A n ls := h.keep fun _ hp => hb.cell hp
theorem HdsAt.of_blk {w : World} {b : Nat} (ls : List Hd) {n : Nat} {cs : Array Value} (h : Blk w b 25 cs) (hcs : cs = (ls.map Hd.val).toArray) (hn : n = ls.length) (hm : ls.length ≤ 1000000) : HdsAt w w.heap.size (some ⟨b, 0, none⟩) n ls :=
  ⟨hn, by omega, fun _ => ⟨b, 0, rfl, h.lt, fun j hj => by
    rw [h.cell, hcs]
    simp [hj, Hd.val]⟩⟩

def allTo (ls : List Hd) (k : Nat) : Prop := ∀ j (h : j < ls.length), j < k → ls[j].2.1 ≤ 200
def smallOk (ns : Nat) (ls : List Hd) : Bool := ls.all (fun x => decide (x.2.1 ≤ 200)) && decide (ns ≤ 40)
theorem smallOk_bad {ns : Nat} {ls : List Hd} {k : Nat} (hk : k < ls.length) (h : 200 < ls[k].2.1) : smallOk ns ls = false := by
  unfold smallOk
  have : ls.all (fun x => decide (x.2.1 ≤ 200)) = false := by
    rw [List.all_eq_false]
    exact ⟨ls[k], List.getElem_mem hk, by simp; omega⟩
  rw [this]; rfl
theorem smallOk_good {ns : Nat} {ls : List Hd} (h : allTo ls ls.length) : smallOk ns ls = decide (ns ≤ 40) := by
  unfold smallOk
  have : ls.all (fun x => decide (x.2.1 ≤ 200)) = true := by
    rw [List.all_eq_true]
    intro x hx
    obtain ⟨i, hi, rfl⟩ := List.mem_iff_getElem.1 hx
    simpa using h i hi hi
  rw [this]; rfl

set_option maxRecDepth 100000 in
set_option maxHeartbeats 1000000 in
theorem small_any (As A : Option Addr) (ns cs n c : Nat) (ls : List Hd) (w : World) (B : Nat) (hl : HdsAt w B A n ls) :
    Calls Try.prog 16 #[.slice As ns cs, .slice A n c] w fun e w' => e = .returned (.bool (smallOk ns ls)) ∧ w = w' := by
  have HLX := Lib.hid hl.len
  have hmx := hl.max
  have HX := Lib.hid hl
  clear hl
  go_enter Try.func16, Try.ntmps16
  go_wp2
  go_loop [5] (fun i => ∃ k : Nat, k ≤ n ∧ i = .int .i64 k ∧ allTo ls k) (fun i => n - (intOf i).toNat)
  case atStart => exact ⟨0, Nat.zero_le _, rfl, fun _ _ h => absurd h (by omega)⟩
  case round =>
    obtain ⟨k, hk, rfl, hA⟩ := hrel
    by_cases hlt : k < n
    · have hk' : k < ls.length := by have := HLX.out; omega
      obtain ⟨b, off, rfl, _, hc⟩ := HX.out.mem (by omega)
      have c1 := hc k hk'
      have hbad := smallOk_bad (ns := ns) hk'
      have hgood : ls[k].2.1 ≤ 200 → allTo ls (k + 1) := fun h j hj hlt => by
        by_cases hjk : j < k
        · exact hA j hj hjk
        · obtain rfl : j = k := by omega
          exact h
      obtain ⟨a1, a2, a3, ha⟩ : ∃ a1 a2 a3, ls[k] = (a1, a2, a3) := ⟨_, _, _, rfl⟩
      rw [ha] at c1 hbad hgood
      simp only at c1 hbad hgood
      clear hc ha hA
      by_cases h : 200 < a2
      · have H := Lib.hid (hbad h)
        clear hbad hgood
        go_wp2
        go_ret
        exact ⟨ret_b H.out.symm, rfl⟩
      · have H := Lib.hid (hgood (by omega))
        clear hbad hgood
        have h' : a2 ≤ 200 := by omega
        go_wp2
        go_round
        case rel => exact ⟨k + 1, by omega, by go_num, H.out⟩
        case measure => simp [intOf]; omega
    · obtain rfl : k = n := by omega
      have H := Lib.hid (smallOk_good (ns := ns) (by rw [← HLX.out]; exact hA))
      clear hA
      go_wp2
      go_ret
      exact ⟨ret_b (by rw [H.out]; simp; omega), rfl⟩

end Go.Proofs.Ytapcdhagkbfccaa
