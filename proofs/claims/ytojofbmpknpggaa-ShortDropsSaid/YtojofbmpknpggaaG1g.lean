/- Contract: the reference's SameInts. -/
import Derived.Test.YtojofbmpknpggaaL0g
import Derived.Deep.QuietTactic
import Derived.BigQuiet
import Derived.Test.YtojofbmpknpggaaS3g
import Derived.Test.YtojofbmpknpggaaV1g
/- Contract: the reference's Same. -/
namespace Go.Proofs.Ytojofbmpknpggaa
open Go.RowKit

/-- The two lists agree on their first k numbers. -/
def Agree (xs ys : List Int) (k : Nat) : Prop := xs.take k = ys.take k
theorem Agree.zero (xs ys : List Int) : Agree xs ys 0 := by simp [Agree]
theorem Agree.succ {xs ys : List Int} {k : Nat} (h : Agree xs ys k) (h1 : k < xs.length) (h2 : k < ys.length) (e : xs[k] = ys[k]) : Agree xs ys (k + 1) := by
  unfold Agree at h ⊢
  rw [List.take_succ_eq_append_getElem h1, List.take_succ_eq_append_getElem h2, h, e]
theorem Agree.bad {xs ys : List Int} {k : Nat} (h1 : k < xs.length) (h2 : k < ys.length) (e : xs[k] ≠ ys[k]) : decide (xs = ys) = false := by
  rw [decide_eq_false]
  rintro rfl
  exact e rfl
theorem Agree.good {xs ys : List Int} (h : Agree xs ys xs.length) (hl : xs.length = ys.length) : decide (xs = ys) = true := by
  unfold Agree at h
  rw [List.take_length, hl, List.take_length] at h
  simpa using h
theorem len_ne {xs ys : List Int} (h : xs.length ≠ ys.length) : decide (xs = ys) = false := by
  rw [decide_eq_false]
  rintro rfl
  exact h rfl

theorem IntsAt.cellAt {w : World} {B : Nat} {A : Option Addr} {n : Nat} {zs : List Int} (h : IntsAt w B A n zs) {k : Nat} (hk : k < n) : ∃ b off z, A = some ⟨b, off, none⟩ ∧ w.cell? ⟨b, off + k, none⟩ = some (.int .i64 z) ∧ ∃ hk' : k < zs.length, zs[k] = z := by
  obtain ⟨b, off, e, _, hc⟩ := h.mem (by omega)
  have hk' : k < zs.length := by rw [← h.len]; exact hk
  exact ⟨b, off, zs[k], e, hc k hk', hk', rfl⟩

end Go.Proofs.Ytojofbmpknpggaa

/- Contract: the statements' own 'Small'. -/
namespace Go.Proofs.Ytojofbmpknpggaa
open Go.RowKit

/-- A slice's header. -/
abbrev Hd := Option Addr × Nat × Nat
def Hd.val (x : Hd) : Value := .slice x.1 x.2.1 x.2.2
/-- The slice value '.slice A n c' holds the slices ls. -/
structure HdsAt (w : World) (B : Nat) (A : Option Addr) (n : Nat) (ls : List Hd) : Prop where
  len : n = ls.length
  max : n ≤ 9223372036854775807
  mem : 0 < n → ∃ b off, A = some ⟨b, off, none⟩ ∧ b < B ∧ ∀ j (h : j < ls.length), w.cell? ⟨b, off + j, none⟩ = some (.slice ls[j].1 ls[j].2.1 ls[j].2.2)
theorem HdsAt.keep {w w' : World} {B : Nat} {A : Option Addr} {n : Nat} {ls : List Hd} (h : HdsAt w B A n ls) (hk : ∀ p : Addr, p.block < B → w'.cell? p = w.cell? p) : HdsAt w' B A n ls :=
  ⟨h.len, h.max, fun hn => by
    obtain ⟨b, off, e, hb, hs⟩ := h.mem hn
    exact ⟨b, off, e, hb, fun j hj => (hk _ hb).trans (hs j hj)⟩⟩
theorem HdsAt.more {w : World} {B B' : Nat} {A : Option Addr} {n : Nat} {ls : List Hd} (h : HdsAt w B A n ls) (hB : B ≤ B') : HdsAt w B' A n ls :=
  ⟨h.len, h.max, fun hn => by
    obtain ⟨b, off, e, hb, hs⟩ := h.mem hn
    exact ⟨b, off, e, by omega, hs⟩⟩
theorem HdsAt.below {w w' : World} {B : Nat} {A : Option Addr} {n : Nat} {ls : List Hd} (h : HdsAt w B A n ls) (hb : Below B w w') : HdsAt w' B A n ls := h.keep fun _ hp => hb.cell hp
theorem HdsAt.of_blk {w : World} {b : Nat} (ls : List Hd) {n : Nat} {cs : Array Value} (h : Blk w b 45 cs) (hcs : cs = (ls.map Hd.val).toArray) (hn : n = ls.length) (hm : ls.length ≤ 1000000) : HdsAt w w.heap.size (some ⟨b, 0, none⟩) n ls :=
  ⟨hn, by omega, fun _ => ⟨b, 0, rfl, h.lt, fun j hj => by
    rw [h.cell, hcs]
    simp [hj, Hd.val]⟩⟩

end Go.Proofs.Ytojofbmpknpggaa

/- Words: what is read goes up with the worlds; Same of equal lists. -/
namespace Go.Proofs.Ytojofbmpknpggaa
open Go.RowKit

theorem SigAt.up {w w' : World} {n : Nat} {A : Option Addr} {ss : Sg} (h : SigAt w w.heap.size A n ss) (hb : Below w.heap.size w w') : SigAt w' w'.heap.size A n ss := (h.below hb).more hb.size
theorem IntsAt.up {w w' : World} {n : Nat} {A : Option Addr} {zs : List Int} (h : IntsAt w w.heap.size A n zs) (hb : Below w.heap.size w w') : IntsAt w' w'.heap.size A n zs := (h.below hb).more hb.size
theorem below_then {a b c : World} (h : Below a.heap.size a b) (k : Below b.heap.size b c) : Below a.heap.size a c := h.trans (k.mono h.size)

end Go.Proofs.Ytojofbmpknpggaa

/- Contracts: the reference's within, isName, ValidSign. -/
namespace Go.Proofs.Ytojofbmpknpggaa
open Go.RowKit

end Go.Proofs.Ytojofbmpknpggaa

/- Contract: the reference's ValidSign. -/
namespace Go.Proofs.Ytojofbmpknpggaa
open Go.RowKit

end Go.Proofs.Ytojofbmpknpggaa

/- Contracts: the reference's Arity, Valid. -/
namespace Go.Proofs.Ytojofbmpknpggaa
open Go.RowKit

theorem arOf_le {ss : Sg} (har : ArOk ss) (z : Int) : arOf ss z ≤ 3 := by
  unfold arOf
  split
  · omega
  · rw [List.getElem?_map]
    cases h : ss[z.toNat]? with
    | none => simp
    | some x =>
      have := har x (List.mem_of_getElem? h)
      simp; omega

def Need (ss : Sg) (zs : List Int) (k N : Nat) : Prop := scan ss 1 zs = scan ss N (zs.drop k)
theorem Need.succ {ss : Sg} {zs : List Int} {k N : Nat} (h : Need ss zs k (N + 1)) (hk : k < zs.length) : Need ss zs (k + 1) (N + arOf ss zs[k]) := by
  unfold Need at h ⊢
  rw [h, List.drop_eq_getElem_cons hk]
  rfl
theorem Need.done {ss : Sg} {zs : List Int} {N : Nat} (h : Need ss zs zs.length N) (hn : NumsTo ss zs zs.length) (h1 : 1 ≤ zs.length) (h2 : zs.length ≤ 60) : termOk ss zs = ((N : Int) == 0) := by
  rw [termOk_good h1 h2 hn]
  unfold Need at h
  rw [h, List.drop_length]
  cases N with
  | zero => simp [scan_zero]
  | succ N =>
    have : (((N + 1 : Nat) : Int) == 0) = false := by simp; omega
    rw [this]
    simp [scan]

end Go.Proofs.Ytojofbmpknpggaa

/- Contract: the reference's End. -/
namespace Go.Proofs.Ytojofbmpknpggaa
open Go.RowKit

theorem scan_step {ss : Sg} {zs : List Int} {p N : Nat} {r : List Int} (h : scan ss (N + 1) (zs.drop p) = some r) : ∃ hp : p < zs.length, scan ss (N + arOf ss zs[p]) (zs.drop (p + 1)) = some r := by
  by_cases hp : p < zs.length
  · refine ⟨hp, ?_⟩
    rw [List.drop_eq_getElem_cons hp] at h
    exact h
  · rw [List.drop_of_length_le (by omega)] at h
    cases h
end Go.Proofs.Ytojofbmpknpggaa

/- Words: the statements' own sign in memory. -/
namespace Go.Proofs.Ytojofbmpknpggaa
open Go.RowKit

theorem ints_of_blk {W : World} {b : Nat} (zs : List Int) (n : Nat) (cs : Array Value) (hcs : cs = (zs.map (Value.int .i64)).toArray) (h : Blk W b 3 cs) (hn : n = zs.length) (hm : zs.length ≤ 1000000) : IntsAt W W.heap.size (some ⟨b, 0, none⟩) n zs := by
  subst hcs
  exact IntsAt.of_blk h hn hm

end Go.Proofs.Ytojofbmpknpggaa

namespace Go.Proofs.Ytojofbmpknpggaa
open Go.RowKit

end Go.Proofs.Ytojofbmpknpggaa
