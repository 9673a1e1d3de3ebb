/- Words for memory: a slice of ints, of terms, a sign, that read as lists. -/
import Derived.Test.YtpliamckapkhmaaRows
import Derived.WalkKit
import Derived.WalkSpells
import Derived.WalkLawsBesides
import Derived.LoopTactic
import Derived.Lib.Hide
import Derived.Maps.OwnOps
import Derived.Maps.OwnSet
import Derived.Deep.LoopGhost
namespace Go.Proofs.Ytpliamckapkhmaa
open Go.RowKit Go.WideMaps

theorem ret_b {a b : Bool} (h : a = b) : Ending.returned (.bool a) = .returned (.bool b) := by rw [h]
theorem ret_i {k : IntKind} {a b : Int} (h : a = b) : Ending.returned (.int k a) = .returned (.int k b) := by rw [h]

/-- A sign: the symbols with their names and arities. -/
abbrev Sg := List (ByteArray × Int)

structure SigIn (w : World) (b off : Nat) (ss : Sg) : Prop where
  name : ∀ j (h : j < ss.length), w.cell? ⟨b, off + j * 2, none⟩ = some (.string ss[j].1)
  ar : ∀ j (h : j < ss.length), w.cell? ⟨b, off + j * 2 + 1, none⟩ = some (.int .i64 ss[j].2)

/-- The slice value '.slice A n c' reads as the sign ss, in blocks below B. -/
structure SigAt (w : World) (B : Nat) (A : Option Addr) (n : Nat) (ss : Sg) : Prop where
  len : n = ss.length
  fit : ∀ x ∈ ss, x.1.size ≤ maxLen
  max : n ≤ 9223372036854775807
  mem : 0 < n → ∃ b off, A = some ⟨b, off, none⟩ ∧ b < B ∧ SigIn w b off ss

theorem SigIn.keep {w w' : World} {b off : Nat} {ss : Sg} (h : SigIn w b off ss) (hk : ∀ o, w'.cell? ⟨b, o, none⟩ = w.cell? ⟨b, o, none⟩) : SigIn w' b off ss :=
  ⟨fun j hj => (hk _).trans (h.name j hj), fun j hj => (hk _).trans (h.ar j hj)⟩
theorem SigAt.keep {w w' : World} {B n : Nat} {A : Option Addr} {ss : Sg} (h : SigAt w B A n ss) (hk : ∀ p : Addr, p.block < B → w'.cell? p = w.cell? p) : SigAt w' B A n ss :=
  ⟨h.len, h.fit, h.max, fun hn => by
    obtain ⟨b, off, e, hb, hs⟩ := h.mem hn
    exact ⟨b, off, e, hb, hs.keep fun o => hk _ hb⟩⟩
theorem SigAt.more {w : World} {B B' n : Nat} {A : Option Addr} {ss : Sg} (h : SigAt w B A n ss) (hB : B ≤ B') : SigAt w B' A n ss :=
  ⟨h.len, h.fit, h.max, fun hn => by
    obtain ⟨b, off, e, hb, hs⟩ := h.mem hn
    exact ⟨b, off, e, by omega, hs⟩⟩
theorem SigAt.below {w w' : World} {B n : Nat} {A : Option Addr} {ss : Sg} (h : SigAt w B A n ss) (hb : Below B w w') : SigAt w' B A n ss := h.keep fun _ hp => hb.cell hp

/-- The slice value '.slice A n c' reads as the numbers zs, in blocks below B. -/
structure IntsAt (w : World) (B : Nat) (A : Option Addr) (n : Nat) (zs : List Int) : Prop where
  len : n = zs.length
  max : n ≤ 9223372036854775807
  mem : 0 < n → ∃ b off, A = some ⟨b, off, none⟩ ∧ b < B ∧ ∀ j (h : j < zs.length), w.cell? ⟨b, off + j, none⟩ = some (.int .i64 zs[j])

theorem IntsAt.keep {w w' : World} {B n : Nat} {A : Option Addr} {zs : List Int} (h : IntsAt w B A n zs) (hk : ∀ p : Addr, p.block < B → w'.cell? p = w.cell? p) : IntsAt w' B A n zs :=
  ⟨h.len, h.max, fun hn => by
    obtain ⟨b, off, e, hb, hs⟩ := h.mem hn
    exact ⟨b, off, e, hb, fun j hj => (hk _ hb).trans (hs j hj)⟩⟩
theorem IntsAt.more {w : World} {B B' n : Nat} {A : Option Addr} {zs : List Int} (h : IntsAt w B A n zs) (hB : B ≤ B') : IntsAt w B' A n zs :=
  ⟨h.len, h.max, fun hn => by
    obtain ⟨b, off, e, hb, hs⟩ := h.mem hn
    exact ⟨b, off, e, by omega, hs⟩⟩
theorem IntsAt.below {w w' : World} {B n : Nat} {A : Option Addr} {zs : List Int} (h : IntsAt w B A n zs) (hb : Below B w w') : IntsAt w' B A n zs := h.keep fun _ hp => hb.cell hp

/-- Block b is a map of strings to bools in which just the names of l are true. -/
def Taken (w : World) (b n : Nat) (l : List (List UInt8)) : Prop :=
  ∃ D : DataW Unit, w.ownsMap Try.prog 9 (plainElem Try.prog 4) b n D ∧ ∀ key : List UInt8, D.atKey (.string key) (.lit (.bool false)) = .lit (.bool (l.contains key))

theorem plainElem_bool_inv {H : Type} {P : Program} {e : TypeId} (he : P.underlying e = some .bool) {v : Value} {z : DataW H × List MemPlace} (h : plainElem P e v = some z) : ∃ a, v = .bool a ∧ z = (.lit (.bool a), []) := by
  unfold plainElem at h
  rw [he] at h
  cases v <;> simp at h
  subst h
  exact ⟨_, rfl, rfl⟩

theorem Taken.made (w : World) : Taken (w.alloc (.map #[] 0)) w.heap.size 0 [] := by
  refine ⟨.map [], World.ownsMap_made _ _ _ _, fun key => ?_⟩
  rfl
theorem Taken.alloc {w : World} {b n : Nat} {l : List (List UInt8)} (h : Taken w b n l) (o : Obj) : Taken (w.alloc o) b n l := by
  obtain ⟨D, h1, h2⟩ := h
  exact ⟨D, h1.alloc o, h2⟩
theorem Taken.lt {w : World} {b n : Nat} {l : List (List UInt8)} (h : Taken w b n l) : b < w.heap.size := by
  obtain ⟨D, h1, h2⟩ := h
  exact h1.lt

theorem zeroBool (w : World) : (zeroValue 4).run Try.prog w = .ok (.bool false) w := by kernel_rfl
theorem Taken.look {w : World} {b n : Nat} {l : List (List UInt8)} (h : Taken w b n l) (s : ByteArray) (hs : s.size ≤ maxLen) :
    (Instr.lookup 157 (.map (some b)) (.string s) false).run Try.prog w = .ok (.bool (l.contains s.data.toList)) w := by
  obtain ⟨D, h1, h2⟩ := h
  obtain ⟨v, ps, hrun, hv⟩ := h1.lookup (Maps.string_keyed Try.underlying9) Try.underlying157 (zeroBool w) (plainElem_bool Try.underlying4 false) (key := .string s) (keyOf_string_mk Try.underlying9 hs)
  rw [h2] at hv
  obtain ⟨a, rfl, hz⟩ := plainElem_bool_inv Try.underlying4 hv
  simp only [Prod.mk.injEq] at hz
  have e : l.contains s.data.toList = a := by simpa using hz.1
  rw [hrun, e]

theorem run_update (b n : Nat) (w : World) (l : List (List UInt8)) (h : Taken w b n l) (s : ByteArray) (hs : s.size ≤ maxLen) (hn : n < maxLen) :
    ∃ w', (Instr.mapUpdate 157 (.map (some b)) (.string s) (.bool true)).run Try.prog w = .ok () w' ∧ Taken w' b (n + 1) (s.data.toList :: l) ∧ w.grownBy w' (some b) := by
  obtain ⟨D, h1, h2⟩ := h
  have hm := h1.isMap
  obtain ⟨w', hrun, hown, hg⟩ := h1.update (Maps.string_keyed Try.underlying9) Try.underlying157 hn (key := .string s) (val := .bool true) (keyOf_string_mk Try.underlying9 hs) (plainElem_bool Try.underlying4 true)
  refine ⟨w', hrun, ⟨_, hown, fun key => ?_⟩, hg⟩
  by_cases e : key = s.data.toList
  · subst e
    rw [Maps.atKey_put_same hm (by trivial)]
    simp
  · rw [Maps.atKey_put_other (by simpa using e), h2]
    simp [e]

end Go.Proofs.Ytpliamckapkhmaa
