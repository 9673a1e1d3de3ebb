/- Contract: ValidSign. -/
import Derived.Test.YtojofbmpknpggaaRows
import Derived.WalkKit
import Derived.WalkSpells
import Derived.WalkLawsBesides
import Derived.LoopTactic
import Derived.Lib.Hide
import Derived.Maps.OwnOps
import Derived.Maps.OwnSet
import Derived.Deep.LoopGhost
/- Words for memory: a slice of ints, of terms, a sign, that read as lists. -/
namespace Go.Proofs.Ytojofbmpknpggaa
open Go.RowKit Go.WideMaps

theorem ret_b {a b : Bool} (h : a = b) : Ending.returned (.bool a) = .returned (.bool b) := by rw [h]
theorem ret_i {k : IntKind} {a b : Int} (h : a = b) : Ending.returned (.int k a) = .returned (.int k b) := by rw [h]

/-- A sign: the symbols with their names and arities. -/
abbrev Sg := List (ByteArray × Int)

structure SigIn (w : World) (b off : Nat) (ss : Sg) : Prop where
  name : ∀ j (h : j < ss.length), w.cell? ⟨b, off + j * 2, none⟩ = some (.string ss[j].1)
  ar : ∀ j (h : j < ss.length), w.cell? ⟨b, off + j * 2 + 1, none⟩ = some (.int .i64 ss[j].2)

/-- The slice value '.slice A n c' reads as the sign ss, in blocks below B. -/
structure SigAt (w : World) (B : Nat) (A : Option Addr) (n : Nat) (ss : Sg) : Prop where
  len : n = ss.length
  fit : ∀ x ∈ ss, x.1.size ≤ maxLen
  max : n ≤ 9223372036854775807
  mem : 0 < n → ∃ b off, A = some ⟨b, off, none⟩ ∧ b < B ∧ SigIn w b off ss

theorem SigIn.keep {w w' : World} {b off : Nat} {ss : Sg} (h : SigIn w b off ss) (hk : ∀ o, w'.cell? ⟨b, o, none⟩ = w.cell? ⟨b, o, none⟩) : SigIn w' b off ss :=
  ⟨fun j hj => (hk _).trans (h.name j hj), fun j hj => (hk _).trans (h.ar j hj)⟩
theorem SigAt.keep {w w' : World} {B n : Nat} {A : Option Addr} {ss : Sg} (h : SigAt w B A n ss) (hk : ∀ p : Addr, p.block < B → w'.cell? p = w.cell? p) : SigAt w' B A n ss :=
  ⟨h.len, h.fit, h.max, fun hn => by
    obtain ⟨b, off, e, hb, hs⟩ := h.mem hn
    exact ⟨b, off, e, hb, hs.keep fun o => hk _ hb⟩⟩
theorem SigAt.more {w : World} {B B' n : Nat} {A : Option Addr} {ss : Sg} (h : SigAt w B A n ss) (hB : B ≤ B') : SigAt w B' A n ss :=
  ⟨h.len, h.fit, h.max, fun hn => by
    obtain ⟨b, off, e, hb, hs⟩ := h.mem hn
    exact ⟨b, off, e, by omega, hs⟩⟩
theorem SigAt.below {w w' : World} {B n : Nat} {A : Option Addr} {ss : Sg} (h : SigAt w B A n ss) (hb : Below B w w') : SigAt w' B A n ss := h.keep fun _ hp => hb.cell hp

/-- The slice value '.slice A n c' reads as the numbers zs, in blocks below B. -/
structure IntsAt (w : World) (B : Nat) (A : Option Addr) (n : Nat) (zs : List Int) : Prop where
  len : n = zs.length
  max : n ≤ 9223372036854775807
  mem : 0 < n → ∃ b off, A = some ⟨b, off, none⟩ ∧ b < B ∧ ∀ j (h : j < zs.length), w.cell? ⟨b, off + j, none⟩ = some (.int .i64 zs[j])

theorem IntsAt.keep {w w' : World} {B n : Nat} {A : Option Addr} {zs : List Int} (h : IntsAt w B A n zs) (hk : ∀ p : Addr, p.block < B → w'.cell? p = w.cell? p) : IntsAt w' B A n zs :=
  ⟨h.len, h.max, fun hn => by
    obtain ⟨b, off, e, hb, hs⟩ := h.mem hn
    exact ⟨b, off, e, hb, fun j hj => (hk _ hb).trans (hs j hj)⟩⟩
theorem IntsAt.more {w : World} {B B' n : Nat} {A : Option Addr} {zs : List Int} (h : IntsAt w B A n zs) (hB : B ≤ B') : IntsAt w B' A n zs :=
  ⟨h.len, h.max, fun hn => by
    obtain ⟨b, off, e, hb, hs⟩ := h.mem hn
    exact ⟨b, off, e, by omega, hs⟩⟩
theorem IntsAt.below {w w' : World} {B n : Nat} {A : Option Addr} {zs : List Int} (h : IntsAt w B A n zs) (hb : Below B w w') : IntsAt w' B A n zs := h.keep fun _ hp => hb.cell hp

/-- Block b is a map of strings to bools in which just the names of l are true. -/
def Taken (w : World) (b n : Nat) (l : List (List UInt8)) : Prop :=
  ∃ D : DataW Unit, w.ownsMap Try.prog 9 (plainElem Try.prog 4) b n D ∧ ∀ key : List UInt8, D.atKey (.string key) (.lit (.bool false)) = .lit (.bool (l.contains key))

theorem plainElem_bool_inv {H : Type} {P : Program} {e : TypeId} (he : P.underlying e = some .bool) {v : Value} {z : DataW H × List MemPlace} (h : plainElem P e v = some z) : ∃ a, v = .bool a ∧ z = (.lit (.bool a), []) := by
  unfold plainElem at h
  rw [he] at h
  cases v <;> simp at h
  subst h
  exact ⟨_, rfl, rfl⟩

theorem Taken.made (w : World) : Taken (w.alloc (.map #[] 0)) w.heap.size 0 [] := by
  refine ⟨.map [], World.ownsMap_made _ _ _ _, fun key => ?_⟩
  rfl
theorem Taken.alloc {w : World} {b n : Nat} {l : List (List UInt8)} (h : Taken w b n l) (o : Obj) : Taken (w.alloc o) b n l := by
  obtain ⟨D, h1, h2⟩ := h
  exact ⟨D, h1.alloc o, h2⟩
theorem Taken.lt {w : World} {b n : Nat} {l : List (List UInt8)} (h : Taken w b n l) : b < w.heap.size := by
  obtain ⟨D, h1, h2⟩ := h
  exact h1.lt

theorem zeroBool (w : World) : (zeroValue 4).run Try.prog w = .ok (.bool false) w := by kernel_rfl
theorem Taken.look {w : World} {b n : Nat} {l : List (List UInt8)} (h : Taken w b n l) (s : ByteArray) (hs : s.size ≤ maxLen) :
    (Instr.lookup 102 (.map (some b)) (.string s) false).run Try.prog w = .ok (.bool (l.contains s.data.toList)) w := by
  obtain ⟨D, h1, h2⟩ := h
  obtain ⟨v, ps, hrun, hv⟩ := h1.lookup (Maps.string_keyed Try.underlying9) Try.underlying102 (zeroBool w) (plainElem_bool Try.underlying4 false) (key := .string s) (keyOf_string_mk Try.underlying9 hs)
  rw [h2] at hv
  obtain ⟨a, rfl, hz⟩ := plainElem_bool_inv Try.underlying4 hv
  simp only [Prod.mk.injEq] at hz
  have e : l.contains s.data.toList = a := by simpa using hz.1
  rw [hrun, e]

theorem run_update (b n : Nat) (w : World) (l : List (List UInt8)) (h : Taken w b n l) (s : ByteArray) (hs : s.size ≤ maxLen) (hn : n < maxLen) :
    ∃ w', (Instr.mapUpdate 102 (.map (some b)) (.string s) (.bool true)).run Try.prog w = .ok () w' ∧ Taken w' b (n + 1) (s.data.toList :: l) ∧ w.grownBy w' (some b) := by
  obtain ⟨D, h1, h2⟩ := h
  have hm := h1.isMap
  obtain ⟨w', hrun, hown, hg⟩ := h1.update (Maps.string_keyed Try.underlying9) Try.underlying102 hn (key := .string s) (val := .bool true) (keyOf_string_mk Try.underlying9 hs) (plainElem_bool Try.underlying4 true)
  refine ⟨w', hrun, ⟨_, hown, fun key => ?_⟩, hg⟩
  by_cases e : key = s.data.toList
  · subst e
    rw [Maps.atKey_put_same hm (by trivial)]
    simp
  · rw [Maps.atKey_put_other (by simpa using e), h2]
    simp [e]

end Go.Proofs.Ytojofbmpknpggaa

/- Contracts of term's small functions on names: letter, validName. -/
namespace Go.Proofs.Ytojofbmpknpggaa
open Go.RowKit

def ltrI (n : Int) : Bool := (decide (97 ≤ n) && decide (n ≤ 122)) || (decide (65 ≤ n) && decide (n ≤ 90))
def ltrB (c : UInt8) : Bool := ltrI (c.toNat : Int)


set_option maxHeartbeats 400000 in
theorem letter_any (n : Int) (w : World) :
    Calls Try.prog 83 #[.int .u8 n] w fun e w' => e = .returned (.bool (ltrI n)) ∧ w = w' := by
  unfold ltrI
  by_cases h1 : 97 ≤ n <;> by_cases h2 : n ≤ 122 <;> by_cases h3 : 65 ≤ n <;> by_cases h4 : n ≤ 90
  all_goals first
    | (exfalso; omega)
    | (go_enter Try.func83, Try.ntmps83
       go_wp2
       go_ret
       simp [*])

end Go.Proofs.Ytojofbmpknpggaa

/- Contracts: validName. -/
namespace Go.Proofs.Ytojofbmpknpggaa
open Go.RowKit

def nameOk (l : List UInt8) : Bool := decide (1 ≤ l.length) && decide (l.length ≤ 8) && l.all ltrB
def Lets (s : ByteArray) (k : Nat) : Prop := ∀ j (h : j < s.size), j < k → ltrB s[j] = true
theorem Lets.zero (s : ByteArray) : Lets s 0 := fun _ _ h => absurd h (by omega)
theorem Lets.succ {s : ByteArray} {k : Nat} (h : Lets s k) (hk : k < s.size) (e : ltrI (s[k].toNat : Int) = true) : Lets s (k + 1) := by
  intro j hj hlt
  by_cases hjk : j < k
  · exact h j hj hjk
  · obtain rfl : j = k := by omega
    exact e
theorem nameOk_long {s : ByteArray} (h : s.size < 1 ∨ 8 < s.size) : nameOk s.data.toList = false := by
  have e : s.data.toList.length = s.size := by simp
  unfold nameOk
  rw [e]
  rcases h with h | h
  · rw [decide_eq_false (by omega : ¬ 1 ≤ s.size)]; rfl
  · rw [decide_eq_false (by omega : ¬ s.size ≤ 8)]; simp
theorem nameOk_bad {s : ByteArray} {k : Nat} (hk : k < s.size) (e : ltrI (s[k].toNat : Int) = false) : nameOk s.data.toList = false := by
  unfold nameOk
  have : s.data.toList.all ltrB = false := by
    rw [List.all_eq_false]
    refine ⟨s[k], ?_, by show ¬ ltrI _ = true; rw [e]; simp⟩
    exact Array.getElem_mem_toList (xs := s.data) hk
  rw [this]; simp
theorem nameOk_good {s : ByteArray} (h1 : 1 ≤ s.size) (h8 : s.size ≤ 8) (h : Lets s s.size) : nameOk s.data.toList = true := by
  have e : s.data.toList.length = s.size := by simp
  unfold nameOk
  rw [e, decide_eq_true h1, decide_eq_true h8]
  simp only [Bool.true_and, List.all_eq_true]
  intro c hc
  obtain ⟨i, hi, rfl⟩ := List.mem_iff_getElem.1 hc
  have hi' : i < s.size := by simpa using hi
  exact h i hi' hi'

theorem validName_out (s : ByteArray) (w : World) (hs : s.size ≤ maxLen) (h : s.size < 1 ∨ 8 < s.size) :
    Calls Try.prog 76 #[.string s] w fun e w' => e = .returned (.bool (nameOk s.data.toList)) ∧ w = w' := by
  have H := Lib.hid (nameOk_long h)
  unfold maxLen at hs
  rcases h with h | h
  · go_enter Try.func76, Try.ntmps76
    go_wp2
    go_ret
    exact ⟨ret_b H.out.symm, rfl⟩
  · have h' : ¬ s.size < 1 := by omega
    go_enter Try.func76, Try.ntmps76
    go_wp2
    go_ret
    exact ⟨ret_b H.out.symm, rfl⟩

set_option maxHeartbeats 400000 in
theorem validName_in (s : ByteArray) (w : World) (h1 : 1 ≤ s.size) (h8 : s.size ≤ 8) :
    Calls Try.prog 76 #[.string s] w fun e w' => e = .returned (.bool (nameOk s.data.toList)) ∧ w = w' := by
  have h1' : ¬ s.size < 1 := by omega
  go_enter Try.func76, Try.ntmps76
  go_wp2
  go_loop [14] (fun i => ∃ k : Nat, k ≤ s.size ∧ i = .int .i64 k ∧ Lets s k) (fun i => s.size - (intOf i).toNat)
  case atStart => exact ⟨0, Nat.zero_le _, rfl, Lets.zero s⟩
  case round =>
    obtain ⟨k, hk, rfl, hL⟩ := hrel
    by_cases hlt : k < s.size
    · cases hb : ltrI (s[k].toNat : Int)
      · have H := Lib.hid (nameOk_bad hlt hb)
        have HB := Lib.hid hb
        clear hb
        go_wp2_with (go_at_call 83; refine (letter_any _ _).mono ?_; rintro e w' ⟨rfl, rfl⟩; rw [HB.out])
        go_ret
        exact ⟨ret_b H.out.symm, rfl⟩
      · have H := Lib.hid (hL.succ hlt hb)
        have HB := Lib.hid hb
        clear hb
        go_wp2_with (go_at_call 83; refine (letter_any _ _).mono ?_; rintro e w' ⟨rfl, rfl⟩; rw [HB.out])
        go_round
        case rel => exact ⟨k + 1, by omega, by go_num, H.out⟩
        case measure => simp [intOf]; omega
    · obtain rfl : k = s.size := by omega
      have H := Lib.hid (nameOk_good h1 h8 hL)
      go_wp2
      go_ret
      exact ⟨ret_b H.out.symm, rfl⟩

theorem validName_any (s : ByteArray) (w : World) (hs : s.size ≤ maxLen) :
    Calls Try.prog 76 #[.string s] w fun e w' => e = .returned (.bool (nameOk s.data.toList)) ∧ w = w' := by
  by_cases h : s.size < 1 ∨ 8 < s.size
  · exact validName_out s w hs h
  · exact validName_in s w (by omega) (by omega)

end Go.Proofs.Ytojofbmpknpggaa

namespace Go.Proofs.Ytojofbmpknpggaa
open Go.RowKit

def symOk (l : List (List UInt8)) (x : ByteArray × Int) : Bool := nameOk x.1.data.toList && (!(l.contains x.1.data.toList) && (decide (0 ≤ x.2) && decide (x.2 ≤ 3)))
def sigGo : List (List UInt8) → Sg → Bool
  | _, [] => true
  | l, x :: r => symOk l x && sigGo (x.1.data.toList :: l) r
def sigHead : Sg → Bool
  | [] => false
  | x :: _ => decide (x.2 = 2)
def sigOk (ss : Sg) : Bool := decide (1 ≤ ss.length) && (decide (ss.length ≤ 12) && (sigHead ss && sigGo [] ss))

def nms (ss : Sg) (k : Nat) : List (List UInt8) := ((ss.take k).map (fun x => x.1.data.toList)).reverse
theorem nms_succ {ss : Sg} {k : Nat} (h : k < ss.length) : nms ss (k + 1) = ss[k].1.data.toList :: nms ss k := by
  unfold nms
  rw [List.take_succ_eq_append_getElem h, List.map_append, List.reverse_append]
  rfl
def Goes (ss : Sg) (k : Nat) : Prop := sigGo (nms ss k) (ss.drop k) = sigGo [] ss
theorem Goes.zero (ss : Sg) : Goes ss 0 := by simp [Goes, nms]
theorem Goes.succ {ss : Sg} {k : Nat} (h : Goes ss k) (hk : k < ss.length) (e : symOk (nms ss k) ss[k] = true) : Goes ss (k + 1) := by
  unfold Goes at h ⊢
  rw [← h, List.drop_eq_getElem_cons hk, nms_succ hk]
  simp [sigGo, e]
theorem Goes.bad {ss : Sg} {k : Nat} (h : Goes ss k) (hk : k < ss.length) (e : symOk (nms ss k) ss[k] = false) : sigOk ss = false := by
  unfold Goes at h
  rw [List.drop_eq_getElem_cons hk] at h
  simp only [sigGo, e, Bool.false_and] at h
  simp [sigOk, ← h]
theorem Goes.good {ss : Sg} (h : Goes ss ss.length) (h1 : 1 ≤ ss.length) (h2 : ss.length ≤ 12) (h3 : sigHead ss = true) : sigOk ss = true := by
  unfold Goes at h
  rw [List.drop_length] at h
  simp [sigOk, ← h, sigGo, h1, h2, h3]
theorem sigOk_out {ss : Sg} (h : ss.length < 1 ∨ 12 < ss.length) : sigOk ss = false := by
  unfold sigOk
  rcases h with h | h
  · rw [decide_eq_false (by omega : ¬ 1 ≤ ss.length)]; rfl
  · rw [decide_eq_false (by omega : ¬ ss.length ≤ 12)]; simp
theorem sigOk_head {ss : Sg} (h : sigHead ss = false) : sigOk ss = false := by
  simp [sigOk, h]

set_option maxHeartbeats 400000 in
theorem validSign_out (A : Option Addr) (n c : Nat) (ss : Sg) (w : World) (B : Nat) (hs : SigAt w B A n ss) (h : n < 1 ∨ 12 < n) :
    Calls Try.prog 69 #[.slice A n c] w fun e w' => e = .returned (.bool (sigOk ss)) ∧ w = w' := by
  have hl := hs.len
  have H := Lib.hid (sigOk_out (ss := ss) (by omega))
  have hm := hs.max
  clear hl hs
  rcases h with h | h
  · go_enter Try.func69, Try.ntmps69
    go_wp2
    go_ret
    exact ⟨ret_b H.out.symm, rfl⟩
  · have h' : ¬ n < 1 := by omega
    go_enter Try.func69, Try.ntmps69
    go_wp2
    go_ret
    exact ⟨ret_b H.out.symm, rfl⟩

set_option maxHeartbeats 400000 in
theorem validSign_head (b off n c : Nat) (nm : ByteArray) (ar : Int) (r : Sg) (w : World) (hs : SigIn w b off ((nm, ar) :: r)) (hn : 1 ≤ n) (hn2 : n ≤ 12) (h : ¬ ar = 2) :
    Calls Try.prog 69 #[.slice (some ⟨b, off, none⟩) n c] w fun e w' => e = .returned (.bool (sigOk ((nm, ar) :: r))) ∧ w = w' := by
  have H := Lib.hid (sigOk_head (ss := (nm, ar) :: r) (by simp [sigHead, h]))
  have c1 := hs.ar 0 (by simp)
  simp only [Nat.zero_mul, Nat.add_zero, List.getElem_cons_zero] at c1
  clear hs
  have h' : ¬ n < 1 := by omega
  have h2 : (ar != 2) = true := by simpa using h
  go_enter Try.func69, Try.ntmps69
  go_wp2
  go_ret
  exact ⟨ret_b H.out.symm, rfl⟩

set_option maxRecDepth 100000 in
set_option maxHeartbeats 1000000 in
theorem validSign_in (b off n c : Nat) (ss : Sg) (w : World) (hs : SigIn w b off ss) (hb : b < w.heap.size) (hfit : ∀ x ∈ ss, x.1.size ≤ maxLen) (hl : ss.length = n) (hn : 1 ≤ n) (hn2 : n ≤ 12) (hh : sigHead ss = true) (c2 : w.cell? ⟨b, off + 1, none⟩ = some (.int .i64 2)) :
    Calls Try.prog 69 #[.slice (some ⟨b, off, none⟩) n c] w fun e w' => e = .returned (.bool (sigOk ss)) ∧ Below w.heap.size w w' := by
  have HH := Lib.hid hh
  have HL := Lib.hid hl
  clear hh hl
  have h' : ¬ n < 1 := by omega
  have hmm := @run_makeMap Try.prog
  go_enter Try.func69, Try.ntmps69
  go_wp2
  clear c2
  go_loopw [24] (fun i wr => ∃ k : Nat, k ≤ n ∧ i = .int .i64 k ∧ Taken wr w.heap.size k (nms ss k) ∧ Below w.heap.size w wr ∧ Goes ss k) (fun i _ => n - (intOf i).toNat)
  case atStart => exact ⟨0, Nat.zero_le _, rfl, Taken.made w, (Below.refl _ _).alloc (Nat.le_refl _) _, Goes.zero ss⟩
  case round =>
    obtain ⟨k, hk, rfl, hT, hB, hG⟩ := hrel
    by_cases hlt : k < n
    · have hk' : k < ss.length := by rw [HL.out]; exact hlt
      have hc0 := (hB.cell (p := ⟨b, off + k * 2, none⟩) hb).trans (hs.name k hk')
      have hc1 := (hB.cell (p := ⟨b, off + k * 2 + 1, none⟩) hb).trans (hs.ar k hk')
      have hf := hfit ss[k] (List.getElem_mem hk')
      have hnx := nms_succ hk'
      have hbad := hG.bad hk'
      have hgood := hG.succ hk'
      obtain ⟨nm, ar, hx⟩ : ∃ nm ar, ss[k] = (nm, ar) := ⟨_, _, rfl⟩
      rw [hx] at hc0 hc1 hf hnx hbad hgood
      simp only at hc0 hc1 hf hnx
      have hT2 := hT.alloc (.cells #[.string nm, .int .i64 ar] 42)
      have hlk := hT2.look nm hf
      have hB2 := hB.alloc hB.size (.cells #[.string nm, .int .i64 ar] 42)
      have hup := run_update _ _ _ _ hT2 nm hf (by unfold maxLen; omega)
      clear hx hs hG
      cases e1 : nameOk nm.data.toList
      · have H := Lib.hid (hbad (by simp [symOk, e1]))
        have E1 := Lib.hid e1
        clear e1 hup hgood hbad hnx hlk
        go_wp2_with (go_at_call 76; refine (validName_any _ _ hf).mono ?_; rintro e w' ⟨rfl, rfl⟩; rw [E1.out])
        go_ret
        exact ⟨ret_b H.out.symm, hB2⟩
      · have E1 := Lib.hid e1
        cases e2 : (nms ss k).contains nm.data.toList
        · rw [e2] at hlk
          by_cases e3 : ar < 0
          · have H := Lib.hid (hbad (by simp [symOk, show ¬ 0 ≤ ar from by omega]))
            clear e1 e2 hup hgood hbad hnx
            go_wp2_with (go_at_call 76; refine (validName_any _ _ hf).mono ?_; rintro e w' ⟨rfl, rfl⟩; rw [E1.out])
            go_ret
            exact ⟨ret_b H.out.symm, hB2⟩
          · by_cases e4 : 3 < ar
            · have H := Lib.hid (hbad (by simp [symOk, show ¬ ar ≤ 3 from by omega]))
              have e3' : 0 ≤ ar := by omega
              clear e1 e2 hup hgood hbad hnx e3
              go_wp2_with (go_at_call 76; refine (validName_any _ _ hf).mono ?_; rintro e w' ⟨rfl, rfl⟩; rw [E1.out])
              go_ret
              exact ⟨ret_b H.out.symm, hB2⟩
            · have H := Lib.hid (hgood (by simp only [symOk, e1, e2]; simp; omega))
              rw [← hnx] at hup
              obtain ⟨w3, hup, hT3, hg3⟩ := hup
              have hB3 := hB2.grown hg3 hB2.size (fun j e => by cases e; exact Nat.le_refl _)
              have HT3 := Lib.hid hT3
              have e3' : 0 ≤ ar := by omega
              have e4' : ar ≤ 3 := by omega
              clear e1 e2 hgood hbad hnx e3 e4 hT3 hT2 hT
              go_wp2_with (go_at_call 76; refine (validName_any _ _ hf).mono ?_; rintro e w' ⟨rfl, rfl⟩; rw [E1.out])
              go_roundw
              case rel => exact ⟨k + 1, by omega, by go_num, HT3.out, hB3, H.out⟩
              case measure => simp [intOf]; omega
        · rw [e2] at hlk
          have H := Lib.hid (hbad (by simp only [symOk, e1, e2]; rfl))
          clear e1 e2 hup hgood hbad hnx
          go_wp2_with (go_at_call 76; refine (validName_any _ _ hf).mono ?_; rintro e w' ⟨rfl, rfl⟩; rw [E1.out])
          go_ret
          exact ⟨ret_b H.out.symm, hB2⟩
    · obtain rfl : k = n := by omega
      have H := Lib.hid (Goes.good (by rw [HL.out]; exact hG) (by rw [HL.out]; exact hn) (by rw [HL.out]; exact hn2) HH.out)
      go_wp2
      go_ret
      exact ⟨ret_b H.out.symm, hB⟩

theorem validSign_any (A : Option Addr) (n c : Nat) (ss : Sg) (w : World) (hs : SigAt w w.heap.size A n ss) :
    Calls Try.prog 69 #[.slice A n c] w fun e w' => e = .returned (.bool (sigOk ss)) ∧ Below w.heap.size w w' := by
  by_cases h : n < 1 ∨ 12 < n
  · exact (validSign_out A n c ss w _ hs h).mono fun e w' ⟨h1, h2⟩ => ⟨h1, h2 ▸ Below.refl _ _⟩
  · obtain ⟨b, off, rfl, hb, hc⟩ := hs.mem (by omega)
    have hl := hs.len
    cases ss with
    | nil => simp at hl; omega
    | cons x r =>
      obtain ⟨nm, ar⟩ := x
      by_cases h2 : ar = 2
      · subst h2
        have c1 := hc.ar 0 (by simp)
        simp only [Nat.zero_mul, Nat.add_zero, List.getElem_cons_zero] at c1
        exact validSign_in b off n c _ w hc hb hs.fit hl.symm (by omega) (by omega) (by simp [sigHead]) c1
      · exact (validSign_head b off n c nm ar r w hc (by omega) (by omega) h2).mono fun e w' ⟨h1, h2⟩ => ⟨h1, h2 ▸ Below.refl _ _⟩

end Go.Proofs.Ytojofbmpknpggaa
