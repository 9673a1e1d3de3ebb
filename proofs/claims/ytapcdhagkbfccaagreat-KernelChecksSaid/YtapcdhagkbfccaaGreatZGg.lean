/- Meets: the plain mathematics. -/
import Derived.Test.YtapcdhagkbfccaaGreatN23g
import Derived.Test.YtapcdhagkbfccaaGreatQ6g
import Derived.Test.YtapcdhagkbfccaaGreatN33g
import Derived.Test.YtapcdhagkbfccaaGreatN35g
import Derived.Test.YtapcdhagkbfccaaGreatL3g
/- Words: the terms that a solver has put for variables, in memory. -/
namespace Go.Proofs.YtapcdhagkbfccaaGreat
open Go.RowKit

/-- No number lies in the block. -/
def NoInt (w : World) (d : Nat) : Prop := ∀ (o : Nat) (z : Int), w.cell? ⟨d, o, none⟩ ≠ some (.int .i64 z)
theorem IntsAt.keepN {w w' : World} {d n : Nat} {A : Option Addr} {zs : List Int} (h : IntsAt w w.heap.size A n zs) (k : KeepE (fun b => b < w.heap.size ∧ b ≠ d) w w') (hn : NoInt w d) : IntsAt w' w'.heap.size A n zs := by
  refine ⟨h.len, h.max, fun h0 => ?_⟩
  obtain ⟨b, off, e, hb, hc⟩ := h.mem h0
  have hl : 0 < zs.length := by rw [← h.len]; exact h0
  have hne : b ≠ d := fun e => hn (off + 0) zs[0] (by rw [← e]; exact hc 0 hl)
  exact ⟨b, off, e, Nat.lt_of_lt_of_le hb k.size, fun j hj => (k.cell (p := ⟨b, off + j, none⟩) ⟨hb, hne⟩).trans (hc j hj)⟩
theorem SigAt.keepN {w w' : World} {d n : Nat} {A : Option Addr} {ss : Sg} (h : SigAt w w.heap.size A n ss) (k : KeepE (fun b => b < w.heap.size ∧ b ≠ d) w w') (hn : NoInt w d) : SigAt w' w'.heap.size A n ss := by
  refine ⟨h.len, h.fit, h.max, fun h0 => ?_⟩
  obtain ⟨b, off, e, hb, hs⟩ := h.mem h0
  have hl : 0 < ss.length := by rw [← h.len]; exact h0
  have hne : b ≠ d := fun e => hn (off + 0 * 2 + 1) ss[0].2 (by rw [← e]; exact hs.ar 0 hl)
  exact ⟨b, off, e, Nat.lt_of_lt_of_le hb k.size, hs.keep fun o => k.cell (p := ⟨b, o, none⟩) ⟨hb, hne⟩⟩
/-- The solver in block d: its sign, and the terms that it has put for variables (none: nil). -/
def SolAt (W : World) (d : Nat) (As : Option Addr) (ns cs : Nat) (T : List (List Int)) : Prop :=
  ∃ hs : List Hd, Blk W d 127 ((As, ns, cs) :: hs |>.map fun h => Value.slice h.1 h.2.1 h.2.2).toArray ∧ hs.length = 24 ∧ T.length = 24 ∧
    ∀ j (h : j < hs.length) (h' : j < T.length), IntsAt W W.heap.size hs[j].1 hs[j].2.1 T[j] ∧ (hs[j].2.1 ≤ hs[j].2.2 ∧ hs[j].2.2 ≤ 9223372036854775807) ∧ (T[j] = [] → hs[j] = (none, 0, 0))
section
variable {W W' : World} {d v ns cs : Nat} {As : Option Addr} {T : List (List Int)}
theorem SolAt.len (h : SolAt W d As ns cs T) : T.length = 24 := by obtain ⟨_, _, _, h, _⟩ := h; exact h
theorem SolAt.lt (h : SolAt W d As ns cs T) : d < W.heap.size := by obtain ⟨_, h, _⟩ := h; exact h.lt
theorem SolAt.noint (h : SolAt W d As ns cs T) : NoInt W d := by
  obtain ⟨hs, h1, _⟩ := h
  intro o z e
  rw [h1.cell, List.getElem?_toArray, List.getElem?_map] at e
  cases he : ((As, ns, cs) :: hs)[o]? with
  | none => rw [he] at e; cases e
  | some x => rw [he] at e; cases e
theorem SolAt.sign (h : SolAt W d As ns cs T) : W.cell? ⟨d, 0, none⟩ = some (.slice As ns cs) := by
  obtain ⟨hs, h1, _⟩ := h
  rw [h1.cell]; simp
theorem SolAt.below (h : SolAt W d As ns cs T) (hb : Below W.heap.size W W') : SolAt W' d As ns cs T := by
  obtain ⟨hs, h1, h2, h3, h4⟩ := h
  exact ⟨hs, h1.below hb h1.lt, h2, h3, fun j a b => ⟨(h4 j a b).1.up hb, (h4 j a b).2⟩⟩
/-- Another block has changed, in which no number lies. -/
theorem SolAt.keep {g : Nat} (h : SolAt W d As ns cs T) (k : KeepE (fun b => b < W.heap.size ∧ b ≠ g) W W') (hg : NoInt W g) (hne : d ≠ g) : SolAt W' d As ns cs T := by
  obtain ⟨hs, h1, h2, h3, h4⟩ := h
  exact ⟨hs, (k.block d ⟨h1.lt, hne⟩).trans h1, h2, h3, fun j a b => ⟨(h4 j a b).1.keepN k hg, (h4 j a b).2⟩⟩
theorem SolAt.get (h : SolAt W d As ns cs T) (hv : v < 24) : ∃ A n c, W.cell? ⟨d, 1 + v, none⟩ = some (.slice A n c) ∧ W.frozen? ⟨d, 1 + v, none⟩ = false ∧ IntsAt W W.heap.size A n (T.getD v []) ∧ (n ≤ c ∧ c ≤ 9223372036854775807) ∧ (T.getD v [] = [] → A = none ∧ n = 0 ∧ c = 0) ∧ (T.getD v [] ≠ [] → ∃ b off, A = some ⟨b, off, none⟩) := by
  obtain ⟨hs, h1, h2, h3, h4⟩ := h
  have hj : v < hs.length := by omega
  have hj' : v < T.length := by omega
  obtain ⟨a1, a2, a3⟩ := h4 v hj hj'
  have e : T.getD v [] = T[v] := by rw [List.getD_eq_getElem?_getD, List.getElem?_eq_getElem hj']; rfl
  rw [e]
  refine ⟨hs[v].1, hs[v].2.1, hs[v].2.2, ?_, h1.frozen _, a1, a2, fun h => by rw [a3 h]; exact ⟨rfl, rfl, rfl⟩, fun h => ?_⟩
  · rw [h1.cell, Nat.add_comm]
    simp [hj]
  · have h0 : 0 < hs[v].2.1 := by
      rw [a1.len]
      exact List.length_pos_iff.2 h
    obtain ⟨b, off, eA, _⟩ := a1.mem h0
    exact ⟨b, off, eA⟩
theorem SolAt.put {A : Option Addr} {n c : Nat} {p : List Int} (h : SolAt W d As ns cs T) (hp : IntsAt W W.heap.size A n p) (hc : n ≤ c ∧ c ≤ 9223372036854775807) (hne : p ≠ []) : SolAt (W.setCell ⟨d, 1 + v, none⟩ (.slice A n c)) d As ns cs (T.set v p) := by
  obtain ⟨hs, h1, h2, h3, h4⟩ := h
  refine ⟨hs.set v (A, n, c), ?_, by simpa using h2, by simpa using h3, fun j a b => ?_⟩
  · have := h1.set_ (1 + v) (.slice A n c)
    rw [Nat.add_comm] at this ⊢
    rw [List.map_cons, List.map_set]
    simpa using this
  · have hsz : (W.setCell ⟨d, 1 + v, none⟩ (.slice A n c)).heap.size = W.heap.size := by simp
    rw [hsz]
    simp only [List.length_set] at a b
    by_cases e : v = j
    · subst e
      rw [List.getElem_set_self, List.getElem_set_self]
      exact ⟨ints_set_blk h1 hp, hc, fun h => absurd h hne⟩
    · rw [List.getElem_set_ne e, List.getElem_set_ne e]
      exact ⟨ints_set_blk h1 (h4 j a b).1, (h4 j a b).2⟩
/-- No term is put. -/
def noTo : List (List Int) := List.replicate 24 []
theorem SolAt.new (h : Blk W d 127 ((As, ns, cs) :: List.replicate 24 (none, 0, 0) |>.map fun h : Hd => Value.slice h.1 h.2.1 h.2.2).toArray) : SolAt W d As ns cs noTo := by
  refine ⟨List.replicate 24 (none, 0, 0), h, rfl, rfl, fun j h1 h2 => ?_⟩
  have e2 : noTo[j] = [] := List.getElem_replicate ..
  rw [e2]
  simp only [List.getElem_replicate]
  exact ⟨⟨rfl, by show 0 ≤ 9223372036854775807; omega, fun h => absurd h (Nat.lt_irrefl 0)⟩, by omega, fun _ => trivial⟩
end

/-- What stands for a term, if it is a variable that has a term: at most m steps. -/
def lookF (T : List (List Int)) : Nat → List Int → Option (List Int)
  | 0, _ => none
  | _ + 1, [] => none
  | m + 1, z :: t => if z < 0 then (if T.getD (-z - 1).toNat [] = [] then some (z :: t) else lookF T m (T.getD (-z - 1).toNat [])) else some (z :: t)
/-- All heads of the terms are numbers of terms. -/
def TosOk (T : List (List Int)) : Prop := ∀ t ∈ T, ∀ z ∈ t, -24 ≤ z
theorem TosOk.getD {T : List (List Int)} (h : TosOk T) (v : Nat) : ∀ z ∈ T.getD v [], -24 ≤ z := by
  intro z hz
  rw [List.getD_eq_getElem?_getD] at hz
  cases e : T[v]? with
  | none => rw [e] at hz; simp at hz
  | some t => rw [e] at hz; exact h t (List.mem_of_getElem? e) z hz
/-- What look hands back. -/
def RetLook (w : World) (r : List Int) (e : Ending) (w' : World) : Prop :=
  ∃ A n c, e = .returned (.slice A n c) ∧ IntsAt w w.heap.size A n r ∧ (n ≤ c ∧ c ≤ 9223372036854775807) ∧ ∃ k, w' = w.drewN k
attribute [local go_sem] eql_nil0 eql_nil1 neq_nil0 neq_nil1

set_option maxRecDepth 100000 in
set_option maxHeartbeats 2000000 in
theorem look_any (d : Nat) (As A : Option Addr) (ns cs n c : Nat) (T : List (List Int)) (m : Nat) (t r : List Int) (w : World) (hS : SolAt w d As ns cs T) (ht : IntsAt w w.heap.size A n t) (hc : n ≤ c ∧ c ≤ 9223372036854775807) (hT : TosOk T) (h24 : ∀ z ∈ t, -24 ≤ z) (hl : lookF T m t = some r) :
    Calls Tryz.prog 118 #[.pointer (some ⟨d, 0, none⟩), .slice A n c] w (RetLook w r) := by
  have HS := Lib.hid hS
  have HT := Lib.hid hT
  have HTT := Lib.hid ht
  have HC := Lib.hid hc
  have H24 := Lib.hid h24
  have HL := Lib.hid hl
  clear hS hT ht hc h24 hl
  go_enter Tryz.func118, Tryz.ntmps118
  go_wp2
  go_loopg [1] m (fun g s1 wr => ∃ (A' : Option Addr) (n' c' : Nat) (t' : List Int), s1 = .slice A' n' c' ∧ Hid (lookF T g t' = some r) ∧ Hid (IntsAt w w.heap.size A' n' t') ∧ Hid (n' ≤ c' ∧ c' ≤ 9223372036854775807) ∧ Hid (∀ z ∈ t', -24 ≤ z) ∧ Hid (∃ k, wr = w.drewN k))
  case atStart => exact ⟨A, n, c, t, rfl, HL, HTT, HC, H24, Lib.hid ⟨0, rfl⟩⟩
  case round =>
    obtain ⟨A', n', c', t', rfl, hL', hI', hC', h24', hW'⟩ := hrel
    obtain ⟨k, hk⟩ := hW'.out
    subst hk
    cases gk with
    | zero => exact absurd hL'.out (by unfold lookF; simp)
    | succ gk =>
    cases t' with
    | nil => exact absurd hL'.out (by unfold lookF; simp)
    | cons z t' =>
      have hI := hI'.out
      have hln := hI.len
      simp only [List.length_cons] at hln
      obtain ⟨b, off, rfl, hb, hcell⟩ := hI.mem (by omega)
      have cz : w.cell? ⟨b, off, none⟩ = some (.int .i64 z) := by have := hcell 0 (by simp); rw [Nat.add_zero] at this; exact this
      have hz24 := h24'.out z (List.mem_cons_self ..)
      have hS := HS.out
      have hn0 : 0 < n' := by omega
      by_cases hneg : z < 0
      · obtain ⟨j, hj⟩ : ∃ j : Nat, -z - 1 = (j : Int) := ⟨(-z - 1).toNat, by omega⟩
        have hj24 : j < 24 := by omega
        have w1' : IntKind.i64.wrap (-z) = -z := by rw [IntKind.wrap_i64]; omega
        have w2' : IntKind.i64.wrap (-z - 1) = (j : Int) := by rw [IntKind.wrap_i64]; omega
        have hj0 : (0 : Int) ≤ (j : Int) := by omega
        have hj1 : (j : Int) < 24 := by omega
        obtain ⟨A5, n5, c5, g1, g2, g3, g4, g5, g6⟩ := hS.get hj24
        have hlf := hL'.out
        unfold lookF at hlf
        rw [if_pos hneg, hj, Int.toNat_natCast] at hlf
        by_cases hnil : T.getD j [] = []
        · obtain ⟨rfl, rfl, rfl⟩ := g5 hnil
          rw [if_pos hnil] at hlf
          have HE := Lib.hid (Option.some.inj hlf)
          clear hI hln hcell hS hlf hnil g3 g4 g5 g6 g2 hj
          go_wp2
          go_quiet (fail)
          go_wp2
          go_ret
          exact ⟨_, _, _, rfl, by rw [← HE.out]; exact hI'.out, hC'.out, _, by rw [World.drewN_drewN]⟩
        · obtain ⟨b5, off5, rfl⟩ := g6 hnil
          rw [if_neg hnil] at hlf
          have HLF := Lib.hid hlf
          have HI5 := Lib.hid g3
          have HC5 := Lib.hid g4
          have H245 := Lib.hid (HT.out.getD j)
          clear hI hln hcell hS hlf hnil g3 g4 g5 g6 g2 hj
          go_wp2
          go_quiet (fail)
          go_wp2
          go_quiet (fail)
          go_wp2
          go_roundg gk
          case measure => omega
          case rel => exact ⟨_, _, _, _, rfl, HLF, Lib.hid HI5.out, HC5, H245, Lib.hid ⟨_, by rw [World.drewN_drewN, World.drewN_drewN]⟩⟩
      · have hneg' : 0 ≤ z := by omega
        have hd : decide (z < 0) = false := decide_eq_false hneg
        have hlf := hL'.out
        unfold lookF at hlf
        rw [if_neg hneg] at hlf
        have HE := Lib.hid (Option.some.inj hlf)
        clear hI hln hcell hS hlf
        go_wp2
        go_quiet (fail)
        go_wp2
        go_ret
        exact ⟨_, _, _, rfl, by rw [← HE.out]; exact hI'.out, hC'.out, _, by rw [World.drewN_drewN]⟩

end Go.Proofs.YtapcdhagkbfccaaGreat

/- Contract: the solver's occurs. -/
namespace Go.Proofs.YtapcdhagkbfccaaGreat
open Go.RowKit
attribute [local go_sem] eql_nil0 eql_nil1 neq_nil0 neq_nil1

/-- Whether a variable comes in what stands for the variables of a list; the variables that were looked into. -/
def occL (g : List Int → List Bool → Option (Bool × List Bool)) (T : List (List Int)) (v : Nat) : List Int → List Bool → Option (Bool × List Bool)
  | [], d => some (false, d)
  | z :: t, d => if 0 ≤ z then occL g T v t d
    else if (-z - 1).toNat = v then some (true, d)
    else if T.getD (-z - 1).toNat [] = [] ∨ d.getD (-z - 1).toNat false = true then occL g T v t d
    else match g (T.getD (-z - 1).toNat []) (d.set (-z - 1).toNat true) with
      | none => none
      | some (true, d') => some (true, d')
      | some (false, d') => occL g T v t d'
def occF (T : List (List Int)) (v : Nat) : Nat → List Int → List Bool → Option (Bool × List Bool)
  | 0, _, _ => none
  | m + 1, t, d => occL (occF T v m) T v t d
/-- Some flags in a block of 24. -/
def DoneAt (w : World) (g : Nat) (d : List Bool) : Prop := Blk w g 151 (bCs d) ∧ d.length = 24
theorem DoneAt.cell {w : World} {g j : Nat} {d : List Bool} (h : DoneAt w g d) (hj : j < 24) : w.cell? ⟨g, j, none⟩ = some (.bool (d.getD j false)) ∧ w.frozen? ⟨g, j, none⟩ = false := by
  refine ⟨?_, h.1.frozen j⟩
  rw [h.1.cell]
  have hl : j < d.length := by rw [h.2]; exact hj
  rw [bCs_get (List.getElem?_eq_getElem hl), List.getD_eq_getElem?_getD, List.getElem?_eq_getElem hl]
  rfl
theorem DoneAt.noint {w : World} {g : Nat} {d : List Bool} (h : DoneAt w g d) : NoInt w g := by
  intro o z e
  rw [h.1.cell] at e
  unfold bCs at e
  rw [List.getElem?_toArray, List.getElem?_map] at e
  cases he : d[o]? with
  | none => rw [he] at e; cases e
  | some x => rw [he] at e; cases e
theorem DoneAt.ne {w : World} {g d ns cs : Nat} {dn : List Bool} {As : Option Addr} {T : List (List Int)} (h : DoneAt w g dn) (hs : SolAt w d As ns cs T) : d ≠ g := by
  rintro rfl
  have h1 := (h.cell (j := 0) (by omega)).1
  rw [hs.sign] at h1
  cases h1
theorem DoneAt.set {w : World} {g j : Nat} {d : List Bool} (h : DoneAt w g d) (b : Bool) : DoneAt (w.setCell ⟨g, j, none⟩ (.bool b)) g (d.set j b) :=
  ⟨by have := h.1.set_ j (.bool b); rw [bCs_set] at this; exact this, by simpa using h.2⟩
theorem DoneAt.lt {w : World} {g : Nat} {d : List Bool} (h : DoneAt w g d) : g < w.heap.size := h.1.lt

/-- What occurs hands back. -/
def RetOcc (w : World) (g : Nat) (b : Bool) (d : List Bool) (e : Ending) (w' : World) : Prop :=
  e = .returned (.bool b) ∧ KeepE (fun b => b < w.heap.size ∧ b ≠ g) w w' ∧ DoneAt w' g d

set_option maxRecDepth 100000 in
set_option maxHeartbeats 4000000 in
theorem occ_any (g d : Nat) (As : Option Addr) (ns cs : Nat) (T : List (List Int)) (v : Nat) (hv : v < 24) (hT : TosOk T) :
    ∀ (m : Nat) (t : List Int) (dn : List Bool) (b : Bool) (dn' : List Bool) (A : Option Addr) (n c : Nat) (w : World), SolAt w d As ns cs T → IntsAt w w.heap.size A n t → (∀ z ∈ t, -24 ≤ z) → DoneAt w g dn → occF T v m t dn = some (b, dn') →
    Calls Tryz.prog 119 #[.pointer (some ⟨d, 0, none⟩), .int .i64 (v : Int), .slice A n c, .pointer (some ⟨g, 0, none⟩)] w (RetOcc w g b dn') := by
  intro m
  induction m with
  | zero => intro t dn b dn' A n c w _ _ _ _ h; cases h
  | succ m ih =>
    intro t dn b dn' A n c w hS ht h24 hD ho
    unfold occF at ho
    have HN := Lib.hid hD.noint
    have HNE := Lib.hid (hD.ne hS)
    have HS := Lib.hid hS
    have HT := Lib.hid ht
    have H24 := Lib.hid h24
    have HD := Lib.hid hD
    have HO := Lib.hid ho
    have HLN := Lib.hid ht.len
    have HIH := Lib.hid ih
    have HTT := Lib.hid hT
    have hmax := ht.max
    have hv1 : (v : Int) < 24 := by omega
    have hv0 : (0 : Int) ≤ (v : Int) := by omega
    clear hS ht h24 hD ho ih hT
    go_enter Tryz.func119, Tryz.ntmps119
    go_wp2
    go_loopw [9] (fun iv wr => ∃ (i : Nat) (di : List Bool), i ≤ n ∧ iv = .int .i64 i ∧ Hid (occL (occF T v m) T v (t.drop i) di = some (b, dn')) ∧ Hid (DoneAt wr g di) ∧ Hid (KeepE (fun b => b < w.heap.size ∧ b ≠ g) w wr)) (fun iv _ => n - (intOf iv).toNat)
    case atStart => exact ⟨0, dn, Nat.zero_le _, rfl, by rw [List.drop_zero]; exact HO, HD, Lib.hid (KeepE.refl _ _)⟩
    case round =>
      obtain ⟨i, di, hi, rfl, hO, hDi, hK⟩ := hrel
      by_cases hlt : i < n
      · have hil : i < t.length := by have := HLN.out; omega
        obtain ⟨b0, off, rfl, hb0, hcell⟩ := HT.out.mem (by omega)
        have hIr := HT.out.keepN hK.out HN.out
        obtain ⟨b1, off1, e1, _, hc1⟩ := hIr.mem (by omega)
        cases e1
        have cz := hc1 i hil
        have hz24 := H24.out _ (List.getElem_mem hil)
        have hdrop : t.drop i = t[i] :: t.drop (i + 1) := List.drop_eq_getElem_cons hil
        have hoc := hO.out
        rw [hdrop] at hoc
        obtain ⟨z, hz⟩ : ∃ z, t[i] = z := ⟨_, rfl⟩
        rw [hz] at cz hz24 hoc
        unfold occL at hoc
        have hi0 : (0 : Int) ≤ (i : Int) := by omega
        have hi1 : (i : Int) < (n : Int) := by omega
        by_cases hpos : 0 ≤ z
        · rw [if_pos hpos] at hoc
          have HO' := Lib.hid hoc
          clear hcell hc1 hIr hoc hdrop hz hil
          go_wp2
          go_roundw
          case rel => exact ⟨i + 1, di, by omega, by go_num, HO', hDi, hK⟩
          case measure => simp [intOf]; omega
        · rw [if_neg hpos] at hoc
          have hneg : z < 0 := by omega
          obtain ⟨j, hj⟩ : ∃ j : Nat, -z - 1 = (j : Int) := ⟨(-z - 1).toNat, by omega⟩
          rw [hj, Int.toNat_natCast] at hoc
          have hj24 : j < 24 := by omega
          have w1' : IntKind.i64.wrap (-z) = -z := by rw [IntKind.wrap_i64]; omega
          have w2' : IntKind.i64.wrap (-z - 1) = (j : Int) := by rw [IntKind.wrap_i64]; omega
          have hj0 : (0 : Int) ≤ (j : Int) := by omega
          have hj1 : (j : Int) < 24 := by omega
          by_cases hjv : j = v
          · rw [if_pos hjv] at hoc
            have HE := Lib.hid (Option.some.inj hoc)
            have hb : ((j : Int) == (v : Int)) = true := by simp [hjv]
            have hb2 : (j == v) = true := by simp [hjv]
            clear hcell hc1 hIr hoc hdrop hz hil hj hjv
            go_wp2
            go_ret
            have he := HE.out
            simp only [Prod.mk.injEq] at he
            exact ⟨by rw [he.1]; rfl, hK.out, by rw [← he.2]; exact hDi.out⟩
          · rw [if_neg hjv] at hoc
            have hb : ((j : Int) == (v : Int)) = false := by simp; omega
            have hb2 : (j == v) = false := by simp [hjv]
            have hSr := HS.out.keep hK.out HN.out HNE.out
            obtain ⟨A5, n5, c5, g1, g2, g3, g4, g5, g6⟩ := hSr.get hj24
            obtain ⟨q1, q2⟩ := hDi.out.cell hj24
            by_cases hnil : T.getD j [] = []
            · obtain ⟨rfl, rfl, rfl⟩ := g5 hnil
              rw [if_pos (.inl hnil)] at hoc
              have HO' := Lib.hid hoc
              clear hcell hc1 hIr hoc hdrop hz hil hj hjv hSr g2 g3 g4 g5 g6 q1 q2 hnil
              go_wp2
              go_roundw
              case rel => exact ⟨i + 1, di, by omega, by go_num, HO', hDi, hK⟩
              case measure => simp [intOf]; omega
            · obtain ⟨b5, off5, rfl⟩ := g6 hnil
              by_cases hdd : di.getD j false = true
              · rw [if_pos (.inr hdd)] at hoc
                rw [hdd] at q1
                have HO' := Lib.hid hoc
                clear hcell hc1 hIr hoc hdrop hz hil hj hjv hSr g2 g3 g4 g5 g6 q2 hnil hdd
                go_wp2
                go_roundw
                case rel => exact ⟨i + 1, di, by omega, by go_num, HO', hDi, hK⟩
                case measure => simp [intOf]; omega
              · have hdf : di.getD j false = false := by simpa using hdd
                rw [if_neg (fun h => h.elim hnil hdd)] at hoc
                rw [hdf] at q1
                have hW1 : KeepE (fun b => b < wr.heap.size ∧ b ≠ g) wr (wr.setCell ⟨g, j, none⟩ (.bool true)) := KeepE.set (fun h => h.2 rfl) _
                have hNr := hDi.out.noint
                have hSs := hSr.keep hW1 hNr HNE.out
                have hDs := hDi.out.set (j := j) true
                have hIs := g3.keepN hW1 hNr
                have h24' := HTT.out.getD j
                have gcell := (hW1.cell (p := ⟨d, 1 + j, none⟩) ⟨hSr.lt, HNE.out⟩).trans g1
                cases hrec : occF T v m (T.getD j []) (di.set j true) with
                | none => rw [hrec] at hoc; cases hoc
                | some R =>
                obtain ⟨rb, rd⟩ := R
                rw [hrec] at hoc
                have CR := Lib.hid (HIH.out _ _ _ _ _ _ c5 _ hSs hIs h24' hDs hrec)
                have HK1 := Lib.hid (hK.out.next hW1)
                have hsz : (wr.setCell ⟨g, j, none⟩ (.bool true)).heap.size = wr.heap.size := by simp
                cases rb with
                | true =>
                  have HE := Lib.hid (Option.some.inj hoc)
                  clear hcell hc1 hIr hoc hdrop hz hil hj hjv hSr g2 g3 g4 g5 g6 hnil hdd hdf hW1 hNr hSs hDs hIs h24' hrec hsz
                  go_wp2_with (go_at_call 119; refine CR.out.mono ?_; rintro e w3 ⟨rfl, hK3, hD3⟩; have HK3 := Lib.hid (HK1.out.next hK3); have HD3 := Lib.hid hD3; clear hK3 hD3)
                  go_ret
                  have he := HE.out
                  simp only [Prod.mk.injEq] at he
                  exact ⟨by rw [he.1]; rfl, HK3.out, by rw [← he.2]; exact HD3.out⟩
                | false =>
                  have HO' := Lib.hid hoc
                  clear hcell hc1 hIr hoc hdrop hz hil hj hjv hSr g2 g3 g4 g5 g6 hnil hdd hdf hW1 hNr hSs hDs hIs h24' hrec hsz
                  go_wp2_with (go_at_call 119; refine CR.out.mono ?_; rintro e w3 ⟨rfl, hK3, hD3⟩; have HK3 := Lib.hid (HK1.out.next hK3); have HD3 := Lib.hid hD3; clear hK3 hD3)
                  go_roundw
                  case rel => exact ⟨i + 1, rd, by omega, by go_num, HO', HD3, HK3⟩
                  case measure => simp [intOf]; omega
      · obtain rfl : i = n := by omega
        have hoc := hO.out
        rw [List.drop_eq_nil_of_le (by have := HLN.out; omega)] at hoc
        unfold occL at hoc
        have HE := Lib.hid (Option.some.inj hoc)
        clear hoc
        go_wp2
        go_ret
        have he := HE.out
        simp only [Prod.mk.injEq] at he
        exact ⟨by rw [he.1]; rfl, hK.out, by rw [← he.2]; exact hDi.out⟩

end Go.Proofs.YtapcdhagkbfccaaGreat

/- Contract: Apart. -/
namespace Go.Proofs.YtapcdhagkbfccaaGreat
open Go.RowKit

/-- A list of numbers whose variables are 12 further on. -/
def apartL (zs : List Int) : List Int := zs.map fun z => if z < 0 then z - 12 else z
/-- .. as far as k. -/
def apartTo (zs : List Int) (k : Nat) : List Int := apartL (zs.take k) ++ zs.drop k
theorem apartL_len (zs : List Int) : (apartL zs).length = zs.length := by simp [apartL]
theorem apartTo_zero (zs : List Int) : apartTo zs 0 = zs := by simp [apartTo, apartL]
theorem apartTo_all (zs : List Int) : apartTo zs zs.length = apartL zs := by simp [apartTo]
theorem apartTo_len {zs : List Int} {k : Nat} (h : k ≤ zs.length) : (apartTo zs k).length = zs.length := by
  unfold apartTo
  rw [List.length_append, apartL_len, List.length_take, List.length_drop]; omega
theorem apartTo_at {zs : List Int} {k : Nat} (h : k < zs.length) : (apartTo zs k)[k]? = some zs[k] := by
  unfold apartTo
  rw [List.getElem?_append_right (by rw [apartL_len, List.length_take]; omega), apartL_len, List.length_take, Nat.min_eq_left (by omega), Nat.sub_self, List.getElem?_drop]
  simp [h]
theorem apartTo_set {zs : List Int} {k : Nat} (h : k < zs.length) : (apartTo zs k).set k (if zs[k] < 0 then zs[k] - 12 else zs[k]) = apartTo zs (k + 1) := by
  unfold apartTo
  rw [List.set_append_right _ _ (by rw [apartL_len, List.length_take]; omega), apartL_len, List.length_take, Nat.min_eq_left (by omega), Nat.sub_self, List.drop_eq_getElem_cons h, List.set_cons_zero, List.take_succ_eq_append_getElem h]
  unfold apartL
  rw [List.map_append, List.append_assoc]
  rfl
theorem apartTo_keep {zs : List Int} {k : Nat} (h : k < zs.length) (h0 : ¬ zs[k] < 0) : apartTo zs k = apartTo zs (k + 1) := by
  rw [← apartTo_set h, if_neg h0]
  apply List.ext_getElem?
  intro j
  rw [List.getElem?_set]
  by_cases e : k = j
  · subst e
    rw [if_pos rfl, if_pos (by rw [apartTo_len (by omega)]; exact h), apartTo_at h]
  · rw [if_neg e]

set_option maxRecDepth 100000 in
set_option maxHeartbeats 2000000 in
theorem apart_any (A : Option Addr) (n c : Nat) (zs : List Int) (w : World) (hx : IntsAt w w.heap.size A n zs) (hb : ∀ z ∈ zs, -1000000 ≤ z ∧ z ≤ 1000000) (hn : n ≤ 100000) (h1 : 1 ≤ n) :
    Calls Tryz.prog 96 #[.slice A n c] w fun e w' => ∃ A' c', e = .returned (.slice A' n c') ∧ IntsAt w' w'.heap.size A' n (apartL zs) ∧ (n ≤ c' ∧ c' ≤ 9223372036854775807) ∧ Below w.heap.size w w' := by
  obtain ⟨i0, hi, hz0, hz1, hz2⟩ := info_parts info_int
  obtain ⟨bt, offt, rfl, hbt, htc⟩ := hx.mem (by omega)
  have hlen := hx.len
  have HLX := Lib.hid hlen
  have HBD := Lib.hid hb
  have hN1 := Lib.hid (show (zs.map (Value.int .i64)).length = n * 1 by simp [hlen])
  have hN3 := Lib.hid (show ∀ u ∈ zs.map (Value.int .i64), u.oneCell' = true by
    intro u hu
    obtain ⟨z, _, rfl⟩ := List.mem_map.1 hu
    rfl)
  have HN2 := Lib.hid (show ∀ j u, (zs.map (Value.int .i64))[j]? = some u → (w.alloc (.cells #[] 3)).cell? ((⟨bt, offt, none⟩ : Addr).add j) = some u by
    intro j u hu
    rw [add0, alloc_keep _ _ _ (by show bt < _; omega)]
    simp only [List.getElem?_map, Option.map_eq_some_iff] at hu
    obtain ⟨z, hz, rfl⟩ := hu
    obtain ⟨hj, rfl⟩ := List.getElem?_eq_some_iff.1 hz
    exact htc j hj)
  have HO := Lib.hid (show (w.alloc (.cells #[] 3)).ownsRow w.heap.size 3 1 (.slice (some ⟨w.heap.size, 0, none⟩) 0 0) 0 [] from
    ⟨rfl, .inr ⟨w.heap.size, 0, #[], rfl, Nat.le_refl _, heap_alloc_new w _, Nat.le_refl _, by unfold maxLen; omega, rfl, rfl⟩⟩)
  clear hx hb hlen htc
  go_enter Tryz.func96, Tryz.ntmps96
  go_wp2_with (first
    | (at_builtin
       refine wpList_append_own_at _ rfl _ _ 36 rfl w.heap.size 3 i0 _ 1 8 Tryz.underlying36 hi hz0 hz1 hz2 rfl (by omega) (.slice (some ⟨w.heap.size, 0, none⟩) 0 0) 0 [] rfl HO.out ⟨bt, offt, none⟩ n c (zs.map (Value.int .i64)) rfl hN1.out HN2.out hN3.out (by unfold maxLen; omega) (by omega) (by simp) ?_
       intro v2 w2 hown2 hg2 _ _
       have hBW := (((Below.refl _ w).alloc (Nat.le_refl _) _).grown hg2 (by simp) (fun k e => by cases e; exact Nat.le_refl _))
       have hown3 := hown2
       rw [Nat.zero_add, List.nil_append] at hown3
       obtain ⟨g, cap, hv2, _, hglt⟩ := hown3.form (by omega)
       subst hv2
       have HBW := Lib.hid hBW
       have HOWN := Lib.hid hown3
       clear hown2 hg2 hown3 hBW hglt))
  have HR0 : Hid (w2.ownsRow w.heap.size 3 1 (.slice (some ⟨g, 0, none⟩) n cap) n ((apartTo zs 0).map (Value.int .i64))) := by
    have := HOWN.out
    rw [apartTo_zero]
    exact this
  clear hi hz0 hz1 hz2
  go_loopw [4] (fun i wr => ∃ k : Nat, k ≤ n ∧ i = .int .i64 k ∧ wr.ownsRow w.heap.size 3 1 (.slice (some ⟨g, 0, none⟩) n cap) n ((apartTo zs k).map (Value.int .i64)) ∧ Below w.heap.size w wr) (fun i _ => n - (intOf i).toNat)
  case atStart => exact ⟨0, Nat.zero_le _, rfl, HR0.out, HBW.out⟩
  case round =>
    obtain ⟨k, hk, rfl, hR, hBr⟩ := hrel
    have HBR := Lib.hid hBr
    by_cases hlt : k < n
    · have hk' : k < zs.length := by have := HLX.out; omega
      obtain ⟨g', e, hgb, hgl, hcell, hfr, hset⟩ := row_int hR hlt
      cases e
      have hc := hcell _ (apartTo_at hk')
      have hbd := HBD.out _ (List.getElem_mem hk')
      have hst := apartTo_set hk'
      have hkp := apartTo_keep hk'
      obtain ⟨z, hz⟩ : ∃ z, zs[k] = z := ⟨_, rfl⟩
      rw [hz] at hc hbd hst hkp
      obtain ⟨hb1, hb2⟩ := hbd
      have hk0 : (0 : Int) ≤ (k : Int) := by omega
      have hk1 : (k : Int) < (n : Int) := by omega
      by_cases hneg : z < 0
      · rw [if_pos hneg] at hst
        have HRs := Lib.hid (hset (z - 12))
        rw [hst] at HRs
        have HBs := Lib.hid (hBr.setCell (p := ⟨g, k, none⟩) hgb (.int .i64 (z - 12)))
        clear hR hBr hcell hset hst hkp hz
        go_wp2
        go_roundw
        case rel => exact ⟨k + 1, by omega, by go_num, HRs.out, HBs.out⟩
        case measure => simp [intOf]; omega
      · have HRs := Lib.hid (show wr.ownsRow w.heap.size 3 1 (.slice (some ⟨g, 0, none⟩) n cap) n ((apartTo zs (k + 1)).map (Value.int .i64)) by rw [← hkp hneg]; exact hR)
        have hpos : 0 ≤ z := by omega
        clear hR hBr hcell hset hst hkp hz hfr
        go_wp2
        go_roundw
        case rel => exact ⟨k + 1, by omega, by go_num, HRs.out, HBR.out⟩
        case measure => simp [intOf]; omega
    · obtain rfl : k = n := by omega
      have HR := Lib.hid hR
      clear hR hBr
      go_wp2
      go_ret
      have h1 := HR.out
      rw [HLX.out, apartTo_all, ← HLX.out] at h1
      obtain ⟨A2, c2, e2, hI, hk⟩ := row_intsk h1 (by omega)
      cases e2
      exact ⟨_, _, rfl, hI, hk, HBR.out⟩

end Go.Proofs.YtapcdhagkbfccaaGreat

/- Contract: the solver's Solve. -/
namespace Go.Proofs.YtapcdhagkbfccaaGreat
open Go.RowKit
attribute [local go_sem] eql_nil0 eql_nil1 neq_nil0 neq_nil1

/-- A term whose variables may be of two terms. -/
structure GoodS (ss : Sg) (t : List Int) : Prop where
  scn : scan ss 1 t = some []
  hd : HeadsOk ss t
  lo : ∀ z ∈ t, -24 ≤ z
  le : t.length ≤ 60
/-- Nothing, or such a term, for each variable. -/
def TGood (ss : Sg) (T : List (List Int)) : Prop := ∀ t ∈ T, t = [] ∨ GoodS ss t
theorem TGood.tos {ss : Sg} {T : List (List Int)} (h : TGood ss T) : TosOk T := fun t ht z hz => by
  rcases h t ht with rfl | g
  · simp at hz
  · exact g.lo z hz
theorem TGood.getD {ss : Sg} {T : List (List Int)} (h : TGood ss T) (v : Nat) (hv : T.getD v [] ≠ []) : GoodS ss (T.getD v []) := by
  rw [List.getD_eq_getElem?_getD] at hv ⊢
  cases e : T[v]? with
  | none => rw [e] at hv; exact absurd rfl hv
  | some t =>
    rw [e] at hv
    rcases h t (List.mem_of_getElem? e) with rfl | g
    · exact absurd rfl hv
    · exact g
theorem TGood.set {ss : Sg} {T : List (List Int)} {t : List Int} (h : TGood ss T) (v : Nat) (ht : GoodS ss t) : TGood ss (T.set v t) := fun u hu => by
  rcases List.mem_or_eq_of_mem_set hu with hu | rfl
  · exact h u hu
  · exact .inr ht
theorem noTo_good (ss : Sg) : TGood ss noTo := fun _t ht => .inl (List.eq_of_mem_replicate ht)
theorem GoodS.pos {ss : Sg} {t : List Int} (h : GoodS ss t) : 1 ≤ t.length := by
  cases t with
  | nil => have := h.scn; cases this
  | cons z t => simp
theorem lookF_good {ss : Sg} {T : List (List Int)} (hT : TGood ss T) : ∀ {m : Nat} {t r : List Int}, GoodS ss t → lookF T m t = some r → GoodS ss r
  | 0, t, r, _, h => by cases h
  | m + 1, [], r, g, h => by unfold lookF at h; cases h
  | m + 1, z :: t, r, g, h => by
    unfold lookF at h
    split at h
    · split at h
      · cases h; exact g
      · rename_i hne
        exact lookF_good hT (hT.getD _ hne) h
    · cases h; exact g
/-- The arguments of a term. -/
def partsS (ss : Sg) (t : List Int) : List (List Int) := (List.range (arOf ss (t.getD 0 0))).map fun k => prt ss t (psA ss t 0 k)
theorem partsS_len (ss : Sg) (t : List Int) : (partsS ss t).length = arOf ss (t.getD 0 0) := by simp [partsS]
theorem partsS_at {ss : Sg} {t : List Int} {k : Nat} (hk : k < arOf ss (t.getD 0 0)) : (partsS ss t)[k]? = some (prt ss t (psA ss t 0 k)) := by
  unfold partsS
  rw [List.getElem?_map, List.getElem?_range hk]
  rfl
/-- .. one after the other. -/
theorem parts_prefix {ss : Sg} {x : Int} {p : List Int} (h : scan ss 1 (x :: p) = some []) : ∀ k, k ≤ arOf ss x → ((List.range k).map fun k => prt ss (x :: p) (psA ss (x :: p) 0 k)).flatten ++ (x :: p).drop (psA ss (x :: p) 0 k) = p
  | 0, _ => by
    rw [psA_zero (zs := x :: p) (by simp)]
    simp
  | k + 1, hk => by
    have ih := parts_prefix h k (by omega)
    have hP := prt_is (zs := x :: p) (a := 0) h
    obtain ⟨s1, s2, s3, s4⟩ := prt_step hP (by simp) (k := k) hk
    have hQ := prt_is s1
    have e1 := hQ.split
    have e2 := hQ.whole
    rw [s1] at e2
    rw [← Option.some.inj e2] at e1
    rw [List.range_succ, List.map_append, List.flatten_append, List.append_assoc]
    simp only [List.map_cons, List.map_nil, List.flatten_cons, List.flatten_nil, List.append_nil]
    rw [← e1]
    exact ih
theorem parts_all {ss : Sg} {x : Int} {p : List Int} (h : scan ss 1 (x :: p) = some []) : (partsS ss (x :: p)).flatten = p := by
  have h1 := parts_prefix h _ (Nat.le_refl _)
  have e : psA ss (x :: p) 0 (arOf ss x) = (x :: p).length := by
    unfold psA
    have h2 : scan ss (arOf ss x) p = some [] := by
      have := h
      rw [scan, Nat.zero_add] at this
      exact this
    simp [h2]
  rw [e, List.drop_length, List.append_nil] at h1
  exact h1
theorem parts_good {ss : Sg} {t q : List Int} (h : GoodS ss t) (hq : q ∈ partsS ss t) : GoodS ss q := by
  cases t with
  | nil => have := h.scn; cases this
  | cons x p =>
    unfold partsS at hq
    obtain ⟨k, hk, rfl⟩ := List.mem_map.1 hq
    rw [List.mem_range] at hk
    have hP := prt_is (zs := x :: p) (a := 0) h.scn
    obtain ⟨s1, s2, s3, s4⟩ := prt_step hP (by simp) (k := k) hk
    have hQ := prt_is s1
    have hsub : ∀ z ∈ prt ss (x :: p) (psA ss (x :: p) 0 k), z ∈ x :: p := fun z hz => by
      have : z ∈ (x :: p).drop (psA ss (x :: p) 0 k) := by rw [hQ.split]; exact List.mem_append_left _ hz
      exact List.mem_of_mem_drop this
    exact ⟨hQ.good, fun z hz => h.hd z (hsub z hz), fun z hz => h.lo z (hsub z hz), by have := hQ.le; have := h.le; omega⟩

/-- Pairs of terms become one, one pair after the other. -/
def solL (g : List Int → List Int → List (List Int) → Option (Bool × List (List Int))) : List (List Int × List Int) → List (List Int) → Option (Bool × List (List Int))
  | [], T => some (true, T)
  | (p, q) :: r, T => match g p q T with
    | none => none
    | some (false, T') => some (false, T')
    | some (true, T') => solL g r T'
/-- Two terms become one: whether they do, and the terms that are put. -/
def solF (ss : Sg) : Nat → List Int → List Int → List (List Int) → Option (Bool × List (List Int))
  | 0, _, _, _ => none
  | m + 1, a, b, T => match lookF T 30 a, lookF T 30 b with
    | some (x :: p), some (y :: q) =>
      if x < 0 ∧ y = x then some (true, T)
      else if x < 0 then match occF T (-x - 1).toNat 30 (y :: q) (List.replicate 24 false) with
        | some (true, _) => some (false, T)
        | some (false, _) => some (true, T.set (-x - 1).toNat (y :: q))
        | none => none
      else if y < 0 then solF ss m (y :: q) (x :: p) T
      else if x = y then solL (solF ss m) ((partsS ss (x :: p)).zip (partsS ss (y :: q))) T
      else some (false, T)
    | _, _ => none
theorem solL_good {ss : Sg} {g : List Int → List Int → List (List Int) → Option (Bool × List (List Int))} (hg : ∀ a b T bo T', GoodS ss a → GoodS ss b → TGood ss T → g a b T = some (bo, T') → TGood ss T' ∧ T'.length = T.length) :
    ∀ (l : List (List Int × List Int)) (T : List (List Int)) (bo : Bool) (T' : List (List Int)), (∀ e ∈ l, GoodS ss e.1 ∧ GoodS ss e.2) → TGood ss T → solL g l T = some (bo, T') → TGood ss T' ∧ T'.length = T.length
  | [], T, bo, T', _, hT, h => by cases h; exact ⟨hT, rfl⟩
  | (p, q) :: r, T, bo, T', hl, hT, h => by
    unfold solL at h
    cases e : g p q T with
    | none => rw [e] at h; cases h
    | some R =>
      obtain ⟨b1, T1⟩ := R
      obtain ⟨g1, g2⟩ := hl _ (List.mem_cons_self ..)
      obtain ⟨k1, k2⟩ := hg _ _ _ _ _ g1 g2 hT e
      rw [e] at h
      cases b1 with
      | false => cases h; exact ⟨k1, k2⟩
      | true =>
        obtain ⟨j1, j2⟩ := solL_good hg r T1 bo T' (fun e he => hl e (List.mem_cons_of_mem _ he)) k1 h
        exact ⟨j1, j2.trans k2⟩
theorem solF_good {ss : Sg} : ∀ (m : Nat) (a b : List Int) (T : List (List Int)) (bo : Bool) (T' : List (List Int)), GoodS ss a → GoodS ss b → TGood ss T → solF ss m a b T = some (bo, T') → TGood ss T' ∧ T'.length = T.length
  | 0, a, b, T, bo, T', _, _, _, h => by cases h
  | m + 1, a, b, T, bo, T', ga, gb, hT, h => by
    unfold solF at h
    cases ea : lookF T 30 a with
    | none => rw [ea] at h; cases h
    | some a2 =>
    cases eb : lookF T 30 b with
    | none => rw [ea, eb] at h; cases a2 <;> cases h
    | some b2 =>
    have ga2 := lookF_good hT ga ea
    have gb2 := lookF_good hT gb eb
    rw [ea, eb] at h
    cases a2 with
    | nil => have := ga2.pos; simp at this
    | cons x p =>
    cases b2 with
    | nil => have := gb2.pos; simp at this
    | cons y q =>
    simp only at h
    split at h
    · cases h; exact ⟨hT, rfl⟩
    · split at h
      · split at h
        · cases h; exact ⟨hT, rfl⟩
        · cases h; exact ⟨hT.set _ gb2, by simp⟩
        · cases h
      · split at h
        · exact solF_good m _ _ T bo T' gb2 ga2 hT h
        · split at h
          · refine solL_good (solF_good m) _ T bo T' (fun e he => ?_) hT h
            obtain ⟨i1, i2⟩ := List.of_mem_zip he
            exact ⟨parts_good ga2 i1, parts_good gb2 i2⟩
          · cases h; exact ⟨hT, rfl⟩
/-- What Solve hands back. -/
def RetSol (w : World) (d : Nat) (As : Option Addr) (ns cs : Nat) (bo : Bool) (T : List (List Int)) (e : Ending) (w' : World) : Prop :=
  e = .returned (.bool bo) ∧ KeepE (fun b => b < w.heap.size ∧ b ≠ d) w w' ∧ SolAt w' d As ns cs T
/-- A term in memory, with its capacity. -/
def TermK (w : World) (A : Option Addr) (n c : Nat) (t : List Int) : Prop := IntsAt w w.heap.size A n t ∧ n ≤ c ∧ c ≤ 9223372036854775807
theorem TermK.below {w w' : World} {A : Option Addr} {n c : Nat} {t : List Int} (h : TermK w A n c t) (hb : Below w.heap.size w w') : TermK w' A n c t := ⟨h.1.up hb, h.2⟩
theorem TermK.keep {w w' : World} {d : Nat} {A : Option Addr} {n c : Nat} {t : List Int} (h : TermK w A n c t) (k : KeepE (fun b => b < w.heap.size ∧ b ≠ d) w w') (hn : NoInt w d) : TermK w' A n c t := ⟨h.1.keepN k hn, h.2⟩
theorem KeepE.noint {_w w' : World} {d : Nat} {As : Option Addr} {ns cs : Nat} {T : List (List Int)} (h : SolAt w' d As ns cs T) : NoInt w' d := h.noint

section
variable {g : Nat}
/-- What Solve does at smaller terms. -/
def SolIH (ss : Sg) (d : Nat) (As : Option Addr) (ns cs : Nat) (m : Nat) : Prop :=
  ∀ (a b : List Int) (T : List (List Int)) (bo : Bool) (T' : List (List Int)) (Aa Ab : Option Addr) (na ca nb cb : Nat) (w : World), SigAt w w.heap.size As ns ss → SolAt w d As ns cs T → TGood ss T → GoodS ss a → GoodS ss b → TermK w Aa na ca a → TermK w Ab nb cb b → solF ss m a b T = some (bo, T') →
    Calls Tryz.prog 94 #[.pointer (some ⟨d, 0, none⟩), .slice Aa na ca, .slice Ab nb cb] w (RetSol w d As ns cs bo T')
end

set_option maxRecDepth 100000 in
set_option maxHeartbeats 4000000 in
theorem sol_same (ss : Sg) (d : Nat) (As : Option Addr) (ns cs : Nat) (a b : List Int) (T : List (List Int)) (Aa Ab : Option Addr) (na ca nb cb : Nat) (w : World) (hsg : SigAt w w.heap.size As ns ss) (hS : SolAt w d As ns cs T) (hT : TGood ss T) (ga : GoodS ss a) (gb : GoodS ss b) (ha : TermK w Aa na ca a) (hb : TermK w Ab nb cb b) (x : Int) (p : List Int) (y : Int) (q : List Int) (la : lookF T 30 a = some (x :: p)) (lb : lookF T 30 b = some (y :: q)) (hx : x < 0) (hyx : y = x) :
    Calls Tryz.prog 94 #[.pointer (some ⟨d, 0, none⟩), .slice Aa na ca, .slice Ab nb cb] w (RetSol w d As ns cs true T) := by
  have ga2 := lookF_good hT ga la
  have gb2 := lookF_good hT gb lb
  have HS := Lib.hid hS
  have HSG := Lib.hid hsg
  have C1 := Lib.hid (look_any d As Aa ns cs na ca T 30 a _ w hS ha.1 ha.2 hT.tos ga.lo la)
  have C2 := Lib.hid (fun V (h : Below w.heap.size w V) => look_any d As Ab ns cs nb cb T 30 b _ V (hS.below h) (hb.1.up h) hb.2 hT.tos gb.lo lb)
  clear hsg hS hT ga gb ha hb la lb ga2 gb2
  have heq : (y == x) = true := by simpa using hyx
  clear hyx
  go_enter Tryz.func94, Tryz.ntmps94
  go_wp2_with (first
    | (go_at_call 118; ((with_reducible refine C1.out.mono ?_); rintro e w1 ⟨A1, n1, c1, rfl, hI1, hc1, k1, hw1⟩; have HB1 := Lib.hid (show Below w.heap.size w w1 from by rw [hw1]; exact below_drewN (Below.refl _ _) k1); have HI1 := Lib.hid (show TermK w A1 n1 c1 _ from ⟨hI1, hc1⟩); clear hw1 hI1 hc1 k1))
    | (go_at_call 118; ((with_reducible refine (C2.out _ HB1.out).mono ?_); rintro e w2 ⟨A2, n2, c2, rfl, hI2, hc2, k2, hw2⟩; have HB12 := Lib.hid (show Below w1.heap.size w1 w2 from by rw [hw2]; exact below_drewN (Below.refl _ _) k2); have HB2 := Lib.hid (below_then HB1.out HB12.out); have HI2 := Lib.hid ((show TermK w1 A2 n2 c2 _ from ⟨hI2, hc2⟩).below HB12.out); clear hw2 hI2 hc2 k2)))
  clear C1 C2
  have HA := Lib.hid (HI1.out.below HB2.out)
  have HSw := Lib.hid (HS.out.below HB2.out)
  obtain ⟨b1, o1, rfl, hl1, hcell1⟩ := HA.out.1.mem (by have := HA.out.1.len; simp at this; omega)
  obtain ⟨b2, o2, rfl, hl2, hcell2⟩ := HI2.out.1.mem (by have := HI2.out.1.len; simp at this; omega)
  have cx : w2.cell? ⟨b1, o1, none⟩ = some (.int .i64 x) := by have := hcell1 0 (by simp); rw [Nat.add_zero] at this; exact this
  have cy : w2.cell? ⟨b2, o2, none⟩ = some (.int .i64 y) := by have := hcell2 0 (by simp); rw [Nat.add_zero] at this; exact this
  have hn1 : 0 < n1 := by have := HA.out.1.len; simp at this; omega
  have hn2 : 0 < n2 := by have := HI2.out.1.len; simp at this; omega
  clear hcell1 hcell2
  go_quiet (fail)
  go_wp2
  go_ret
  exact ⟨rfl, KeepE.old (below_then HB2.out (below_drewN (Below.refl _ _) _)), HSw.out.below (below_drewN (Below.refl _ _) _)⟩

set_option maxRecDepth 100000 in
set_option maxHeartbeats 4000000 in
theorem sol_occ (ss : Sg) (d : Nat) (As : Option Addr) (ns cs : Nat) (a b : List Int) (T : List (List Int)) (Aa Ab : Option Addr) (na ca nb cb : Nat) (w : World) (hsg : SigAt w w.heap.size As ns ss) (hS : SolAt w d As ns cs T) (hT : TGood ss T) (ga : GoodS ss a) (gb : GoodS ss b) (ha : TermK w Aa na ca a) (hb : TermK w Ab nb cb b) (x : Int) (p : List Int) (y : Int) (q : List Int) (la : lookF T 30 a = some (x :: p)) (lb : lookF T 30 b = some (y :: q)) (hx : x < 0) (hyx : y ≠ x) (dn : List Bool) (ho : occF T (-x - 1).toNat 30 (y :: q) (List.replicate 24 false) = some (true, dn)) :
    Calls Tryz.prog 94 #[.pointer (some ⟨d, 0, none⟩), .slice Aa na ca, .slice Ab nb cb] w (RetSol w d As ns cs false T) := by
  have ga2 := lookF_good hT ga la
  have gb2 := lookF_good hT gb lb
  have HS := Lib.hid hS
  have HSG := Lib.hid hsg
  have C1 := Lib.hid (look_any d As Aa ns cs na ca T 30 a _ w hS ha.1 ha.2 hT.tos ga.lo la)
  have C2 := Lib.hid (fun V (h : Below w.heap.size w V) => look_any d As Ab ns cs nb cb T 30 b _ V (hS.below h) (hb.1.up h) hb.2 hT.tos gb.lo lb)
  obtain ⟨j, hj⟩ : ∃ j : Nat, -x - 1 = (j : Int) := ⟨(-x - 1).toNat, by omega⟩
  have hx24 := ga2.lo x (List.mem_cons_self ..)
  have hj24 : j < 24 := by omega
  rw [hj, Int.toNat_natCast] at ho
  have w1' : IntKind.i64.wrap (-x) = -x := by rw [IntKind.wrap_i64]; omega
  have w2' : IntKind.i64.wrap (-x - 1) = (j : Int) := by rw [IntKind.wrap_i64]; omega
  have hj0 : (0 : Int) ≤ (j : Int) := by omega
  have hj1 : (j : Int) < 24 := by omega
  have heq : (y == x) = false := by simpa using hyx
  have CO := Lib.hid (fun (V : World) (g n c : Nat) (A : Option Addr) (h1 : SolAt V d As ns cs T) (h2 : TermK V A n c (y :: q)) (h3 : DoneAt V g (List.replicate 24 false)) => occ_any g d As ns cs T j hj24 hT.tos 30 (y :: q) _ _ _ A n c V h1 h2.1 gb2.lo h3 ho)
  clear hsg hS hT ga gb ha hb la lb ga2 gb2 ho hyx hj
  go_enter Tryz.func94, Tryz.ntmps94
  go_wp2_with (first
    | (go_at_call 118; ((with_reducible refine C1.out.mono ?_); rintro e w1 ⟨A1, n1, c1, rfl, hI1, hc1, k1, hw1⟩; have HB1 := Lib.hid (show Below w.heap.size w w1 from by rw [hw1]; exact below_drewN (Below.refl _ _) k1); have HI1 := Lib.hid (show TermK w A1 n1 c1 _ from ⟨hI1, hc1⟩); clear hw1 hI1 hc1 k1))
    | (go_at_call 118; ((with_reducible refine (C2.out _ HB1.out).mono ?_); rintro e w2 ⟨A2, n2, c2, rfl, hI2, hc2, k2, hw2⟩; have HB12 := Lib.hid (show Below w1.heap.size w1 w2 from by rw [hw2]; exact below_drewN (Below.refl _ _) k2); have HB2 := Lib.hid (below_then HB1.out HB12.out); have HI2 := Lib.hid ((show TermK w1 A2 n2 c2 _ from ⟨hI2, hc2⟩).below HB12.out); clear hw2 hI2 hc2 k2)))
  clear C1 C2
  have HA := Lib.hid (HI1.out.below HB2.out)
  have HSw := Lib.hid (HS.out.below HB2.out)
  obtain ⟨b1, o1, rfl, hl1, hcell1⟩ := HA.out.1.mem (by have := HA.out.1.len; simp at this; omega)
  obtain ⟨b2, o2, rfl, hl2, hcell2⟩ := HI2.out.1.mem (by have := HI2.out.1.len; simp at this; omega)
  have cx : w2.cell? ⟨b1, o1, none⟩ = some (.int .i64 x) := by have := hcell1 0 (by simp); rw [Nat.add_zero] at this; exact this
  have cy : w2.cell? ⟨b2, o2, none⟩ = some (.int .i64 y) := by have := hcell2 0 (by simp); rw [Nat.add_zero] at this; exact this
  have hn1 : 0 < n1 := by have := HA.out.1.len; simp at this; omega
  have hn2 : 0 < n2 := by have := HI2.out.1.len; simp at this; omega
  clear hcell1 hcell2
  have hcx : ∀ n, (w2.drewN n).cell? ⟨b1, o1, none⟩ = some (.int .i64 x) := fun n => cx
  go_quiet (fail)
  clear hcx
  obtain ⟨w5, hw5⟩ : ∃ w5, w2.drewN nq = w5 := ⟨_, rfl⟩
  have hB25 : Below w2.heap.size w2 w5 := by rw [← hw5]; exact below_drewN (Below.refl _ _) _
  rw [hw5]
  obtain ⟨W3, hW3⟩ : ∃ W3, w5.alloc (.cells (bCs (List.replicate 24 false)) 151) = W3 := ⟨_, rfl⟩
  have hB53 : Below w5.heap.size w5 W3 := by rw [← hW3]; exact bel_al (Below.refl _ _) _
  have hB23 : Below w2.heap.size w2 W3 := below_then hB25 hB53
  have hDn : DoneAt W3 w5.heap.size (List.replicate 24 false) := ⟨by rw [← hW3]; exact Blk.new _ _ _, by simp⟩
  have hb15 : b1 < w5.heap.size := Nat.lt_of_lt_of_le hl1 hB25.size
  have hb25 : b2 < w5.heap.size := Nat.lt_of_lt_of_le hl2 hB25.size
  have cx3 : W3.cell? ⟨b1, o1, none⟩ = some (.int .i64 x) := (hB23.cell (p := ⟨b1, o1, none⟩) hl1).trans cx
  have cx5 : w5.cell? ⟨b1, o1, none⟩ = some (.int .i64 x) := (hB25.cell (p := ⟨b1, o1, none⟩) hl1).trans cx
  have hS3 := HSw.out.below hB23
  have hq3 := HI2.out.below hB23
  have hN3 := hDn.noint
  have hNE := hDn.ne hS3
  have hd3 := hS3.lt
  have CO3 := Lib.hid (CO.out W3 w5.heap.size _ _ _ hS3 hq3 hDn)
  have HBL := Lib.hid (show b1 < W3.heap.size ∧ b1 ≠ w5.heap.size from ⟨Nat.lt_of_lt_of_le hl1 hB23.size, by omega⟩)
  have HKE := Lib.hid (fun (V : World) (k : KeepE (fun b => b < W3.heap.size ∧ b ≠ w5.heap.size) W3 V) => show KeepE (fun b => b < w.heap.size ∧ b ≠ d) w V from (KeepE.old (below_then HB2.out hB23)).trans (k.mono fun b hb => ⟨Nat.lt_of_lt_of_le hb.1 (below_then HB2.out hB23).size, by have h1 := HB2.out.size; have h2 := hB25.size; have h3 := hb.1; omega⟩))
  have HW3 := Lib.hid hW3
  have HB3 := Lib.hid (below_then HB2.out hB23)
  have HS3 := Lib.hid hS3
  have HQ3 := Lib.hid hq3
  have HN3 := Lib.hid hN3
  clear hw5 hB25 hW3 hB53 hB23 hDn hS3 hq3 hN3 cx cy CO
  go_upto_region 6 with fail
  rw [show w5.alloc (.cells #[.bool false, .bool false, .bool false, .bool false, .bool false, .bool false, .bool false, .bool false, .bool false, .bool false, .bool false, .bool false, .bool false, .bool false, .bool false, .bool false, .bool false, .bool false, .bool false, .bool false, .bool false, .bool false, .bool false, .bool false] 151) = W3 from HW3.out]
  go_wp2_with (go_at_call 119; refine CO3.out.mono ?_; rintro e w4 ⟨rfl, hK4, hD4⟩; have cx4 := (hK4.cell (p := ⟨b1, o1, none⟩) HBL.out).trans cx3; have HS4 := Lib.hid (HS3.out.keep hK4 HN3.out hNE); have HQ4 := Lib.hid (HQ3.out.keep hK4 HN3.out); have HK4 := Lib.hid (HKE.out w4 hK4); clear hK4 hD4 cx3)
  go_ret
  exact ⟨rfl, HK4.out, HS4.out⟩

set_option maxRecDepth 100000 in
set_option maxHeartbeats 4000000 in
theorem sol_put (ss : Sg) (d : Nat) (As : Option Addr) (ns cs : Nat) (a b : List Int) (T : List (List Int)) (Aa Ab : Option Addr) (na ca nb cb : Nat) (w : World) (hsg : SigAt w w.heap.size As ns ss) (hS : SolAt w d As ns cs T) (hT : TGood ss T) (ga : GoodS ss a) (gb : GoodS ss b) (ha : TermK w Aa na ca a) (hb : TermK w Ab nb cb b) (x : Int) (p : List Int) (y : Int) (q : List Int) (la : lookF T 30 a = some (x :: p)) (lb : lookF T 30 b = some (y :: q)) (hx : x < 0) (hyx : y ≠ x) (dn : List Bool) (ho : occF T (-x - 1).toNat 30 (y :: q) (List.replicate 24 false) = some (false, dn)) :
    Calls Tryz.prog 94 #[.pointer (some ⟨d, 0, none⟩), .slice Aa na ca, .slice Ab nb cb] w (RetSol w d As ns cs true (T.set (-x - 1).toNat (y :: q))) := by
  have ga2 := lookF_good hT ga la
  have gb2 := lookF_good hT gb lb
  have HS := Lib.hid hS
  have HSG := Lib.hid hsg
  have C1 := Lib.hid (look_any d As Aa ns cs na ca T 30 a _ w hS ha.1 ha.2 hT.tos ga.lo la)
  have C2 := Lib.hid (fun V (h : Below w.heap.size w V) => look_any d As Ab ns cs nb cb T 30 b _ V (hS.below h) (hb.1.up h) hb.2 hT.tos gb.lo lb)
  obtain ⟨j, hj⟩ : ∃ j : Nat, -x - 1 = (j : Int) := ⟨(-x - 1).toNat, by omega⟩
  have hx24 := ga2.lo x (List.mem_cons_self ..)
  have hj24 : j < 24 := by omega
  rw [hj, Int.toNat_natCast] at ho
  have w1' : IntKind.i64.wrap (-x) = -x := by rw [IntKind.wrap_i64]; omega
  have w2' : IntKind.i64.wrap (-x - 1) = (j : Int) := by rw [IntKind.wrap_i64]; omega
  have hj0 : (0 : Int) ≤ (j : Int) := by omega
  have hj1 : (j : Int) < 24 := by omega
  have heq : (y == x) = false := by simpa using hyx
  have CO := Lib.hid (fun (V : World) (g n c : Nat) (A : Option Addr) (h1 : SolAt V d As ns cs T) (h2 : TermK V A n c (y :: q)) (h3 : DoneAt V g (List.replicate 24 false)) => occ_any g d As ns cs T j hj24 hT.tos 30 (y :: q) _ _ _ A n c V h1 h2.1 gb2.lo h3 ho)
  rw [hj, Int.toNat_natCast]
  clear hsg hS hT ga gb ha hb la lb ga2 gb2 ho hyx hj
  go_enter Tryz.func94, Tryz.ntmps94
  go_wp2_with (first
    | (go_at_call 118; ((with_reducible refine C1.out.mono ?_); rintro e w1 ⟨A1, n1, c1, rfl, hI1, hc1, k1, hw1⟩; have HB1 := Lib.hid (show Below w.heap.size w w1 from by rw [hw1]; exact below_drewN (Below.refl _ _) k1); have HI1 := Lib.hid (show TermK w A1 n1 c1 _ from ⟨hI1, hc1⟩); clear hw1 hI1 hc1 k1))
    | (go_at_call 118; ((with_reducible refine (C2.out _ HB1.out).mono ?_); rintro e w2 ⟨A2, n2, c2, rfl, hI2, hc2, k2, hw2⟩; have HB12 := Lib.hid (show Below w1.heap.size w1 w2 from by rw [hw2]; exact below_drewN (Below.refl _ _) k2); have HB2 := Lib.hid (below_then HB1.out HB12.out); have HI2 := Lib.hid ((show TermK w1 A2 n2 c2 _ from ⟨hI2, hc2⟩).below HB12.out); clear hw2 hI2 hc2 k2)))
  clear C1 C2
  have HA := Lib.hid (HI1.out.below HB2.out)
  have HSw := Lib.hid (HS.out.below HB2.out)
  obtain ⟨b1, o1, rfl, hl1, hcell1⟩ := HA.out.1.mem (by have := HA.out.1.len; simp at this; omega)
  obtain ⟨b2, o2, rfl, hl2, hcell2⟩ := HI2.out.1.mem (by have := HI2.out.1.len; simp at this; omega)
  have cx : w2.cell? ⟨b1, o1, none⟩ = some (.int .i64 x) := by have := hcell1 0 (by simp); rw [Nat.add_zero] at this; exact this
  have cy : w2.cell? ⟨b2, o2, none⟩ = some (.int .i64 y) := by have := hcell2 0 (by simp); rw [Nat.add_zero] at this; exact this
  have hn1 : 0 < n1 := by have := HA.out.1.len; simp at this; omega
  have hn2 : 0 < n2 := by have := HI2.out.1.len; simp at this; omega
  clear hcell1 hcell2
  have hcx : ∀ n, (w2.drewN n).cell? ⟨b1, o1, none⟩ = some (.int .i64 x) := fun n => cx
  go_quiet (fail)
  clear hcx
  obtain ⟨w5, hw5⟩ : ∃ w5, w2.drewN nq = w5 := ⟨_, rfl⟩
  have hB25 : Below w2.heap.size w2 w5 := by rw [← hw5]; exact below_drewN (Below.refl _ _) _
  rw [hw5]
  obtain ⟨W3, hW3⟩ : ∃ W3, w5.alloc (.cells (bCs (List.replicate 24 false)) 151) = W3 := ⟨_, rfl⟩
  have hB53 : Below w5.heap.size w5 W3 := by rw [← hW3]; exact bel_al (Below.refl _ _) _
  have hB23 : Below w2.heap.size w2 W3 := below_then hB25 hB53
  have hDn : DoneAt W3 w5.heap.size (List.replicate 24 false) := ⟨by rw [← hW3]; exact Blk.new _ _ _, by simp⟩
  have hb15 : b1 < w5.heap.size := Nat.lt_of_lt_of_le hl1 hB25.size
  have hb25 : b2 < w5.heap.size := Nat.lt_of_lt_of_le hl2 hB25.size
  have cx3 : W3.cell? ⟨b1, o1, none⟩ = some (.int .i64 x) := (hB23.cell (p := ⟨b1, o1, none⟩) hl1).trans cx
  have cx5 : w5.cell? ⟨b1, o1, none⟩ = some (.int .i64 x) := (hB25.cell (p := ⟨b1, o1, none⟩) hl1).trans cx
  have hS3 := HSw.out.below hB23
  have hq3 := HI2.out.below hB23
  have hN3 := hDn.noint
  have hNE := hDn.ne hS3
  have hd3 := hS3.lt
  have CO3 := Lib.hid (CO.out W3 w5.heap.size _ _ _ hS3 hq3 hDn)
  have HBL := Lib.hid (show b1 < W3.heap.size ∧ b1 ≠ w5.heap.size from ⟨Nat.lt_of_lt_of_le hl1 hB23.size, by omega⟩)
  have HKE := Lib.hid (fun (V : World) (k : KeepE (fun b => b < W3.heap.size ∧ b ≠ w5.heap.size) W3 V) => show KeepE (fun b => b < w.heap.size ∧ b ≠ d) w V from (KeepE.old (below_then HB2.out hB23)).trans (k.mono fun b hb => ⟨Nat.lt_of_lt_of_le hb.1 (below_then HB2.out hB23).size, by have h1 := HB2.out.size; have h2 := hB25.size; have h3 := hb.1; omega⟩))
  have HW3 := Lib.hid hW3
  have HB3 := Lib.hid (below_then HB2.out hB23)
  have HS3 := Lib.hid hS3
  have HQ3 := Lib.hid hq3
  have HN3 := Lib.hid hN3
  clear hw5 hB25 hW3 hB53 hB23 hDn hS3 hq3 hN3 cx cy CO
  go_upto_region 6 with fail
  rw [show w5.alloc (.cells #[.bool false, .bool false, .bool false, .bool false, .bool false, .bool false, .bool false, .bool false, .bool false, .bool false, .bool false, .bool false, .bool false, .bool false, .bool false, .bool false, .bool false, .bool false, .bool false, .bool false, .bool false, .bool false, .bool false, .bool false] 151) = W3 from HW3.out]
  go_wp2_with (go_at_call 119; refine CO3.out.mono ?_; rintro e w4 ⟨rfl, hK4, hD4⟩; have cx4 := (hK4.cell (p := ⟨b1, o1, none⟩) HBL.out).trans cx3; have HS4 := Lib.hid (HS3.out.keep hK4 HN3.out hNE); have HQ4 := Lib.hid (HQ3.out.keep hK4 HN3.out); have HK4 := Lib.hid (HKE.out w4 hK4); clear hK4 hD4 cx3)
  have hb1d : b1 ≠ d := fun e => HS4.out.noint o1 x (by rw [← e]; exact cx4)
  obtain ⟨A6, n6, c6, g1, g2, _, _, _, _⟩ := HS4.out.get hj24
  have HPUT := Lib.hid (fun v => show (w4.setCell ⟨d, 1 + j, none⟩ v).drew.cell? ⟨b1, o1, none⟩ = some (.int .i64 x) from (World.cell?_setCell_far w4 ⟨d, 1 + j, none⟩ ⟨b1, o1, none⟩ v (show d ≠ b1 from fun e => hb1d e.symm)).trans cx4)
  go_region_held3 (fun w' => w'.cell? ⟨b1, o1, none⟩ = some (.int .i64 x))
    (first | exact HPUT.out _ | go_keep | assumption)
    (fail)
  all_goals
    go_wp2
    go_ret
    exact ⟨rfl, HK4.out.put.drewN 1, (HS4.out.put HQ4.out.1 HQ4.out.2 (by simp)).below (below_drewN (Below.refl _ _) 1)⟩

set_option maxRecDepth 100000 in
set_option maxHeartbeats 4000000 in
theorem sol_swap (ss : Sg) (d : Nat) (As : Option Addr) (ns cs : Nat) (a b : List Int) (T : List (List Int)) (Aa Ab : Option Addr) (na ca nb cb : Nat) (w : World) (hsg : SigAt w w.heap.size As ns ss) (hS : SolAt w d As ns cs T) (hT : TGood ss T) (ga : GoodS ss a) (gb : GoodS ss b) (ha : TermK w Aa na ca a) (hb : TermK w Ab nb cb b) (x : Int) (p : List Int) (y : Int) (q : List Int) (la : lookF T 30 a = some (x :: p)) (lb : lookF T 30 b = some (y :: q)) (m : Nat) (ih : SolIH ss d As ns cs m) (hx : ¬ x < 0) (hy : y < 0) (bo : Bool) (T' : List (List Int)) (h : solF ss m (y :: q) (x :: p) T = some (bo, T')) :
    Calls Tryz.prog 94 #[.pointer (some ⟨d, 0, none⟩), .slice Aa na ca, .slice Ab nb cb] w (RetSol w d As ns cs bo T') := by
  have ga2 := lookF_good hT ga la
  have gb2 := lookF_good hT gb lb
  have HS := Lib.hid hS
  have HSG := Lib.hid hsg
  have C1 := Lib.hid (look_any d As Aa ns cs na ca T 30 a _ w hS ha.1 ha.2 hT.tos ga.lo la)
  have C2 := Lib.hid (fun V (h : Below w.heap.size w V) => look_any d As Ab ns cs nb cb T 30 b _ V (hS.below h) (hb.1.up h) hb.2 hT.tos gb.lo lb)
  have CR := Lib.hid (fun (V : World) (A1 A2 : Option Addr) (n1 c1 n2 c2 : Nat) (hB : Below w.heap.size w V) (h1 : TermK V A1 n1 c1 (y :: q)) (h2 : TermK V A2 n2 c2 (x :: p)) => ih (y :: q) (x :: p) T bo T' A1 A2 n1 c1 n2 c2 V (hsg.up hB) (hS.below hB) hT gb2 ga2 h1 h2 h)
  have hx0 : 0 ≤ x := by omega
  have hdx : decide (x < 0) = false := decide_eq_false hx
  clear hsg hS hT ga gb ha hb la lb ga2 gb2 ih h
  go_enter Tryz.func94, Tryz.ntmps94
  go_wp2_with (first
    | (go_at_call 118; ((with_reducible refine C1.out.mono ?_); rintro e w1 ⟨A1, n1, c1, rfl, hI1, hc1, k1, hw1⟩; have HB1 := Lib.hid (show Below w.heap.size w w1 from by rw [hw1]; exact below_drewN (Below.refl _ _) k1); have HI1 := Lib.hid (show TermK w A1 n1 c1 _ from ⟨hI1, hc1⟩); clear hw1 hI1 hc1 k1))
    | (go_at_call 118; ((with_reducible refine (C2.out _ HB1.out).mono ?_); rintro e w2 ⟨A2, n2, c2, rfl, hI2, hc2, k2, hw2⟩; have HB12 := Lib.hid (show Below w1.heap.size w1 w2 from by rw [hw2]; exact below_drewN (Below.refl _ _) k2); have HB2 := Lib.hid (below_then HB1.out HB12.out); have HI2 := Lib.hid ((show TermK w1 A2 n2 c2 _ from ⟨hI2, hc2⟩).below HB12.out); clear hw2 hI2 hc2 k2)))
  clear C1 C2
  have HA := Lib.hid (HI1.out.below HB2.out)
  have HSw := Lib.hid (HS.out.below HB2.out)
  obtain ⟨b1, o1, rfl, hl1, hcell1⟩ := HA.out.1.mem (by have := HA.out.1.len; simp at this; omega)
  obtain ⟨b2, o2, rfl, hl2, hcell2⟩ := HI2.out.1.mem (by have := HI2.out.1.len; simp at this; omega)
  have cx : w2.cell? ⟨b1, o1, none⟩ = some (.int .i64 x) := by have := hcell1 0 (by simp); rw [Nat.add_zero] at this; exact this
  have cy : w2.cell? ⟨b2, o2, none⟩ = some (.int .i64 y) := by have := hcell2 0 (by simp); rw [Nat.add_zero] at this; exact this
  have hn1 : 0 < n1 := by have := HA.out.1.len; simp at this; omega
  have hn2 : 0 < n2 := by have := HI2.out.1.len; simp at this; omega
  clear hcell1 hcell2
  have hcx : ∀ n, (w2.drewN n).cell? ⟨b1, o1, none⟩ = some (.int .i64 x) := fun n => cx
  have hcy : ∀ n, (w2.drewN n).cell? ⟨b2, o2, none⟩ = some (.int .i64 y) := fun n => cy
  go_quiet (fail)
  clear hcx hcy
  obtain ⟨w5, hw5⟩ : ∃ w5, w2.drewN nq = w5 := ⟨_, rfl⟩
  have hB25 : Below w2.heap.size w2 w5 := by rw [← hw5]; exact below_drewN (Below.refl _ _) _
  have cx5 : w5.cell? ⟨b1, o1, none⟩ = some (.int .i64 x) := (hB25.cell (p := ⟨b1, o1, none⟩) hl1).trans cx
  have cy5 : w5.cell? ⟨b2, o2, none⟩ = some (.int .i64 y) := (hB25.cell (p := ⟨b2, o2, none⟩) hl2).trans cy
  rw [hw5]
  have CR5 := Lib.hid (CR.out w5 _ _ _ _ _ _ (below_then HB2.out hB25) (HI2.out.below hB25) (HA.out.below hB25))
  have HB5 := Lib.hid (below_then HB2.out hB25)
  clear hw5 hB25 cx cy CR
  go_wp2_with (go_at_call 94; refine CR5.out.mono ?_; rintro e w6 ⟨rfl, hK6, hS6⟩; have HK6 := Lib.hid ((KeepE.old HB5.out).next hK6); have HS6 := Lib.hid hS6; clear hK6 hS6)
  go_ret
  exact ⟨rfl, HK6.out, HS6.out⟩

set_option maxRecDepth 100000 in
set_option maxHeartbeats 4000000 in
theorem sol_clash (ss : Sg) (d : Nat) (As : Option Addr) (ns cs : Nat) (a b : List Int) (T : List (List Int)) (Aa Ab : Option Addr) (na ca nb cb : Nat) (w : World) (hsg : SigAt w w.heap.size As ns ss) (hS : SolAt w d As ns cs T) (hT : TGood ss T) (ga : GoodS ss a) (gb : GoodS ss b) (ha : TermK w Aa na ca a) (hb : TermK w Ab nb cb b) (x : Int) (p : List Int) (y : Int) (q : List Int) (la : lookF T 30 a = some (x :: p)) (lb : lookF T 30 b = some (y :: q)) (hx : ¬ x < 0) (hy : ¬ y < 0) (hxy : x ≠ y) :
    Calls Tryz.prog 94 #[.pointer (some ⟨d, 0, none⟩), .slice Aa na ca, .slice Ab nb cb] w (RetSol w d As ns cs false T) := by
  have ga2 := lookF_good hT ga la
  have gb2 := lookF_good hT gb lb
  have HS := Lib.hid hS
  have HSG := Lib.hid hsg
  have C1 := Lib.hid (look_any d As Aa ns cs na ca T 30 a _ w hS ha.1 ha.2 hT.tos ga.lo la)
  have C2 := Lib.hid (fun V (h : Below w.heap.size w V) => look_any d As Ab ns cs nb cb T 30 b _ V (hS.below h) (hb.1.up h) hb.2 hT.tos gb.lo lb)
  have hx0 : 0 ≤ x := by omega
  have hy0 : 0 ≤ y := by omega
  have hne : (x != y) = true := by simpa using hxy
  have hdx : decide (x < 0) = false := decide_eq_false hx
  have hdy : decide (y < 0) = false := decide_eq_false hy
  clear hsg hS hT ga gb ha hb la lb ga2 gb2 hxy
  go_enter Tryz.func94, Tryz.ntmps94
  go_wp2_with (first
    | (go_at_call 118; ((with_reducible refine C1.out.mono ?_); rintro e w1 ⟨A1, n1, c1, rfl, hI1, hc1, k1, hw1⟩; have HB1 := Lib.hid (show Below w.heap.size w w1 from by rw [hw1]; exact below_drewN (Below.refl _ _) k1); have HI1 := Lib.hid (show TermK w A1 n1 c1 _ from ⟨hI1, hc1⟩); clear hw1 hI1 hc1 k1))
    | (go_at_call 118; ((with_reducible refine (C2.out _ HB1.out).mono ?_); rintro e w2 ⟨A2, n2, c2, rfl, hI2, hc2, k2, hw2⟩; have HB12 := Lib.hid (show Below w1.heap.size w1 w2 from by rw [hw2]; exact below_drewN (Below.refl _ _) k2); have HB2 := Lib.hid (below_then HB1.out HB12.out); have HI2 := Lib.hid ((show TermK w1 A2 n2 c2 _ from ⟨hI2, hc2⟩).below HB12.out); clear hw2 hI2 hc2 k2)))
  clear C1 C2
  have HA := Lib.hid (HI1.out.below HB2.out)
  have HSw := Lib.hid (HS.out.below HB2.out)
  obtain ⟨b1, o1, rfl, hl1, hcell1⟩ := HA.out.1.mem (by have := HA.out.1.len; simp at this; omega)
  obtain ⟨b2, o2, rfl, hl2, hcell2⟩ := HI2.out.1.mem (by have := HI2.out.1.len; simp at this; omega)
  have cx : w2.cell? ⟨b1, o1, none⟩ = some (.int .i64 x) := by have := hcell1 0 (by simp); rw [Nat.add_zero] at this; exact this
  have cy : w2.cell? ⟨b2, o2, none⟩ = some (.int .i64 y) := by have := hcell2 0 (by simp); rw [Nat.add_zero] at this; exact this
  have hn1 : 0 < n1 := by have := HA.out.1.len; simp at this; omega
  have hn2 : 0 < n2 := by have := HI2.out.1.len; simp at this; omega
  clear hcell1 hcell2
  have hcx : ∀ n, (w2.drewN n).cell? ⟨b1, o1, none⟩ = some (.int .i64 x) := fun n => cx
  have hcy : ∀ n, (w2.drewN n).cell? ⟨b2, o2, none⟩ = some (.int .i64 y) := fun n => cy
  go_quiet (fail)
  clear hcx hcy
  obtain ⟨w5, hw5⟩ : ∃ w5, w2.drewN nq = w5 := ⟨_, rfl⟩
  have hB25 : Below w2.heap.size w2 w5 := by rw [← hw5]; exact below_drewN (Below.refl _ _) _
  have cx5 : w5.cell? ⟨b1, o1, none⟩ = some (.int .i64 x) := (hB25.cell (p := ⟨b1, o1, none⟩) hl1).trans cx
  have cy5 : w5.cell? ⟨b2, o2, none⟩ = some (.int .i64 y) := (hB25.cell (p := ⟨b2, o2, none⟩) hl2).trans cy
  rw [hw5]
  have HB5 := Lib.hid (below_then HB2.out hB25)
  have HS5 := Lib.hid (HSw.out.below hB25)
  clear hw5 hB25 cx cy
  go_wp2_with fail
  go_quiet (fail)
  go_wp2
  go_ret
  exact ⟨rfl, KeepE.old (below_then HB5.out (below_drewN (Below.refl _ _) _)), HS5.out.below (below_drewN (Below.refl _ _) _)⟩

set_option maxRecDepth 100000 in
set_option maxHeartbeats 4000000 in
theorem sol_args (ss : Sg) (d : Nat) (As : Option Addr) (ns cs : Nat) (a b : List Int) (T : List (List Int)) (Aa Ab : Option Addr) (na ca nb cb : Nat) (w : World) (hsg : SigAt w w.heap.size As ns ss) (hS : SolAt w d As ns cs T) (hT : TGood ss T) (ga : GoodS ss a) (gb : GoodS ss b) (ha : TermK w Aa na ca a) (hb : TermK w Ab nb cb b) (x : Int) (p : List Int) (y : Int) (q : List Int) (la : lookF T 30 a = some (x :: p)) (lb : lookF T 30 b = some (y :: q)) (har : ArOk ss) (m : Nat) (ih : SolIH ss d As ns cs m) (hx : ¬ x < 0) (hxy : y = x) (bo : Bool) (T' : List (List Int)) (h : solL (solF ss m) ((partsS ss (x :: p)).zip (partsS ss (y :: q))) T = some (bo, T')) :
    Calls Tryz.prog 94 #[.pointer (some ⟨d, 0, none⟩), .slice Aa na ca, .slice Ab nb cb] w (RetSol w d As ns cs bo T') := by
  have ga2 := lookF_good hT ga la
  have gb2 := lookF_good hT gb lb
  have HS := Lib.hid hS
  have HSG := Lib.hid hsg
  have C1 := Lib.hid (look_any d As Aa ns cs na ca T 30 a _ w hS ha.1 ha.2 hT.tos ga.lo la)
  have C2 := Lib.hid (fun V (h : Below w.heap.size w V) => look_any d As Ab ns cs nb cb T 30 b _ V (hS.below h) (hb.1.up h) hb.2 hT.tos gb.lo lb)
  subst hxy
  obtain ⟨r, hr⟩ : ∃ r, arOf ss y = r := ⟨_, rfl⟩
  have hr3 := arOf_le har y
  rw [hr] at hr3
  have hP := prt_is (zs := y :: p) (a := 0) ga2.scn
  have hQ := prt_is (zs := y :: q) (a := 0) gb2.scn
  have la60 := ga2.le
  have lb60 := gb2.le
  have HHR := Lib.hid hr
  have HAR := Lib.hid har
  have HGA := Lib.hid ga2
  have HGB := Lib.hid gb2
  have HTG := Lib.hid hT
  have HIH := Lib.hid ih
  have HBG1 := Lib.hid (fun k (hk : k < r) => show (begs ss (y :: p) 0 r)[k]? = some ((psA ss (y :: p) 0 k : Nat) : Int) by simp [begs, hk])
  have HBG2 := Lib.hid (fun k (hk : k < r) => show (begs ss (y :: q) 0 r)[k]? = some ((psA ss (y :: q) 0 k : Nat) : Int) by simp [begs, hk])
  have HST1 := Lib.hid (fun k (hk : k < r) => (prt_step hP (by simp) (k := k) (show k < arOf ss y by rw [hr]; exact hk)))
  have HST2 := Lib.hid (fun k (hk : k < r) => (prt_step hQ (by simp) (k := k) (show k < arOf ss y by rw [hr]; exact hk)))
  obtain ⟨Z, hZ⟩ : ∃ Z, (partsS ss (y :: p)).zip (partsS ss (y :: q)) = Z := ⟨_, rfl⟩
  have hZl : Z.length = r := by rw [← hZ, List.length_zip, partsS_len, partsS_len]; show min (arOf ss y) (arOf ss y) = r; rw [Nat.min_self]; exact hr
  have HZA := Lib.hid (fun k (hk : k < r) => show Z[k]? = some (prt ss (y :: p) (psA ss (y :: p) 0 k), prt ss (y :: q) (psA ss (y :: q) 0 k)) by
    rw [← hZ, List.getElem?_zip_eq_some]
    exact ⟨partsS_at (by show k < arOf ss y; rw [hr]; exact hk), partsS_at (by show k < arOf ss y; rw [hr]; exact hk)⟩)
  have HGD1 := Lib.hid (fun k (hk : k < r) => parts_good ga2 (List.mem_of_getElem? (partsS_at (ss := ss) (t := y :: p) (k := k) (by show k < arOf ss y; rw [hr]; exact hk))))
  have HGD2 := Lib.hid (fun k (hk : k < r) => parts_good gb2 (List.mem_of_getElem? (partsS_at (ss := ss) (t := y :: q) (k := k) (by show k < arOf ss y; rw [hr]; exact hk))))
  rw [hZ] at h
  have H0 := Lib.hid (show solL (solF ss m) (Z.drop 0) T = some (bo, T') from h)
  have HZL := Lib.hid hZl
  have hne : (y != y) = false := by simp
  have hy0 : 0 ≤ y := by omega
  have hdx : decide (y < 0) = false := decide_eq_false hx
  clear hsg hS hT ga gb ha hb la lb ga2 gb2 ih h hr hP hQ hZ hZl har
  go_enter Tryz.func94, Tryz.ntmps94
  go_wp2_with (first
    | (go_at_call 118; ((with_reducible refine C1.out.mono ?_); rintro e w1 ⟨A1, n1, c1, rfl, hI1, hc1, k1, hw1⟩; have HB1 := Lib.hid (show Below w.heap.size w w1 from by rw [hw1]; exact below_drewN (Below.refl _ _) k1); have HI1 := Lib.hid (show TermK w A1 n1 c1 _ from ⟨hI1, hc1⟩); clear hw1 hI1 hc1 k1))
    | (go_at_call 118; ((with_reducible refine (C2.out _ HB1.out).mono ?_); rintro e w2 ⟨A2, n2, c2, rfl, hI2, hc2, k2, hw2⟩; have HB12 := Lib.hid (show Below w1.heap.size w1 w2 from by rw [hw2]; exact below_drewN (Below.refl _ _) k2); have HB2 := Lib.hid (below_then HB1.out HB12.out); have HI2 := Lib.hid ((show TermK w1 A2 n2 c2 _ from ⟨hI2, hc2⟩).below HB12.out); clear hw2 hI2 hc2 k2)))
  clear C1 C2
  have HA := Lib.hid (HI1.out.below HB2.out)
  have HSw := Lib.hid (HS.out.below HB2.out)
  obtain ⟨b1, o1, rfl, hl1, hcell1⟩ := HA.out.1.mem (by have := HA.out.1.len; simp at this; omega)
  obtain ⟨b2, o2, rfl, hl2, hcell2⟩ := HI2.out.1.mem (by have := HI2.out.1.len; simp at this; omega)
  have cx : w2.cell? ⟨b1, o1, none⟩ = some (.int .i64 y) := by have := hcell1 0 (by simp); rw [Nat.add_zero] at this; exact this
  have cy : w2.cell? ⟨b2, o2, none⟩ = some (.int .i64 y) := by have := hcell2 0 (by simp); rw [Nat.add_zero] at this; exact this
  have hn1 : 0 < n1 := by have := HA.out.1.len; simp at this; omega
  have hn2 : 0 < n2 := by have := HI2.out.1.len; simp at this; omega
  clear hcell1 hcell2
  have hcx : ∀ n, (w2.drewN n).cell? ⟨b1, o1, none⟩ = some (.int .i64 y) := fun n => cx
  have hcy : ∀ n, (w2.drewN n).cell? ⟨b2, o2, none⟩ = some (.int .i64 y) := fun n => cy
  go_quiet (fail)
  clear hcx hcy
  obtain ⟨w5, hw5⟩ : ∃ w5, w2.drewN nq = w5 := ⟨_, rfl⟩
  have hB25 : Below w2.heap.size w2 w5 := by rw [← hw5]; exact below_drewN (Below.refl _ _) _
  have cx5 : w5.cell? ⟨b1, o1, none⟩ = some (.int .i64 y) := (hB25.cell (p := ⟨b1, o1, none⟩) hl1).trans cx
  have cy5 : w5.cell? ⟨b2, o2, none⟩ = some (.int .i64 y) := (hB25.cell (p := ⟨b2, o2, none⟩) hl2).trans cy
  rw [hw5]
  have hcx5 : ∀ n, (w5.drewN n).cell? ⟨b1, o1, none⟩ = some (.int .i64 y) := fun n => cx5
  have hcy5 : ∀ n, (w5.drewN n).cell? ⟨b2, o2, none⟩ = some (.int .i64 y) := fun n => cy5
  go_upto_region 12 with fail
  go_quiet (fail)
  clear hcx5 hcy5
  obtain ⟨w6, hw6⟩ : ∃ w6, w5.drewN nq = w6 := ⟨_, rfl⟩
  have hB5 : Below w2.heap.size w2 w6 := by rw [← hw6]; exact below_drewN hB25 _
  rw [hw6]
  have HSG2 := Lib.hid (HSG.out.up HB2.out)
  have HCS := Lib.hid (fun V (h : Below w2.heap.size w2 V) => (HSw.out.below h).sign)
  have CA1 : Hid (∀ V, Below w2.heap.size w2 V → Calls Tryz.prog 93 #[.slice As ns cs, .slice (some ⟨b1, o1, none⟩) n1 c1, .int .i64 0] V fun e w' => ∃ A4 c4, e = .returned (.slice A4 r c4) ∧ IntsBut w' (some d) A4 r (begs ss (y :: p) 0 r) ∧ Below V.heap.size V w') := Lib.hid (fun V (h : Below w2.heap.size w2 V) => (refArgs_any As (some ⟨b1, o1, none⟩) ns cs n1 c1 ss (y :: p) [] 0 V (HSG2.out.up h) (HA.out.below h).1 HAR.out HGA.out.hd (by have := HA.out.1.len; omega) (by simp) HGA.out.scn).mono (R' := fun e w' => ∃ A4 c4, e = .returned (.slice A4 r c4) ∧ IntsBut w' (some d) A4 r (begs ss (y :: p) 0 r) ∧ Below V.heap.size V w') (fun e w' ⟨v, e1, e2, e3⟩ => by
    rw [show (y :: p)[0] = y from rfl, HHR.out] at e2
    obtain ⟨A4, c4, rfl, h4⟩ := IntsBut.of_row e2 (by omega) (g := some d) (fun k e => by cases e; have := (HSw.out.below h).lt; omega)
    exact ⟨A4, c4, e1, h4, e3⟩))
  have CA2 : Hid (∀ V, Below w2.heap.size w2 V → Calls Tryz.prog 93 #[.slice As ns cs, .slice (some ⟨b2, o2, none⟩) n2 c2, .int .i64 0] V fun e w' => ∃ A4 c4, e = .returned (.slice A4 r c4) ∧ IntsBut w' (some d) A4 r (begs ss (y :: q) 0 r) ∧ Below V.heap.size V w') := Lib.hid (fun V (h : Below w2.heap.size w2 V) => (refArgs_any As (some ⟨b2, o2, none⟩) ns cs n2 c2 ss (y :: q) [] 0 V (HSG2.out.up h) (HI2.out.below h).1 HAR.out HGB.out.hd (by have := HI2.out.1.len; omega) (by simp) HGB.out.scn).mono (R' := fun e w' => ∃ A4 c4, e = .returned (.slice A4 r c4) ∧ IntsBut w' (some d) A4 r (begs ss (y :: q) 0 r) ∧ Below V.heap.size V w') (fun e w' ⟨v, e1, e2, e3⟩ => by
    rw [show (y :: q)[0] = y from rfl, HHR.out] at e2
    obtain ⟨A4, c4, rfl, h4⟩ := IntsBut.of_row e2 (by omega) (g := some d) (fun k e => by cases e; have := (HSw.out.below h).lt; omega)
    exact ⟨A4, c4, e1, h4, e3⟩))
  clear hw5 hw6 hB25 cx cy cx5 cy5
  go_upto_region 14 with fail
  refine wp_region_held_drew (S := (fun w' => w'.cell? ⟨d, 0, none⟩ = some (.slice As ns cs))) (by kernel_rfl) ?_ (fun hHeld => ?_)
  · first | exact HCS.out _ hB8 | exact HCS.out _ hB7 | exact HCS.out _ hB5.drew | exact HCS.out _ hB5 | go_keep
  refine wpAnyH_take (i := 0) (v := ?_) rfl (by kernel_rfl) (by kernel_rfl) (by kernel_rfl) (fun _ _ _ h => h) (Or.inl ⟨by rfl, ?_⟩) (by assumption) ?_
  rotate_left
  · intro w hSw; (try dsimp only at hSw); go_simp <;> with_reducible rfl
  try simp only [List.getElem_toArray, List.getElem_cons_zero, Act.put, List.setIfInBounds_toArray, List.set_cons_zero, List.set_cons_succ]
  refine wpAnyH_take (i := 1) (v := ?_) rfl (by kernel_rfl) (by kernel_rfl) (by kernel_rfl) (fun _ _ _ h => h) (Or.inl ⟨by rfl, ?_⟩) (by assumption) ?_
  rotate_left
  · intro w hSw; (try dsimp only at hSw); go_simp <;> with_reducible rfl
  try simp only [List.getElem_toArray, List.getElem_cons_succ, List.getElem_cons_zero, Act.put, List.setIfInBounds_toArray, List.set_cons_zero, List.set_cons_succ]
  refine wpAnyH_take (i := 2) (v := ?_) rfl (by kernel_rfl) (by kernel_rfl) (by kernel_rfl) (fun _ _ _ h => h) (Or.inl ⟨by rfl, ?_⟩) (by assumption) ?_
  rotate_left
  · intro w hSw; (try dsimp only at hSw); go_simp <;> with_reducible rfl
  try simp only [List.getElem_toArray, List.getElem_cons_succ, List.getElem_cons_zero, Act.put, List.setIfInBounds_toArray, List.set_cons_zero, List.set_cons_succ]
  refine wpAnyH_take (i := 3) (v := ?_) rfl (by kernel_rfl) (by kernel_rfl) (by kernel_rfl) (fun _ _ _ h => h) (Or.inl ⟨by rfl, ?_⟩) (by assumption) ?_
  rotate_left
  · intro w hSw; (try dsimp only at hSw); go_simp <;> with_reducible rfl
  try simp only [List.getElem_toArray, List.getElem_cons_succ, List.getElem_cons_zero, Act.put, List.setIfInBounds_toArray, List.set_cons_zero, List.set_cons_succ]
  refine wpAnyH_take (i := 4) (v := ?_) rfl (by kernel_rfl) (by kernel_rfl) (by kernel_rfl) (fun _ _ _ h => h) (Or.inl ⟨by rfl, ?_⟩) (by assumption) ?_
  rotate_left
  · intro w hSw; (try dsimp only at hSw); go_simp <;> with_reducible rfl
  try simp only [List.getElem_toArray, List.getElem_cons_succ, List.getElem_cons_zero, Act.put, List.setIfInBounds_toArray, List.set_cons_zero, List.set_cons_succ]
  refine wpAnyH_take (i := 6) (v := ?_) rfl (by kernel_rfl) (by kernel_rfl) (by kernel_rfl) (fun _ _ _ h => h) (Or.inl ⟨by rfl, ?_⟩) (by assumption) ?_
  rotate_left
  · intro w hSw; (try dsimp only at hSw); go_simp <;> with_reducible rfl
  try simp only [List.getElem_toArray, List.getElem_cons_succ, List.getElem_cons_zero, Act.put, List.setIfInBounds_toArray, List.set_cons_zero, List.set_cons_succ]
  refine wpAnyH_take (i := 7) (v := ?_) rfl (by kernel_rfl) (by kernel_rfl) (by kernel_rfl) (fun _ _ _ h => h) (Or.inl ⟨by rfl, ?_⟩) (by assumption) ?_
  rotate_left
  · intro w hSw; (try dsimp only at hSw); go_simp <;> with_reducible rfl
  try simp only [List.getElem_toArray, List.getElem_cons_succ, List.getElem_cons_zero, Act.put, List.setIfInBounds_toArray, List.set_cons_zero, List.set_cons_succ]
  refine wpAnyH_take (i := 8) (v := ?_) rfl (by kernel_rfl) (by kernel_rfl) (by kernel_rfl) (fun _ _ _ h => h) (Or.inl ⟨by rfl, ?_⟩) (by assumption) ?_
  rotate_left
  · intro w hSw; (try dsimp only at hSw); go_simp <;> with_reducible rfl
  try simp only [List.getElem_toArray, List.getElem_cons_succ, List.getElem_cons_zero, Act.put, List.setIfInBounds_toArray, List.set_cons_zero, List.set_cons_succ]
  refine wpAnyH_take (i := 9) (v := ?_) rfl (by kernel_rfl) (by kernel_rfl) (by kernel_rfl) (fun _ _ _ h => h) (Or.inl ⟨by rfl, ?_⟩) (by assumption) ?_
  rotate_left
  · intro w hSw; (try dsimp only at hSw); go_simp <;> with_reducible rfl
  try simp only [List.getElem_toArray, List.getElem_cons_succ, List.getElem_cons_zero, Act.put, List.setIfInBounds_toArray, List.set_cons_zero, List.set_cons_succ]
  refine wpAnyH_take (i := 10) (v := ?_) rfl (by kernel_rfl) (by kernel_rfl) (by kernel_rfl) (fun _ _ _ h => h) (Or.inl ⟨by rfl, ?_⟩) (by assumption) ?_
  rotate_left
  · intro w hSw; (try dsimp only at hSw); go_simp <;> with_reducible rfl
  try simp only [List.getElem_toArray, List.getElem_cons_succ, List.getElem_cons_zero, Act.put, List.setIfInBounds_toArray, List.set_cons_zero, List.set_cons_succ]
  refine wpAnyH_ready (rs := [5]) (by kernel_rfl) (by simp) (AllReadyH.cons rfl (fun K hK => ?_) AllReadyH.nil)
  go_simp
  (go_at_call 93; ((with_reducible refine (CA1.out _ hB5.drew).mono ?_); rintro e w7 ⟨Ax, cx1, rfl, hx1, hB⟩); have hB7 : Below w2.heap.size w2 w7 := below_then hB5.drew hB; have HX7 := Lib.hid hx1; clear hB hx1)
  try go_wp2_with fail
  refine hK.out _ _ ?_ (fun hHeld => ?_)
  · first | exact HCS.out _ hB8 | exact HCS.out _ hB7 | exact HCS.out _ hB5.drew | exact HCS.out _ hB5 | go_keep
  clear hK K
  try simp only [List.getElem_toArray, List.getElem_cons_succ, List.getElem_cons_zero, Act.put, List.setIfInBounds_toArray, List.set_cons_zero, List.set_cons_succ]
  refine wpAnyH_ready (rs := [11]) (by kernel_rfl) (by simp) (AllReadyH.cons rfl (fun K hK => ?_) AllReadyH.nil)
  go_simp
  (go_at_call 93; ((with_reducible refine (CA2.out _ hB7).mono ?_); rintro e w8 ⟨Ay, cy2, rfl, hy2, hB⟩); have hB8 : Below w2.heap.size w2 w8 := below_then hB7 hB; have HX8 := Lib.hid (HX7.out.below hB); have HY8 := Lib.hid hy2; clear hB hy2)
  try go_wp2_with fail
  refine hK.out _ _ ?_ (fun hHeld => ?_)
  · first | exact HCS.out _ hB8 | exact HCS.out _ hB7 | exact HCS.out _ hB5.drew | exact HCS.out _ hB5 | go_keep
  clear hK K
  try simp only [List.getElem_toArray, List.getElem_cons_succ, List.getElem_cons_zero, Act.put, List.setIfInBounds_toArray, List.set_cons_zero, List.set_cons_succ]
  refine wpAnyH_take (i := 12) (v := ?_) rfl (by kernel_rfl) (by kernel_rfl) (by kernel_rfl) (fun _ _ _ h => h) (Or.inl ⟨by rfl, ?_⟩) (by assumption) ?_
  rotate_left
  · intro w hSw; (try dsimp only at hSw); go_simp <;> with_reducible rfl
  try simp only [List.getElem_toArray, List.getElem_cons_succ, List.getElem_cons_zero, Act.put, List.setIfInBounds_toArray, List.set_cons_zero, List.set_cons_succ]
  refine wpAnyH_take (i := 13) (v := ?_) rfl (by kernel_rfl) (by kernel_rfl) (by kernel_rfl) (fun _ _ _ h => h) (Or.inl ⟨by rfl, ?_⟩) (by assumption) ?_
  rotate_left
  · intro w hSw; (try dsimp only at hSw); go_simp <;> with_reducible rfl
  try simp only [List.getElem_toArray, List.getElem_cons_succ, List.getElem_cons_zero, Act.put, List.setIfInBounds_toArray, List.set_cons_zero, List.set_cons_succ]
  refine wpAnyH_done (by kernel_rfl) ?_ _
  go_wp2_with fail
  have HB8 := Lib.hid hB8
  have HW8 := Lib.hid (HSw.out.below hB8)
  obtain ⟨w9, hw9⟩ : ∃ w9, w9 = w8 := ⟨_, rfl⟩
  subst hw9
  clear hB5 hB7 hB8 CA1 CA2
  go_loopw [10] (fun kv wr => ∃ (k : Nat) (Tk : List (List Int)), k ≤ r ∧ kv = .int .i64 k ∧ Hid (solL (solF ss m) (Z.drop k) Tk = some (bo, T')) ∧ Hid (TGood ss Tk) ∧ Hid (SolAt wr d As ns cs Tk) ∧ Hid (KeepE (fun b => b < w9.heap.size ∧ b ≠ d) w9 wr)) (fun kv _ => r - (intOf kv).toNat)
  case atStart => exact ⟨0, T, Nat.zero_le _, rfl, H0, HTG, HW8, Lib.hid (KeepE.refl _ _)⟩
  case round =>
    obtain ⟨k, Tk, hk, rfl, HL, HTk, HSk, HK⟩ := hrel
    by_cases hlt : k < r
    · obtain ⟨bx, ox, rfl, hbx, hnx, zx, ex, cx0⟩ := but_cell HX8.out hlt
      obtain ⟨by', oy, rfl, hby, hny, zy, ey, cy0⟩ := but_cell HY8.out hlt
      rw [HBG1.out k hlt] at ex
      cases ex
      rw [HBG2.out k hlt] at ey
      cases ey
      have cx := (HK.out.cell (p := ⟨bx, ox + k, none⟩) ⟨hbx, hnx⟩).trans cx0
      have cy1 := (HK.out.cell (p := ⟨by', oy + k, none⟩) ⟨hby, hny⟩).trans cy0
      have hsz := HK.out.size
      have hbxw : bx < wr.heap.size := by omega
      have hbyw : by' < wr.heap.size := by omega
      have hdw := HSk.out.lt
      have csg := HSk.out.sign
      have hNd := HW8.out.noint
      have HSGr := Lib.hid ((HSG2.out.up HB8.out).keepN HK.out hNd)
      have HAr := Lib.hid ((HA.out.below HB8.out).keep HK.out hNd)
      have HBr := Lib.hid ((HI2.out.below HB8.out).keep HK.out hNd)
      obtain ⟨s1, s2, s3, _⟩ := HST1.out k hlt
      obtain ⟨t1, t2, t3, _⟩ := HST2.out k hlt
      have hza := HZA.out k hlt
      have hgd1 := HGD1.out k hlt
      have hgd2 := HGD2.out k hlt
      have hzk : k < Z.length := by have := HZL.out; omega
      have hdr : Z.drop k = Z[k] :: Z.drop (k + 1) := List.drop_eq_getElem_cons hzk
      rw [List.getElem?_eq_getElem hzk] at hza
      rw [Option.some.inj hza] at hdr
      obtain ⟨x1, hx1⟩ : ∃ x1, psA ss (y :: p) 0 k = x1 := ⟨_, rfl⟩
      obtain ⟨y1, hy1⟩ : ∃ y1, psA ss (y :: q) 0 k = y1 := ⟨_, rfl⟩
      rw [hx1] at cx s1 s2 hdr hgd1
      rw [hy1] at cy1 t1 t2 hdr hgd2
      have hsol := HL.out
      rw [hdr] at hsol
      unfold solL at hsol
      have CP1 := Lib.hid (fun (V : World) (h : Below wr.heap.size wr V) => (refPart_any As (some ⟨b1, o1, none⟩) ns cs n1 c1 ss (y :: p) _ x1 V (HSGr.out.up h) (HAr.out.below h).1 HAR.out HGA.out.hd (by have := HAr.out.1.len; omega) HAr.out.2.1 HAr.out.2.2 (by omega) s1).mono (R' := fun e w' => ∃ A6 n6 c6, e = .returned (.slice A6 n6 c6) ∧ TermK w' A6 n6 c6 (prt ss (y :: p) x1) ∧ Below V.heap.size V w') (fun e w' ⟨v, e1, e2, e3⟩ => by
        obtain ⟨A6, c6, rfl, h6, h7⟩ := row_intsk e2 (by have := hgd1.le; omega)
        exact ⟨A6, _, c6, e1, ⟨h6, h7⟩, e3⟩))
      have CP2 := Lib.hid (fun (V : World) (h : Below wr.heap.size wr V) => (refPart_any As (some ⟨b2, o2, none⟩) ns cs n2 c2 ss (y :: q) _ y1 V (HSGr.out.up h) (HBr.out.below h).1 HAR.out HGB.out.hd (by have := HBr.out.1.len; omega) HBr.out.2.1 HBr.out.2.2 (by omega) t1).mono (R' := fun e w' => ∃ A6 n6 c6, e = .returned (.slice A6 n6 c6) ∧ TermK w' A6 n6 c6 (prt ss (y :: q) y1) ∧ Below V.heap.size V w') (fun e w' ⟨v, e1, e2, e3⟩ => by
        obtain ⟨A6, c6, rfl, h6, h7⟩ := row_intsk e2 (by have := hgd2.le; omega)
        exact ⟨A6, _, c6, e1, ⟨h6, h7⟩, e3⟩))
      have hk0 : (0 : Int) ≤ (k : Int) := by omega
      have hk1 : (k : Int) < (r : Int) := by omega
      cases hrec : solF ss m (prt ss (y :: p) x1) (prt ss (y :: q) y1) Tk with
      | none => rw [hrec] at hsol; cases hsol
      | some R =>
      obtain ⟨b9, T9⟩ := R
      rw [hrec] at hsol
      have CS := Lib.hid (fun (V : World) (A1 A2 : Option Addr) (n1 c1 n2 c2 : Nat) (hB : Below wr.heap.size wr V) (h1 : TermK V A1 n1 c1 (prt ss (y :: p) x1)) (h2 : TermK V A2 n2 c2 (prt ss (y :: q) y1)) => HIH.out _ _ Tk b9 T9 A1 A2 n1 c1 n2 c2 V (HSGr.out.up hB) (HSk.out.below hB) HTk.out hgd1 hgd2 h1 h2 hrec)
      have HT9 := Lib.hid (solF_good m _ _ Tk b9 T9 hgd1 hgd2 HTk.out hrec).1
      obtain ⟨w3, hw3⟩ : ∃ w3, w3 = wr := ⟨_, rfl⟩
      clear w3 hw3
      cases b9 with
      | false =>
        have HE := Lib.hid (Option.some.inj hsol)
        clear cx0 cy0 hNd s1 s2 s3 t1 t2 t3 hza hgd1 hgd2 hzk hdr hx1 hy1 hsol hrec hsz
        go_upto_region 18 with fail
        refine wp_region_held_drew (S := (fun w' => w'.cell? ⟨d, 0, none⟩ = some (.slice As ns cs) ∧ w'.cell? ⟨bx, ox + k, none⟩ = some (.int .i64 x1) ∧ w'.cell? ⟨by', oy + k, none⟩ = some (.int .i64 y1))) (by kernel_rfl) ?_ (fun hHeld => ?_)
        · first | exact ⟨hs7, hi7, hj7⟩ | exact ⟨hs6, hi6, hj6⟩ | exact ⟨hs8, hi8, hj8⟩ | exact ⟨hsA, hiA, hjA⟩ | go_keep
        refine wpAnyH_take (i := 0) (v := ?_) rfl (by kernel_rfl) (by kernel_rfl) (by kernel_rfl) (fun _ _ _ h => h) (Or.inl ⟨by rfl, ?_⟩) (by assumption) ?_
        rotate_left
        · intro w hSw; (try dsimp only at hSw); go_simp <;> with_reducible rfl
        try simp only [List.getElem_toArray, List.getElem_cons_zero, Act.put, List.setIfInBounds_toArray, List.set_cons_zero, List.set_cons_succ]
        refine wpAnyH_take (i := 1) (v := ?_) rfl (by kernel_rfl) (by kernel_rfl) (by kernel_rfl) (fun _ _ _ h => h) (Or.inl ⟨by rfl, ?_⟩) (by assumption) ?_
        rotate_left
        · intro w hSw; (try dsimp only at hSw); go_simp <;> with_reducible rfl
        try simp only [List.getElem_toArray, List.getElem_cons_succ, List.getElem_cons_zero, Act.put, List.setIfInBounds_toArray, List.set_cons_zero, List.set_cons_succ]
        refine wpAnyH_take (i := 2) (v := ?_) rfl (by kernel_rfl) (by kernel_rfl) (by kernel_rfl) (fun _ _ _ h => h) (Or.inl ⟨by rfl, ?_⟩) (by assumption) ?_
        rotate_left
        · intro w hSw; (try dsimp only at hSw); go_simp <;> with_reducible rfl
        try simp only [List.getElem_toArray, List.getElem_cons_succ, List.getElem_cons_zero, Act.put, List.setIfInBounds_toArray, List.set_cons_zero, List.set_cons_succ]
        refine wpAnyH_take (i := 3) (v := ?_) rfl (by kernel_rfl) (by kernel_rfl) (by kernel_rfl) (fun _ _ _ h => h) (Or.inl ⟨by rfl, ?_⟩) (by assumption) ?_
        rotate_left
        · intro w hSw; (try dsimp only at hSw); go_simp <;> with_reducible rfl
        try simp only [List.getElem_toArray, List.getElem_cons_succ, List.getElem_cons_zero, Act.put, List.setIfInBounds_toArray, List.set_cons_zero, List.set_cons_succ]
        refine wpAnyH_take (i := 4) (v := ?_) rfl (by kernel_rfl) (by kernel_rfl) (by kernel_rfl) (fun _ _ _ h => h) (Or.inl ⟨by rfl, ?_⟩) (by assumption) ?_
        rotate_left
        · intro w hSw; (try dsimp only at hSw); go_simp <;> with_reducible rfl
        try simp only [List.getElem_toArray, List.getElem_cons_succ, List.getElem_cons_zero, Act.put, List.setIfInBounds_toArray, List.set_cons_zero, List.set_cons_succ]
        refine wpAnyH_take (i := 5) (v := ?_) rfl (by kernel_rfl) (by kernel_rfl) (by kernel_rfl) (fun _ _ _ h => h) (Or.inl ⟨by rfl, ?_⟩) (by assumption) ?_
        rotate_left
        · intro w hSw; (try dsimp only at hSw); go_simp <;> with_reducible rfl
        try simp only [List.getElem_toArray, List.getElem_cons_succ, List.getElem_cons_zero, Act.put, List.setIfInBounds_toArray, List.set_cons_zero, List.set_cons_succ]
        refine wpAnyH_take (i := 6) (v := ?_) rfl (by kernel_rfl) (by kernel_rfl) (by kernel_rfl) (fun _ _ _ h => h) (Or.inl ⟨by rfl, ?_⟩) (by assumption) ?_
        rotate_left
        · intro w hSw; (try dsimp only at hSw); go_simp <;> with_reducible rfl
        try simp only [List.getElem_toArray, List.getElem_cons_succ, List.getElem_cons_zero, Act.put, List.setIfInBounds_toArray, List.set_cons_zero, List.set_cons_succ]
        refine wpAnyH_take (i := 7) (v := ?_) rfl (by kernel_rfl) (by kernel_rfl) (by kernel_rfl) (fun _ _ _ h => h) (Or.inl ⟨by rfl, ?_⟩) (by assumption) ?_
        rotate_left
        · intro w hSw; (try dsimp only at hSw); go_simp <;> with_reducible rfl
        try simp only [List.getElem_toArray, List.getElem_cons_succ, List.getElem_cons_zero, Act.put, List.setIfInBounds_toArray, List.set_cons_zero, List.set_cons_succ]
        refine wpAnyH_take (i := 8) (v := ?_) rfl (by kernel_rfl) (by kernel_rfl) (by kernel_rfl) (fun _ _ _ h => h) (Or.inl ⟨by rfl, ?_⟩) (by assumption) ?_
        rotate_left
        · intro w hSw; (try dsimp only at hSw); go_simp <;> with_reducible rfl
        try simp only [List.getElem_toArray, List.getElem_cons_succ, List.getElem_cons_zero, Act.put, List.setIfInBounds_toArray, List.set_cons_zero, List.set_cons_succ]
        refine wpAnyH_take (i := 9) (v := ?_) rfl (by kernel_rfl) (by kernel_rfl) (by kernel_rfl) (fun _ _ _ h => h) (Or.inl ⟨by rfl, ?_⟩) (by assumption) ?_
        rotate_left
        · intro w hSw; (try dsimp only at hSw); go_simp <;> with_reducible rfl
        try simp only [List.getElem_toArray, List.getElem_cons_succ, List.getElem_cons_zero, Act.put, List.setIfInBounds_toArray, List.set_cons_zero, List.set_cons_succ]
        refine wpAnyH_take (i := 11) (v := ?_) rfl (by kernel_rfl) (by kernel_rfl) (by kernel_rfl) (fun _ _ _ h => h) (Or.inl ⟨by rfl, ?_⟩) (by assumption) ?_
        rotate_left
        · intro w hSw; (try dsimp only at hSw); go_simp <;> with_reducible rfl
        try simp only [List.getElem_toArray, List.getElem_cons_succ, List.getElem_cons_zero, Act.put, List.setIfInBounds_toArray, List.set_cons_zero, List.set_cons_succ]
        refine wpAnyH_take (i := 12) (v := ?_) rfl (by kernel_rfl) (by kernel_rfl) (by kernel_rfl) (fun _ _ _ h => h) (Or.inl ⟨by rfl, ?_⟩) (by assumption) ?_
        rotate_left
        · intro w hSw; (try dsimp only at hSw); go_simp <;> with_reducible rfl
        try simp only [List.getElem_toArray, List.getElem_cons_succ, List.getElem_cons_zero, Act.put, List.setIfInBounds_toArray, List.set_cons_zero, List.set_cons_succ]
        refine wpAnyH_take (i := 13) (v := ?_) rfl (by kernel_rfl) (by kernel_rfl) (by kernel_rfl) (fun _ _ _ h => h) (Or.inl ⟨by rfl, ?_⟩) (by assumption) ?_
        rotate_left
        · intro w hSw; (try dsimp only at hSw); go_simp <;> with_reducible rfl
        try simp only [List.getElem_toArray, List.getElem_cons_succ, List.getElem_cons_zero, Act.put, List.setIfInBounds_toArray, List.set_cons_zero, List.set_cons_succ]
        refine wpAnyH_take (i := 14) (v := ?_) rfl (by kernel_rfl) (by kernel_rfl) (by kernel_rfl) (fun _ _ _ h => h) (Or.inl ⟨by rfl, ?_⟩) (by assumption) ?_
        rotate_left
        · intro w hSw; (try dsimp only at hSw); go_simp <;> with_reducible rfl
        try simp only [List.getElem_toArray, List.getElem_cons_succ, List.getElem_cons_zero, Act.put, List.setIfInBounds_toArray, List.set_cons_zero, List.set_cons_succ]
        refine wpAnyH_take (i := 15) (v := ?_) rfl (by kernel_rfl) (by kernel_rfl) (by kernel_rfl) (fun _ _ _ h => h) (Or.inl ⟨by rfl, ?_⟩) (by assumption) ?_
        rotate_left
        · intro w hSw; (try dsimp only at hSw); go_simp <;> with_reducible rfl
        try simp only [List.getElem_toArray, List.getElem_cons_succ, List.getElem_cons_zero, Act.put, List.setIfInBounds_toArray, List.set_cons_zero, List.set_cons_succ]
        refine wpAnyH_take (i := 16) (v := ?_) rfl (by kernel_rfl) (by kernel_rfl) (by kernel_rfl) (fun _ _ _ h => h) (Or.inl ⟨by rfl, ?_⟩) (by assumption) ?_
        rotate_left
        · intro w hSw; (try dsimp only at hSw); go_simp <;> with_reducible rfl
        try simp only [List.getElem_toArray, List.getElem_cons_succ, List.getElem_cons_zero, Act.put, List.setIfInBounds_toArray, List.set_cons_zero, List.set_cons_succ]
        refine wpAnyH_take (i := 17) (v := ?_) rfl (by kernel_rfl) (by kernel_rfl) (by kernel_rfl) (fun _ _ _ h => h) (Or.inl ⟨by rfl, ?_⟩) (by assumption) ?_
        rotate_left
        · intro w hSw; (try dsimp only at hSw); go_simp <;> with_reducible rfl
        try simp only [List.getElem_toArray, List.getElem_cons_succ, List.getElem_cons_zero, Act.put, List.setIfInBounds_toArray, List.set_cons_zero, List.set_cons_succ]
        refine wpAnyH_take (i := 18) (v := ?_) rfl (by kernel_rfl) (by kernel_rfl) (by kernel_rfl) (fun _ _ _ h => h) (Or.inl ⟨by rfl, ?_⟩) (by assumption) ?_
        rotate_left
        · intro w hSw; (try dsimp only at hSw); go_simp <;> with_reducible rfl
        try simp only [List.getElem_toArray, List.getElem_cons_succ, List.getElem_cons_zero, Act.put, List.setIfInBounds_toArray, List.set_cons_zero, List.set_cons_succ]
        refine wpAnyH_take (i := 19) (v := ?_) rfl (by kernel_rfl) (by kernel_rfl) (by kernel_rfl) (fun _ _ _ h => h) (Or.inl ⟨by rfl, ?_⟩) (by assumption) ?_
        rotate_left
        · intro w hSw; (try dsimp only at hSw); go_simp <;> with_reducible rfl
        try simp only [List.getElem_toArray, List.getElem_cons_succ, List.getElem_cons_zero, Act.put, List.setIfInBounds_toArray, List.set_cons_zero, List.set_cons_succ]
        refine wpAnyH_ready (rs := [10]) (by kernel_rfl) (by simp) (AllReadyH.cons rfl (fun K hK => ?_) AllReadyH.nil)
        go_simp
        (go_at_call 95; ((with_reducible refine (CP1.out _ ((Below.refl _ wr).drew)).mono ?_); rintro e w6 ⟨A6, n6, c6, rfl, hT6, hB6⟩); have hB60 : Below wr.heap.size wr w6 := below_then ((Below.refl _ wr).drew) hB6; have hs6 := (hB60.cell (p := ⟨d, 0, none⟩) hdw).trans csg; have hi6 := (hB60.cell (p := ⟨bx, ox + k, none⟩) hbxw).trans cx; have hj6 := (hB60.cell (p := ⟨by', oy + k, none⟩) hbyw).trans cy1; have HB6 := Lib.hid hB60; have HT6 := Lib.hid hT6; clear hB6 hT6 hB60)
        try go_wp2_with fail
        refine hK.out _ _ ?_ (fun hHeld => ?_)
        · first | exact ⟨hs7, hi7, hj7⟩ | exact ⟨hs6, hi6, hj6⟩ | exact ⟨hs8, hi8, hj8⟩ | exact ⟨hsA, hiA, hjA⟩ | go_keep
        clear hK K
        try simp only [List.getElem_toArray, List.getElem_cons_succ, List.getElem_cons_zero, Act.put, List.setIfInBounds_toArray, List.set_cons_zero, List.set_cons_succ]
        refine wpAnyH_ready (rs := [20]) (by kernel_rfl) (by simp) (AllReadyH.cons rfl (fun K hK => ?_) AllReadyH.nil)
        go_simp
        (go_at_call 95; ((with_reducible refine (CP2.out _ HB6.out).mono ?_); rintro e w7 ⟨A7, n7, c7, rfl, hT7, hB7⟩); have hB70 : Below wr.heap.size wr w7 := below_then HB6.out hB7; have hs7 := (hB70.cell (p := ⟨d, 0, none⟩) hdw).trans csg; have hi7 := (hB70.cell (p := ⟨bx, ox + k, none⟩) hbxw).trans cx; have hj7 := (hB70.cell (p := ⟨by', oy + k, none⟩) hbyw).trans cy1; have HB7 := Lib.hid hB70; have HT7 := Lib.hid hT7; have HT67 := Lib.hid (HT6.out.below hB7); clear hB7 hT7 hB70 hs6 hi6 hj6)
        try go_wp2_with fail
        refine hK.out _ _ ?_ (fun hHeld => ?_)
        · first | exact ⟨hs7, hi7, hj7⟩ | exact ⟨hs6, hi6, hj6⟩ | exact ⟨hs8, hi8, hj8⟩ | exact ⟨hsA, hiA, hjA⟩ | go_keep
        clear hK K
        try simp only [List.getElem_toArray, List.getElem_cons_succ, List.getElem_cons_zero, Act.put, List.setIfInBounds_toArray, List.set_cons_zero, List.set_cons_succ]
        refine wpAnyH_ready (rs := [21]) (by kernel_rfl) (by simp) (AllReadyH.cons rfl (fun K hK => ?_) AllReadyH.nil)
        go_simp
        (go_at_call 94; ((with_reducible refine (CS.out _ _ _ _ _ _ _ HB7.out HT67.out HT7.out).mono ?_); rintro e w8 ⟨rfl, hK8, hS8⟩); have hs8 := hS8.sign; have hi8 := (hK8.cell (p := ⟨bx, ox + k, none⟩) ⟨Nat.lt_of_lt_of_le hbxw HB7.out.size, hnx⟩).trans hi7; have hj8 := (hK8.cell (p := ⟨by', oy + k, none⟩) ⟨Nat.lt_of_lt_of_le hbyw HB7.out.size, hny⟩).trans hj7; have HK8 := Lib.hid (HK.out.next ((KeepE.old HB7.out).next hK8)); have HS8 := Lib.hid hS8; clear hK8 hS8 hs7 hi7 hj7)
        try go_wp2_with fail
        refine hK.out _ _ ?_ (fun hHeld => ?_)
        · first | exact ⟨hs7, hi7, hj7⟩ | exact ⟨hs6, hi6, hj6⟩ | exact ⟨hs8, hi8, hj8⟩ | exact ⟨hsA, hiA, hjA⟩ | go_keep
        clear hK K
        try simp only [List.getElem_toArray, List.getElem_cons_succ, List.getElem_cons_zero, Act.put, List.setIfInBounds_toArray, List.set_cons_zero, List.set_cons_succ]
        refine wpAnyH_take (i := 22) (v := ?_) rfl (by kernel_rfl) (by kernel_rfl) (by kernel_rfl) (fun _ _ _ h => h) (Or.inl ⟨by rfl, ?_⟩) (by assumption) ?_
        rotate_left
        · intro w hSw; (try dsimp only at hSw); go_simp <;> with_reducible rfl
        try simp only [List.getElem_toArray, List.getElem_cons_succ, List.getElem_cons_zero, Act.put, List.setIfInBounds_toArray, List.set_cons_zero, List.set_cons_succ]
        refine wpAnyH_done (by kernel_rfl) ?_ _
        go_wp2_with fail
        go_ret
        have he := HE.out
        simp only [Prod.mk.injEq] at he
        exact ⟨by rw [← he.1]; rfl, (KeepE.old (below_then HB2.out HB8.out)).next HK8.out, by rw [← he.2]; exact HS8.out⟩
      | true =>
        have HSO := Lib.hid hsol
        clear cx0 cy0 hNd s1 s2 s3 t1 t2 t3 hza hgd1 hgd2 hzk hdr hx1 hy1 hsol hrec hsz
        go_upto_region 18 with fail
        refine wp_region_held_drew (S := (fun w' => w'.cell? ⟨d, 0, none⟩ = some (.slice As ns cs) ∧ w'.cell? ⟨bx, ox + k, none⟩ = some (.int .i64 x1) ∧ w'.cell? ⟨by', oy + k, none⟩ = some (.int .i64 y1))) (by kernel_rfl) ?_ (fun hHeld => ?_)
        · first | exact ⟨hs7, hi7, hj7⟩ | exact ⟨hs6, hi6, hj6⟩ | exact ⟨hs8, hi8, hj8⟩ | exact ⟨hsA, hiA, hjA⟩ | go_keep
        refine wpAnyH_take (i := 0) (v := ?_) rfl (by kernel_rfl) (by kernel_rfl) (by kernel_rfl) (fun _ _ _ h => h) (Or.inl ⟨by rfl, ?_⟩) (by assumption) ?_
        rotate_left
        · intro w hSw; (try dsimp only at hSw); go_simp <;> with_reducible rfl
        try simp only [List.getElem_toArray, List.getElem_cons_zero, Act.put, List.setIfInBounds_toArray, List.set_cons_zero, List.set_cons_succ]
        refine wpAnyH_take (i := 1) (v := ?_) rfl (by kernel_rfl) (by kernel_rfl) (by kernel_rfl) (fun _ _ _ h => h) (Or.inl ⟨by rfl, ?_⟩) (by assumption) ?_
        rotate_left
        · intro w hSw; (try dsimp only at hSw); go_simp <;> with_reducible rfl
        try simp only [List.getElem_toArray, List.getElem_cons_succ, List.getElem_cons_zero, Act.put, List.setIfInBounds_toArray, List.set_cons_zero, List.set_cons_succ]
        refine wpAnyH_take (i := 2) (v := ?_) rfl (by kernel_rfl) (by kernel_rfl) (by kernel_rfl) (fun _ _ _ h => h) (Or.inl ⟨by rfl, ?_⟩) (by assumption) ?_
        rotate_left
        · intro w hSw; (try dsimp only at hSw); go_simp <;> with_reducible rfl
        try simp only [List.getElem_toArray, List.getElem_cons_succ, List.getElem_cons_zero, Act.put, List.setIfInBounds_toArray, List.set_cons_zero, List.set_cons_succ]
        refine wpAnyH_take (i := 3) (v := ?_) rfl (by kernel_rfl) (by kernel_rfl) (by kernel_rfl) (fun _ _ _ h => h) (Or.inl ⟨by rfl, ?_⟩) (by assumption) ?_
        rotate_left
        · intro w hSw; (try dsimp only at hSw); go_simp <;> with_reducible rfl
        try simp only [List.getElem_toArray, List.getElem_cons_succ, List.getElem_cons_zero, Act.put, List.setIfInBounds_toArray, List.set_cons_zero, List.set_cons_succ]
        refine wpAnyH_take (i := 4) (v := ?_) rfl (by kernel_rfl) (by kernel_rfl) (by kernel_rfl) (fun _ _ _ h => h) (Or.inl ⟨by rfl, ?_⟩) (by assumption) ?_
        rotate_left
        · intro w hSw; (try dsimp only at hSw); go_simp <;> with_reducible rfl
        try simp only [List.getElem_toArray, List.getElem_cons_succ, List.getElem_cons_zero, Act.put, List.setIfInBounds_toArray, List.set_cons_zero, List.set_cons_succ]
        refine wpAnyH_take (i := 5) (v := ?_) rfl (by kernel_rfl) (by kernel_rfl) (by kernel_rfl) (fun _ _ _ h => h) (Or.inl ⟨by rfl, ?_⟩) (by assumption) ?_
        rotate_left
        · intro w hSw; (try dsimp only at hSw); go_simp <;> with_reducible rfl
        try simp only [List.getElem_toArray, List.getElem_cons_succ, List.getElem_cons_zero, Act.put, List.setIfInBounds_toArray, List.set_cons_zero, List.set_cons_succ]
        refine wpAnyH_take (i := 6) (v := ?_) rfl (by kernel_rfl) (by kernel_rfl) (by kernel_rfl) (fun _ _ _ h => h) (Or.inl ⟨by rfl, ?_⟩) (by assumption) ?_
        rotate_left
        · intro w hSw; (try dsimp only at hSw); go_simp <;> with_reducible rfl
        try simp only [List.getElem_toArray, List.getElem_cons_succ, List.getElem_cons_zero, Act.put, List.setIfInBounds_toArray, List.set_cons_zero, List.set_cons_succ]
        refine wpAnyH_take (i := 7) (v := ?_) rfl (by kernel_rfl) (by kernel_rfl) (by kernel_rfl) (fun _ _ _ h => h) (Or.inl ⟨by rfl, ?_⟩) (by assumption) ?_
        rotate_left
        · intro w hSw; (try dsimp only at hSw); go_simp <;> with_reducible rfl
        try simp only [List.getElem_toArray, List.getElem_cons_succ, List.getElem_cons_zero, Act.put, List.setIfInBounds_toArray, List.set_cons_zero, List.set_cons_succ]
        refine wpAnyH_take (i := 8) (v := ?_) rfl (by kernel_rfl) (by kernel_rfl) (by kernel_rfl) (fun _ _ _ h => h) (Or.inl ⟨by rfl, ?_⟩) (by assumption) ?_
        rotate_left
        · intro w hSw; (try dsimp only at hSw); go_simp <;> with_reducible rfl
        try simp only [List.getElem_toArray, List.getElem_cons_succ, List.getElem_cons_zero, Act.put, List.setIfInBounds_toArray, List.set_cons_zero, List.set_cons_succ]
        refine wpAnyH_take (i := 9) (v := ?_) rfl (by kernel_rfl) (by kernel_rfl) (by kernel_rfl) (fun _ _ _ h => h) (Or.inl ⟨by rfl, ?_⟩) (by assumption) ?_
        rotate_left
        · intro w hSw; (try dsimp only at hSw); go_simp <;> with_reducible rfl
        try simp only [List.getElem_toArray, List.getElem_cons_succ, List.getElem_cons_zero, Act.put, List.setIfInBounds_toArray, List.set_cons_zero, List.set_cons_succ]
        refine wpAnyH_take (i := 11) (v := ?_) rfl (by kernel_rfl) (by kernel_rfl) (by kernel_rfl) (fun _ _ _ h => h) (Or.inl ⟨by rfl, ?_⟩) (by assumption) ?_
        rotate_left
        · intro w hSw; (try dsimp only at hSw); go_simp <;> with_reducible rfl
        try simp only [List.getElem_toArray, List.getElem_cons_succ, List.getElem_cons_zero, Act.put, List.setIfInBounds_toArray, List.set_cons_zero, List.set_cons_succ]
        refine wpAnyH_take (i := 12) (v := ?_) rfl (by kernel_rfl) (by kernel_rfl) (by kernel_rfl) (fun _ _ _ h => h) (Or.inl ⟨by rfl, ?_⟩) (by assumption) ?_
        rotate_left
        · intro w hSw; (try dsimp only at hSw); go_simp <;> with_reducible rfl
        try simp only [List.getElem_toArray, List.getElem_cons_succ, List.getElem_cons_zero, Act.put, List.setIfInBounds_toArray, List.set_cons_zero, List.set_cons_succ]
        refine wpAnyH_take (i := 13) (v := ?_) rfl (by kernel_rfl) (by kernel_rfl) (by kernel_rfl) (fun _ _ _ h => h) (Or.inl ⟨by rfl, ?_⟩) (by assumption) ?_
        rotate_left
        · intro w hSw; (try dsimp only at hSw); go_simp <;> with_reducible rfl
        try simp only [List.getElem_toArray, List.getElem_cons_succ, List.getElem_cons_zero, Act.put, List.setIfInBounds_toArray, List.set_cons_zero, List.set_cons_succ]
        refine wpAnyH_take (i := 14) (v := ?_) rfl (by kernel_rfl) (by kernel_rfl) (by kernel_rfl) (fun _ _ _ h => h) (Or.inl ⟨by rfl, ?_⟩) (by assumption) ?_
        rotate_left
        · intro w hSw; (try dsimp only at hSw); go_simp <;> with_reducible rfl
        try simp only [List.getElem_toArray, List.getElem_cons_succ, List.getElem_cons_zero, Act.put, List.setIfInBounds_toArray, List.set_cons_zero, List.set_cons_succ]
        refine wpAnyH_take (i := 15) (v := ?_) rfl (by kernel_rfl) (by kernel_rfl) (by kernel_rfl) (fun _ _ _ h => h) (Or.inl ⟨by rfl, ?_⟩) (by assumption) ?_
        rotate_left
        · intro w hSw; (try dsimp only at hSw); go_simp <;> with_reducible rfl
        try simp only [List.getElem_toArray, List.getElem_cons_succ, List.getElem_cons_zero, Act.put, List.setIfInBounds_toArray, List.set_cons_zero, List.set_cons_succ]
        refine wpAnyH_take (i := 16) (v := ?_) rfl (by kernel_rfl) (by kernel_rfl) (by kernel_rfl) (fun _ _ _ h => h) (Or.inl ⟨by rfl, ?_⟩) (by assumption) ?_
        rotate_left
        · intro w hSw; (try dsimp only at hSw); go_simp <;> with_reducible rfl
        try simp only [List.getElem_toArray, List.getElem_cons_succ, List.getElem_cons_zero, Act.put, List.setIfInBounds_toArray, List.set_cons_zero, List.set_cons_succ]
        refine wpAnyH_take (i := 17) (v := ?_) rfl (by kernel_rfl) (by kernel_rfl) (by kernel_rfl) (fun _ _ _ h => h) (Or.inl ⟨by rfl, ?_⟩) (by assumption) ?_
        rotate_left
        · intro w hSw; (try dsimp only at hSw); go_simp <;> with_reducible rfl
        try simp only [List.getElem_toArray, List.getElem_cons_succ, List.getElem_cons_zero, Act.put, List.setIfInBounds_toArray, List.set_cons_zero, List.set_cons_succ]
        refine wpAnyH_take (i := 18) (v := ?_) rfl (by kernel_rfl) (by kernel_rfl) (by kernel_rfl) (fun _ _ _ h => h) (Or.inl ⟨by rfl, ?_⟩) (by assumption) ?_
        rotate_left
        · intro w hSw; (try dsimp only at hSw); go_simp <;> with_reducible rfl
        try simp only [List.getElem_toArray, List.getElem_cons_succ, List.getElem_cons_zero, Act.put, List.setIfInBounds_toArray, List.set_cons_zero, List.set_cons_succ]
        refine wpAnyH_take (i := 19) (v := ?_) rfl (by kernel_rfl) (by kernel_rfl) (by kernel_rfl) (fun _ _ _ h => h) (Or.inl ⟨by rfl, ?_⟩) (by assumption) ?_
        rotate_left
        · intro w hSw; (try dsimp only at hSw); go_simp <;> with_reducible rfl
        try simp only [List.getElem_toArray, List.getElem_cons_succ, List.getElem_cons_zero, Act.put, List.setIfInBounds_toArray, List.set_cons_zero, List.set_cons_succ]
        refine wpAnyH_ready (rs := [10]) (by kernel_rfl) (by simp) (AllReadyH.cons rfl (fun K hK => ?_) AllReadyH.nil)
        go_simp
        (go_at_call 95; ((with_reducible refine (CP1.out _ ((Below.refl _ wr).drew)).mono ?_); rintro e w6 ⟨A6, n6, c6, rfl, hT6, hB6⟩); have hB60 : Below wr.heap.size wr w6 := below_then ((Below.refl _ wr).drew) hB6; have hs6 := (hB60.cell (p := ⟨d, 0, none⟩) hdw).trans csg; have hi6 := (hB60.cell (p := ⟨bx, ox + k, none⟩) hbxw).trans cx; have hj6 := (hB60.cell (p := ⟨by', oy + k, none⟩) hbyw).trans cy1; have HB6 := Lib.hid hB60; have HT6 := Lib.hid hT6; clear hB6 hT6 hB60)
        try go_wp2_with fail
        refine hK.out _ _ ?_ (fun hHeld => ?_)
        · first | exact ⟨hs7, hi7, hj7⟩ | exact ⟨hs6, hi6, hj6⟩ | exact ⟨hs8, hi8, hj8⟩ | exact ⟨hsA, hiA, hjA⟩ | go_keep
        clear hK K
        try simp only [List.getElem_toArray, List.getElem_cons_succ, List.getElem_cons_zero, Act.put, List.setIfInBounds_toArray, List.set_cons_zero, List.set_cons_succ]
        refine wpAnyH_ready (rs := [20]) (by kernel_rfl) (by simp) (AllReadyH.cons rfl (fun K hK => ?_) AllReadyH.nil)
        go_simp
        (go_at_call 95; ((with_reducible refine (CP2.out _ HB6.out).mono ?_); rintro e w7 ⟨A7, n7, c7, rfl, hT7, hB7⟩); have hB70 : Below wr.heap.size wr w7 := below_then HB6.out hB7; have hs7 := (hB70.cell (p := ⟨d, 0, none⟩) hdw).trans csg; have hi7 := (hB70.cell (p := ⟨bx, ox + k, none⟩) hbxw).trans cx; have hj7 := (hB70.cell (p := ⟨by', oy + k, none⟩) hbyw).trans cy1; have HB7 := Lib.hid hB70; have HT7 := Lib.hid hT7; have HT67 := Lib.hid (HT6.out.below hB7); clear hB7 hT7 hB70 hs6 hi6 hj6)
        try go_wp2_with fail
        refine hK.out _ _ ?_ (fun hHeld => ?_)
        · first | exact ⟨hs7, hi7, hj7⟩ | exact ⟨hs6, hi6, hj6⟩ | exact ⟨hs8, hi8, hj8⟩ | exact ⟨hsA, hiA, hjA⟩ | go_keep
        clear hK K
        try simp only [List.getElem_toArray, List.getElem_cons_succ, List.getElem_cons_zero, Act.put, List.setIfInBounds_toArray, List.set_cons_zero, List.set_cons_succ]
        refine wpAnyH_ready (rs := [21]) (by kernel_rfl) (by simp) (AllReadyH.cons rfl (fun K hK => ?_) AllReadyH.nil)
        go_simp
        (go_at_call 94; ((with_reducible refine (CS.out _ _ _ _ _ _ _ HB7.out HT67.out HT7.out).mono ?_); rintro e w8 ⟨rfl, hK8, hS8⟩); have hs8 := hS8.sign; have hi8 := (hK8.cell (p := ⟨bx, ox + k, none⟩) ⟨Nat.lt_of_lt_of_le hbxw HB7.out.size, hnx⟩).trans hi7; have hj8 := (hK8.cell (p := ⟨by', oy + k, none⟩) ⟨Nat.lt_of_lt_of_le hbyw HB7.out.size, hny⟩).trans hj7; have HK8 := Lib.hid (HK.out.next ((KeepE.old HB7.out).next hK8)); have HS8 := Lib.hid hS8; clear hK8 hS8 hs7 hi7 hj7)
        try go_wp2_with fail
        refine hK.out _ _ ?_ (fun hHeld => ?_)
        · first | exact ⟨hs7, hi7, hj7⟩ | exact ⟨hs6, hi6, hj6⟩ | exact ⟨hs8, hi8, hj8⟩ | exact ⟨hsA, hiA, hjA⟩ | go_keep
        clear hK K
        try simp only [List.getElem_toArray, List.getElem_cons_succ, List.getElem_cons_zero, Act.put, List.setIfInBounds_toArray, List.set_cons_zero, List.set_cons_succ]
        refine wpAnyH_take (i := 22) (v := ?_) rfl (by kernel_rfl) (by kernel_rfl) (by kernel_rfl) (fun _ _ _ h => h) (Or.inl ⟨by rfl, ?_⟩) (by assumption) ?_
        rotate_left
        · intro w hSw; (try dsimp only at hSw); go_simp <;> with_reducible rfl
        try simp only [List.getElem_toArray, List.getElem_cons_succ, List.getElem_cons_zero, Act.put, List.setIfInBounds_toArray, List.set_cons_zero, List.set_cons_succ]
        refine wpAnyH_done (by kernel_rfl) ?_ _
        go_wp2_with fail
        go_roundw
        case rel => exact ⟨k + 1, T9, by omega, by go_num, HSO, HT9, HS8, HK8⟩
        case measure => simp [intOf]; omega
    · obtain rfl : k = r := by omega
      have hsol := HL.out
      rw [List.drop_eq_nil_of_le (by rw [HZL.out]; omega)] at hsol
      unfold solL at hsol
      have HE := Lib.hid (Option.some.inj hsol)
      clear hsol
      go_wp2_with fail
      go_ret
      have he := HE.out
      simp only [Prod.mk.injEq] at he
      exact ⟨by rw [← he.1]; rfl, (KeepE.old (below_then HB2.out HB8.out)).next HK.out, by rw [← he.2]; exact HSk.out⟩

theorem sol_any (ss : Sg) (har : ArOk ss) (d : Nat) (As : Option Addr) (ns cs : Nat) : ∀ m, SolIH ss d As ns cs m := by
  intro m
  induction m with
  | zero => intro a b T bo T' Aa Ab na ca nb cb w _ _ _ _ _ _ _ h; cases h
  | succ m ih =>
    intro a b T bo T' Aa Ab na ca nb cb w hsg hS hT ga gb ha hb h
    unfold solF at h
    cases ea : lookF T 30 a with
    | none => rw [ea] at h; cases h
    | some a2 =>
    cases eb : lookF T 30 b with
    | none => rw [ea, eb] at h; cases a2 <;> cases h
    | some b2 =>
    have ga2 := lookF_good hT ga ea
    have gb2 := lookF_good hT gb eb
    rw [ea, eb] at h
    cases a2 with
    | nil => have := ga2.pos; simp at this
    | cons x p =>
    cases b2 with
    | nil => have := gb2.pos; simp at this
    | cons y q =>
    simp only at h
    by_cases h1 : x < 0 ∧ y = x
    · rw [if_pos h1] at h
      cases h
      exact sol_same ss d As ns cs a b T Aa Ab na ca nb cb w hsg hS hT ga gb ha hb x p y q ea eb h1.1 h1.2
    · rw [if_neg h1] at h
      by_cases hx : x < 0
      · rw [if_pos hx] at h
        have hyx : y ≠ x := fun e => h1 ⟨hx, e⟩
        cases ho : occF T (-x - 1).toNat 30 (y :: q) (List.replicate 24 false) with
        | none => rw [ho] at h; cases h
        | some R =>
          obtain ⟨bb, dn⟩ := R
          rw [ho] at h
          cases bb with
          | true => cases h; exact sol_occ ss d As ns cs a b T Aa Ab na ca nb cb w hsg hS hT ga gb ha hb x p y q ea eb hx hyx dn ho
          | false => cases h; exact sol_put ss d As ns cs a b T Aa Ab na ca nb cb w hsg hS hT ga gb ha hb x p y q ea eb hx hyx dn ho
      · rw [if_neg hx] at h
        by_cases hy : y < 0
        · rw [if_pos hy] at h
          exact sol_swap ss d As ns cs a b T Aa Ab na ca nb cb w hsg hS hT ga gb ha hb x p y q ea eb m ih hx hy bo T' h
        · rw [if_neg hy] at h
          by_cases hxy : x = y
          · rw [if_pos hxy] at h
            exact sol_args ss d As ns cs a b T Aa Ab na ca nb cb w hsg hS hT ga gb ha hb x p y q ea eb har m ih hx hxy.symm bo T' h
          · rw [if_neg hxy] at h
            cases h
            exact sol_clash ss d As ns cs a b T Aa Ab na ca nb cb w hsg hS hT ga gb ha hb x p y q ea eb hx hy hxy

end Go.Proofs.YtapcdhagkbfccaaGreat

/- Contracts: the solver's size and whole. -/
namespace Go.Proofs.YtapcdhagkbfccaaGreat
open Go.RowKit
attribute [local go_sem] eql_nil0 eql_nil1 neq_nil0 neq_nil1

/-- The size of what stands for a list; the sizes that are known. -/
def szL (g : List Int → List Nat → Option (Nat × List Nat)) (T : List (List Int)) : List Int → Nat → List Nat → Option (Nat × List Nat)
  | [], n, K => some (n, K)
  | z :: t, n, K => if 60 < n then some (n, K)
    else if 0 ≤ z ∨ T.getD (-z - 1).toNat [] = [] then szL g T t (n + 1) K
    else if K.getD (-z - 1).toNat 0 = 0 then match g (T.getD (-z - 1).toNat []) K with
      | none => none
      | some (s, K') => szL g T t (n + s) (K'.set (-z - 1).toNat s)
    else szL g T t (n + K.getD (-z - 1).toNat 0) K
def szF (T : List (List Int)) : Nat → List Int → List Nat → Option (Nat × List Nat)
  | 0, _, _ => none
  | m + 1, t, K => match szL (szF T m) T t 0 K with
    | none => none
    | some (n, K') => some (if 60 < n then 61 else n, K')
def KnOk (K : List Nat) : Prop := K.length = 24 ∧ ∀ k ∈ K, k ≤ 61
theorem KnOk.getD {K : List Nat} (h : KnOk K) (v : Nat) : K.getD v 0 ≤ 61 := by
  rw [List.getD_eq_getElem?_getD]
  cases e : K[v]? with
  | none => simp
  | some k => exact h.2 k (List.mem_of_getElem? e)
theorem KnOk.set {K : List Nat} (h : KnOk K) (v : Nat) {s : Nat} (hs : s ≤ 61) : KnOk (K.set v s) := ⟨by simpa using h.1, fun k hk => by
  rcases List.mem_or_eq_of_mem_set hk with hk | rfl
  · exact h.2 k hk
  · exact hs⟩
theorem szL_ok {g : List Int → List Nat → Option (Nat × List Nat)} {T : List (List Int)} (hg : ∀ t K r K', KnOk K → g t K = some (r, K') → r ≤ 61 ∧ KnOk K') : ∀ (t : List Int) (n : Nat) (K : List Nat) (r : Nat) (K' : List Nat), KnOk K → szL g T t n K = some (r, K') → KnOk K'
  | [], n, K, r, K', hK, h => by cases h; exact hK
  | z :: t, n, K, r, K', hK, h => by
    unfold szL at h
    split at h
    · cases h; exact hK
    · split at h
      · exact szL_ok hg t _ K r K' hK h
      · split at h
        · cases e : g (T.getD (-z - 1).toNat []) K with
          | none => rw [e] at h; cases h
          | some R =>
            obtain ⟨s, K1⟩ := R
            rw [e] at h
            obtain ⟨k1, k2⟩ := hg _ _ _ _ hK e
            exact szL_ok hg t _ _ r K' (k2.set _ k1) h
        · exact szL_ok hg t _ K r K' hK h
theorem szF_ok {T : List (List Int)} : ∀ (m : Nat) (t : List Int) (K : List Nat) (r : Nat) (K' : List Nat), KnOk K → szF T m t K = some (r, K') → r ≤ 61 ∧ KnOk K'
  | 0, t, K, r, K', _, h => by cases h
  | m + 1, t, K, r, K', hK, h => by
    unfold szF at h
    cases e : szL (szF T m) T t 0 K with
    | none => rw [e] at h; cases h
    | some R =>
      obtain ⟨n, K1⟩ := R
      have := szL_ok (szF_ok m) t 0 K n K1 hK e
      rw [e] at h
      cases h
      refine ⟨?_, this⟩
      split <;> omega
/-- The known sizes in a block. -/
def KnAt (w : World) (g : Nat) (K : List Nat) : Prop := Blk w g 167 ((cI K).map (Value.int .i64)).toArray ∧ K.length = 24
theorem KnAt.cell {w : World} {g j : Nat} {K : List Nat} (h : KnAt w g K) (hj : j < 24) : w.cell? ⟨g, j, none⟩ = some (.int .i64 ((K.getD j 0 : Nat) : Int)) ∧ w.frozen? ⟨g, j, none⟩ = false := by
  refine ⟨?_, h.1.frozen j⟩
  rw [h.1.cell]
  have hl : j < K.length := by rw [h.2]; exact hj
  rw [List.getD_eq_getElem?_getD, List.getElem?_eq_getElem hl]
  simp [cI, hl]
theorem KnAt.set {w : World} {g j : Nat} {K : List Nat} (h : KnAt w g K) (s : Nat) : KnAt (w.setCell ⟨g, j, none⟩ (.int .i64 (s : Int))) g (K.set j s) := by
  refine ⟨?_, by simpa using h.2⟩
  have := h.1.set_ j (.int .i64 (s : Int))
  have e : ((cI (K.set j s)).map (Value.int .i64)).toArray = ((cI K).map (Value.int .i64)).toArray.setIfInBounds j (.int .i64 (s : Int)) := by
    simp [cI, List.map_set]
  rw [e]
  exact this
theorem KnAt.put_far {w0 w : World} {g j o d : Nat} {K : List Nat} {x v : Value} (_ : KnAt w g K) (hB : Below w0.heap.size w0 w) (hd : d < w0.heap.size) (hx : w0.cell? ⟨d, o, none⟩ = some x) (hg : w0.heap.size ≤ g) : (w.setCell ⟨g, j, none⟩ v).drew.cell? ⟨d, o, none⟩ = some x :=
  (World.cell?_setCell_far w ⟨g, j, none⟩ ⟨d, o, none⟩ v (show g ≠ d by omega)).trans ((hB.cell (p := ⟨d, o, none⟩) hd).trans hx)
/-- What size hands back. -/
def RetSz (w0 : World) (g : Nat) (r : Nat) (K : List Nat) (e : Ending) (w' : World) : Prop :=
  e = .returned (.int .i64 (r : Int)) ∧ Below w0.heap.size w0 w' ∧ KnAt w' g K

set_option maxRecDepth 100000 in
set_option maxHeartbeats 4000000 in
theorem size_any (w0 : World) (g d : Nat) (As : Option Addr) (ns cs : Nat) (T : List (List Int)) (hS : SolAt w0 d As ns cs T) (hT : TosOk T) (hg : w0.heap.size ≤ g) :
    ∀ (m : Nat) (t : List Int) (K : List Nat) (r : Nat) (K' : List Nat) (A : Option Addr) (n c : Nat) (w : World), Below w0.heap.size w0 w → IntsAt w0 w0.heap.size A n t → (∀ z ∈ t, -24 ≤ z) → KnAt w g K → KnOk K → szF T m t K = some (r, K') →
    Calls Tryz.prog 131 #[.pointer (some ⟨d, 0, none⟩), .slice A n c, .pointer (some ⟨g, 0, none⟩)] w (RetSz w0 g r K') := by
  intro m
  induction m with
  | zero => intro t K r K' A n c w _ _ _ _ _ h; cases h
  | succ m ih =>
    intro t K r K' A n c w hB ht h24 hK hKo ho
    unfold szF at ho
    cases hsz : szL (szF T m) T t 0 K with
    | none => rw [hsz] at ho; cases ho
    | some R =>
    obtain ⟨nR, KR⟩ := R
    rw [hsz] at ho
    have ho2 := Option.some.inj ho
    simp only [Prod.mk.injEq] at ho2
    obtain ⟨ho3, rfl⟩ := ho2
    have HO3 := Lib.hid ho3
    have HS := Lib.hid hS
    have HT := Lib.hid ht
    have H24 := Lib.hid h24
    have HLN := Lib.hid ht.len
    have HIH := Lib.hid ih
    have HTT := Lib.hid hT
    have HKA := Lib.hid hK
    have HKO := Lib.hid hKo
    have HSZ := Lib.hid hsz
    have HB := Lib.hid hB
    have hmax := ht.max
    have hd0 := hS.lt
    clear hS ht h24 hK hKo ho ih hT hsz ho3 hB
    go_enter Tryz.func131, Tryz.ntmps131
    go_wp2
    go_loopw [7, 8] (fun nv iv wr => ∃ (i nn : Nat) (Ki : List Nat), i ≤ n ∧ nn ≤ 121 ∧ nv = .int .i64 nn ∧ iv = .int .i64 i ∧ Hid (szL (szF T m) T (t.drop i) nn Ki = some (nR, KR)) ∧ Hid (KnAt wr g Ki) ∧ Hid (KnOk Ki) ∧ Hid (Below w0.heap.size w0 wr)) (fun _ iv _ => n - (intOf iv).toNat)
    case atStart => exact ⟨0, 0, K, Nat.zero_le _, by omega, rfl, rfl, by rw [List.drop_zero]; exact HSZ, HKA, HKO, HB⟩
    case round =>
      obtain ⟨i, nn, Ki, hi, hnn, rfl, rfl, hO, hKi, hKoi, hBr⟩ := hrel
      by_cases hlt : i < n
      · have hil : i < t.length := by have := HLN.out; omega
        have hdrop : t.drop i = t[i] :: t.drop (i + 1) := List.drop_eq_getElem_cons hil
        have hoc := hO.out
        rw [hdrop] at hoc
        obtain ⟨b0, off, rfl, hb0, hcell⟩ := HT.out.mem (by omega)
        have cz := (hBr.out.cell (p := ⟨b0, off + i, none⟩) hb0).trans (hcell i hil)
        have hz24 := H24.out _ (List.getElem_mem hil)
        obtain ⟨z, hz⟩ : ∃ z, t[i] = z := ⟨_, rfl⟩
        rw [hz] at cz hz24 hoc
        unfold szL at hoc
        have hi0 : (0 : Int) ≤ (i : Int) := by omega
        have hi1 : (i : Int) < (n : Int) := by omega
        by_cases h60 : 60 < nn
        · rw [if_pos h60] at hoc
          have he := Option.some.inj hoc
          simp only [Prod.mk.injEq] at he
          obtain ⟨e1, e2⟩ := he
          have HE := Lib.hid (show r = 61 by rw [← HO3.out, ← e1, if_pos h60])
          have HE2 := Lib.hid e2
          have q1 : ¬ (nn : Int) ≤ 60 := by omega
          have q2 : (60 : Int) < (nn : Int) := by omega
          clear hcell hoc hdrop hz hil e1 e2
          go_wp2
          go_ret
          exact ⟨by rw [HE.out]; rfl, hBr.out, by rw [← HE2.out]; exact hKi.out⟩
        · rw [if_neg h60] at hoc
          have q1 : (nn : Int) ≤ 60 := by omega
          by_cases hpos : 0 ≤ z
          · rw [if_pos (.inl hpos)] at hoc
            have HO' := Lib.hid hoc
            clear hcell hoc hdrop hz hil
            go_wp2
            go_quiet (fail)
            go_wp2
            go_roundw
            case rel => exact ⟨i + 1, nn + 1, Ki, by omega, by omega, by go_num, by go_num, HO', Lib.hid ⟨hKi.out.1.drewN _, hKi.out.2⟩, hKoi, Lib.hid (below_drewN hBr.out _)⟩
            case measure => simp [intOf]; omega
          · have hneg : z < 0 := by omega
            have hdz : decide (z ≥ 0) = false := decide_eq_false (by omega)
            obtain ⟨j, hj⟩ : ∃ j : Nat, -z - 1 = (j : Int) := ⟨(-z - 1).toNat, by omega⟩
            rw [hj, Int.toNat_natCast] at hoc
            have hj24 : j < 24 := by omega
            have w1' : IntKind.i64.wrap (-z) = -z := by rw [IntKind.wrap_i64]; omega
            have w2' : IntKind.i64.wrap (-z - 1) = (j : Int) := by rw [IntKind.wrap_i64]; omega
            have hj0 : (0 : Int) ≤ (j : Int) := by omega
            have hj1 : (j : Int) < 24 := by omega
            obtain ⟨A5, n5, c5, g1, g2, g3, g4, g5, g6⟩ := HS.out.get hj24
            have gr := (hBr.out.cell (p := ⟨d, 1 + j, none⟩) hd0).trans g1
            by_cases hnil : T.getD j [] = []
            · obtain ⟨rfl, rfl, rfl⟩ := g5 hnil
              rw [if_pos (.inr hnil)] at hoc
              have HO' := Lib.hid hoc
              clear hcell hoc hdrop hz hil hj g2 g3 g4 g5 g6 hnil g1
              go_wp2
              go_quiet (fail)
              go_wp2
              go_roundw
              case rel => exact ⟨i + 1, nn + 1, Ki, by omega, by omega, by go_num, by go_num, HO', Lib.hid ⟨hKi.out.1.drewN _, hKi.out.2⟩, hKoi, Lib.hid (below_drewN hBr.out _)⟩
              case measure => simp [intOf]; omega
            · obtain ⟨b5, off5, rfl⟩ := g6 hnil
              rw [if_neg (fun h => h.elim hpos hnil)] at hoc
              obtain ⟨q3', f3'⟩ := hKi.out.cell hj24
              have hk61 := hKoi.out.getD j
              obtain ⟨k0, hk0⟩ : ∃ k0, Ki.getD j 0 = k0 := ⟨_, rfl⟩
              rw [hk0] at hoc q3' hk61
              have hczn : ∀ a, (wr.drewN a).cell? ⟨b0, off + i, none⟩ = some (.int .i64 z) := fun a => cz
              have hkn : ∀ a, (wr.drewN a).cell? ⟨g, j, none⟩ = some (.int .i64 (k0 : Int)) := fun a => q3'
              by_cases hk00 : k0 = 0
              · subst hk00
                rw [if_pos rfl] at hoc
                have h24' := HTT.out.getD j
                cases hrec : szF T m (T.getD j []) Ki with
                | none => rw [hrec] at hoc; cases hoc
                | some R2 =>
                obtain ⟨s, K3⟩ := R2
                rw [hrec] at hoc
                obtain ⟨hs61, hK3o⟩ := szF_ok m _ _ _ _ hKoi.out hrec
                have HO' := Lib.hid hoc
                have HK3O := Lib.hid hK3o
                have CR0 := Lib.hid (fun (V : World) (h : Below wr.heap.size wr V) => HIH.out (T.getD j []) Ki s K3 (some ⟨b5, off5, none⟩) n5 c5 V (below_then hBr.out h) g3 h24' ⟨hKi.out.1.below h hKi.out.1.lt, hKi.out.2⟩ hKoi.out hrec)
                obtain ⟨wo, hwo⟩ : ∃ wo, wo = wr := ⟨_, rfl⟩
                clear hcell hoc hdrop hz hil hj g2 g3 g4 g5 g6 hnil hrec hK3o h24' hk0 hwo wo
                go_wp2
                go_quiet (fail)
                clear hczn hkn
                obtain ⟨wq, hwq⟩ : ∃ wq, wr.drewN nq = wq := ⟨_, rfl⟩
                have hBq : Below wr.heap.size wr wq := by rw [← hwq]; exact below_drewN (Below.refl _ _) _
                have czq : wq.cell? ⟨b0, off + i, none⟩ = some (.int .i64 z) := by rw [← hwq]; exact cz
                have qq3 : wq.cell? ⟨g, j, none⟩ = some (.int .i64 0) := by rw [← hwq]; exact q3'
                have gr2 : wq.cell? ⟨d, 1 + j, none⟩ = some (.slice (some ⟨b5, off5, none⟩) n5 c5) := by rw [← hwq]; exact gr
                rw [hwq]
                have CR := Lib.hid (fun (V : World) (h : Below wq.heap.size wq V) => CR0.out V (below_then hBq h))
                have HBQ := Lib.hid hBq
                clear hwq cz q3' f3' gr hBq CR0
                have gr := gr2
                clear gr2
                go_upto_region 9 with fail
                refine wp_region_held_drew (S := (fun w' => w'.cell? ⟨d, 1 + j, none⟩ = some (.slice (some ⟨b5, off5, none⟩) n5 c5))) (by kernel_rfl) ?_ (fun hHeld => ?_)
                · first | exact HPUT.out _ | exact hs3 | exact gr | go_keep
                refine wpAnyH_take (i := 0) (v := ?_) rfl (by kernel_rfl) (by kernel_rfl) (by kernel_rfl) (fun _ _ _ h => h) (Or.inl ⟨by rfl, ?_⟩) (by assumption) ?_
                rotate_left
                · intro w hSw; (try dsimp only at hSw); go_simp <;> with_reducible rfl
                try simp only [List.getElem_toArray, List.getElem_cons_zero, Act.put, List.setIfInBounds_toArray, List.set_cons_zero, List.set_cons_succ]
                refine wpAnyH_take (i := 1) (v := ?_) rfl (by kernel_rfl) (by kernel_rfl) (by kernel_rfl) (fun _ _ _ h => h) (Or.inl ⟨by rfl, ?_⟩) (by assumption) ?_
                rotate_left
                · intro w hSw; (try dsimp only at hSw); go_simp <;> with_reducible rfl
                try simp only [List.getElem_toArray, List.getElem_cons_succ, List.getElem_cons_zero, Act.put, List.setIfInBounds_toArray, List.set_cons_zero, List.set_cons_succ]
                refine wpAnyH_take (i := 2) (v := ?_) rfl (by kernel_rfl) (by kernel_rfl) (by kernel_rfl) (fun _ _ _ h => h) (Or.inl ⟨by rfl, ?_⟩) (by assumption) ?_
                rotate_left
                · intro w hSw; (try dsimp only at hSw); go_simp <;> with_reducible rfl
                try simp only [List.getElem_toArray, List.getElem_cons_succ, List.getElem_cons_zero, Act.put, List.setIfInBounds_toArray, List.set_cons_zero, List.set_cons_succ]
                refine wpAnyH_take (i := 3) (v := ?_) rfl (by kernel_rfl) (by kernel_rfl) (by kernel_rfl) (fun _ _ _ h => h) (Or.inl ⟨by rfl, ?_⟩) (by assumption) ?_
                rotate_left
                · intro w hSw; (try dsimp only at hSw); go_simp <;> with_reducible rfl
                try simp only [List.getElem_toArray, List.getElem_cons_succ, List.getElem_cons_zero, Act.put, List.setIfInBounds_toArray, List.set_cons_zero, List.set_cons_succ]
                refine wpAnyH_take (i := 4) (v := ?_) rfl (by kernel_rfl) (by kernel_rfl) (by kernel_rfl) (fun _ _ _ h => h) (Or.inl ⟨by rfl, ?_⟩) (by assumption) ?_
                rotate_left
                · intro w hSw; (try dsimp only at hSw); go_simp <;> with_reducible rfl
                try simp only [List.getElem_toArray, List.getElem_cons_succ, List.getElem_cons_zero, Act.put, List.setIfInBounds_toArray, List.set_cons_zero, List.set_cons_succ]
                refine wpAnyH_take (i := 5) (v := ?_) rfl (by kernel_rfl) (by kernel_rfl) (by kernel_rfl) (fun _ _ _ h => h) (Or.inl ⟨by rfl, ?_⟩) (by assumption) ?_
                rotate_left
                · intro w hSw; (try dsimp only at hSw); go_simp <;> with_reducible rfl
                try simp only [List.getElem_toArray, List.getElem_cons_succ, List.getElem_cons_zero, Act.put, List.setIfInBounds_toArray, List.set_cons_zero, List.set_cons_succ]
                refine wpAnyH_take (i := 6) (v := ?_) rfl (by kernel_rfl) (by kernel_rfl) (by kernel_rfl) (fun _ _ _ h => h) (Or.inl ⟨by rfl, ?_⟩) (by assumption) ?_
                rotate_left
                · intro w hSw; (try dsimp only at hSw); go_simp <;> with_reducible rfl
                try simp only [List.getElem_toArray, List.getElem_cons_succ, List.getElem_cons_zero, Act.put, List.setIfInBounds_toArray, List.set_cons_zero, List.set_cons_succ]
                refine wpAnyH_take (i := 7) (v := ?_) rfl (by kernel_rfl) (by kernel_rfl) (by kernel_rfl) (fun _ _ _ h => h) (Or.inl ⟨by rfl, ?_⟩) (by assumption) ?_
                rotate_left
                · intro w hSw; (try dsimp only at hSw); go_simp <;> with_reducible rfl
                try simp only [List.getElem_toArray, List.getElem_cons_succ, List.getElem_cons_zero, Act.put, List.setIfInBounds_toArray, List.set_cons_zero, List.set_cons_succ]
                refine wpAnyH_take (i := 8) (v := ?_) rfl (by kernel_rfl) (by kernel_rfl) (by kernel_rfl) (fun _ _ _ h => h) (Or.inl ⟨by rfl, ?_⟩) (by assumption) ?_
                rotate_left
                · intro w hSw; (try dsimp only at hSw); go_simp <;> with_reducible rfl
                try simp only [List.getElem_toArray, List.getElem_cons_succ, List.getElem_cons_zero, Act.put, List.setIfInBounds_toArray, List.set_cons_zero, List.set_cons_succ]
                refine wpAnyH_take (i := 9) (v := ?_) rfl (by kernel_rfl) (by kernel_rfl) (by kernel_rfl) (fun _ _ _ h => h) (Or.inl ⟨by rfl, ?_⟩) (by assumption) ?_
                rotate_left
                · intro w hSw; (try dsimp only at hSw); go_simp <;> with_reducible rfl
                try simp only [List.getElem_toArray, List.getElem_cons_succ, List.getElem_cons_zero, Act.put, List.setIfInBounds_toArray, List.set_cons_zero, List.set_cons_succ]
                refine wpAnyH_take (i := 11) (v := ?_) rfl (by kernel_rfl) (by kernel_rfl) (by kernel_rfl) (fun _ _ _ h => h) (Or.inl ⟨by rfl, ?_⟩) (by assumption) ?_
                rotate_left
                · intro w hSw; (try dsimp only at hSw); go_simp <;> with_reducible rfl
                try simp only [List.getElem_toArray, List.getElem_cons_succ, List.getElem_cons_zero, Act.put, List.setIfInBounds_toArray, List.set_cons_zero, List.set_cons_succ]
                refine wpAnyH_ready (rs := [10]) (by kernel_rfl) (by simp) (AllReadyH.cons rfl (fun K hK => ?_) AllReadyH.nil)
                go_simp
                (go_at_call 131; ((with_reducible refine (CR.out _ ((Below.refl _ wq).drew)).mono ?_); rintro e w3 ⟨rfl, hB3, hK3⟩); have hs3 := (hB3.cell (p := ⟨d, 1 + j, none⟩) hd0).trans g1; obtain ⟨q3, f3⟩ := hK3.cell hj24; have HPUT := Lib.hid (fun v => (hK3.put_far (j := j) (v := v) hB3 hd0 (o := 1 + j) g1 hg)); have HB3 := Lib.hid hB3; have HK3 := Lib.hid hK3; clear hB3 hK3)
                try go_wp2_with fail
                refine hK.out _ _ ?_ (fun hHeld => ?_)
                · first | exact HPUT.out _ | exact hs3 | exact gr | go_keep
                clear hK K
                try simp only [List.getElem_toArray, List.getElem_cons_succ, List.getElem_cons_zero, Act.put, List.setIfInBounds_toArray, List.set_cons_zero, List.set_cons_succ]
                refine wpAnyH_take (i := 12) (v := ?_) rfl (by kernel_rfl) (by kernel_rfl) (by kernel_rfl) (fun _ _ _ h => h) (Or.inl ⟨by rfl, ?_⟩) (by assumption) ?_
                rotate_left
                · intro w hSw; (try dsimp only at hSw); go_simp <;> with_reducible rfl
                try simp only [List.getElem_toArray, List.getElem_cons_succ, List.getElem_cons_zero, Act.put, List.setIfInBounds_toArray, List.set_cons_zero, List.set_cons_succ]
                refine wpAnyH_ready (rs := [13]) (by kernel_rfl) (by simp) (AllReadyH.cons rfl (fun K hK => ?_) AllReadyH.nil)
                go_simp
                skip
                try go_wp2_with fail
                refine hK.out _ _ ?_ (fun hHeld => ?_)
                · first | exact HPUT.out _ | exact hs3 | exact gr | go_keep
                clear hK K
                try simp only [List.getElem_toArray, List.getElem_cons_succ, List.getElem_cons_zero, Act.put, List.setIfInBounds_toArray, List.set_cons_zero, List.set_cons_succ]
                refine wpAnyH_done (by kernel_rfl) ?_ _
                have HK4 := Lib.hid (HK3.out.set (j := j) s)
                have HB4 := Lib.hid (HB3.out.setCell (p := ⟨g, j, none⟩) hg (.int .i64 (s : Int)))
                obtain ⟨w4, hw4⟩ : ∃ w4, w3.setCell ⟨g, j, none⟩ (.int .i64 (s : Int)) = w4 := ⟨_, rfl⟩
                rw [hw4] at HK4 HB4 ⊢
                have q4 : w4.cell? ⟨g, j, none⟩ = some (.int .i64 (s : Int)) := by
                  have h1 := (HK4.out.cell hj24).1
                  rw [h1, List.getD_eq_getElem?_getD, List.getElem?_set, if_pos rfl, if_pos (by have := HK3.out.2; omega)]
                  rfl
                have HK4O := Lib.hid (HK3O.out.set j hs61)
                clear hw4 q3 f3 hs3 HPUT
                go_wp2_with fail
                go_roundw
                case rel => exact ⟨i + 1, nn + s, K3.set j s, by omega, by omega, by go_num, by go_num, HO', HK4, HK4O, HB4⟩
                case measure => simp [intOf]; omega
              · rw [if_neg hk00] at hoc
                have hkb : ((k0 : Int) == 0) = false := by simp; omega
                have hkb2 : (k0 == 0) = false := by simp [hk00]
                have HO' := Lib.hid hoc
                clear hcell hoc hdrop hz hil hj g2 g3 g4 g5 g6 hnil g1 hk0 hk00
                go_wp2
                go_quiet (fail)
                go_wp2
                go_roundw
                case rel => exact ⟨i + 1, nn + k0, Ki, by omega, by omega, by go_num, by go_num, HO', Lib.hid ⟨hKi.out.1.drewN _, hKi.out.2⟩, hKoi, Lib.hid (below_drewN hBr.out _)⟩
                case measure => simp [intOf]; omega
      · obtain rfl : i = n := by omega
        have hoc := hO.out
        rw [List.drop_eq_nil_of_le (by have := HLN.out; omega)] at hoc
        unfold szL at hoc
        have he := Option.some.inj hoc
        simp only [Prod.mk.injEq] at he
        obtain ⟨e1, e2⟩ := he
        have HE2 := Lib.hid e2
        by_cases h60 : 60 < nn
        · have HE := Lib.hid (show r = 61 by rw [← HO3.out, ← e1, if_pos h60])
          have q2 : (60 : Int) < (nn : Int) := by omega
          clear hoc e1 e2
          go_wp2
          go_ret
          exact ⟨by rw [HE.out]; rfl, hBr.out, by rw [← HE2.out]; exact hKi.out⟩
        · have HE := Lib.hid (show r = nn by rw [← HO3.out, ← e1, if_neg h60])
          have q2 : ¬ (60 : Int) < (nn : Int) := by omega
          clear hoc e1 e2
          go_wp2
          go_ret
          exact ⟨by rw [HE.out]; rfl, hBr.out, by rw [← HE2.out]; exact hKi.out⟩

/-- What stands for a list, all variables that have a term replaced. -/
def whL (g : List Int → Option (List Int)) (T : List (List Int)) : List Int → Option (List Int)
  | [] => some []
  | z :: t => match (if z < 0 ∧ T.getD (-z - 1).toNat [] ≠ [] then g (T.getD (-z - 1).toNat []) else some [z]) with
    | none => none
    | some u => match whL g T t with
      | none => none
      | some r => some (u ++ r)
def whF (T : List (List Int)) : Nat → List Int → Option (List Int)
  | 0, _ => none
  | m + 1, t => whL (whF T m) T t
theorem whL_pos {g : List Int → Option (List Int)} {T : List (List Int)} (hg : ∀ t r, t ≠ [] → g t = some r → r ≠ []) : ∀ (t r : List Int), t ≠ [] → whL g T t = some r → r ≠ []
  | [], r, h, _ => absurd rfl h
  | z :: t, r, _, h => by
    unfold whL at h
    split at h
    · cases h
    · rename_i u hu
      split at h
      · cases h
      · cases h
        split at hu
        · rename_i hc
          have := hg _ _ hc.2 hu
          simp [this]
        · cases hu; simp
theorem whF_pos {T : List (List Int)} : ∀ (m : Nat) (t r : List Int), t ≠ [] → whF T m t = some r → r ≠ []
  | 0, t, r, _, h => by cases h
  | m + 1, t, r, ht, h => whL_pos (whF_pos m) t r ht h

set_option maxRecDepth 100000 in
set_option maxHeartbeats 4000000 in
theorem whole_any (d : Nat) (As : Option Addr) (ns cs : Nat) (T : List (List Int)) (hT : TosOk T) :
    ∀ (m : Nat) (t r : List Int) (A : Option Addr) (n c : Nat) (w : World), SolAt w d As ns cs T → IntsAt w w.heap.size A n t → (∀ z ∈ t, -24 ≤ z) → whF T m t = some r → r.length ≤ 100000 →
    Calls Tryz.prog 132 #[.pointer (some ⟨d, 0, none⟩), .slice A n c] w (RetOwn w r) := by
  intro m
  induction m with
  | zero => intro t r A n c w _ _ _ h; cases h
  | succ m ih =>
    intro t r A n c w hS ht h24 ho hr
    obtain ⟨i0, hi, hz0, hz1, hz2⟩ := info_parts info_int
    unfold whF at ho
    have HS := Lib.hid hS
    have HT := Lib.hid ht
    have H24 := Lib.hid h24
    have HLN := Lib.hid ht.len
    have HIH := Lib.hid ih
    have HTT := Lib.hid hT
    have HO := Lib.hid ho
    have hmax := ht.max
    have hd0 := hS.lt
    clear hS ht h24 ho ih hT
    go_enter Tryz.func132, Tryz.ntmps132
    go_wp2
    go_loopw [5, 6] (fun o iv wr => ∃ (i L : Nat) (Av : Option Addr) (cv : Nat) (xs rest : List Int), i ≤ n ∧ iv = .int .i64 i ∧ o = .slice Av L cv ∧ Hid (whL (whF T m) T (t.drop i) = some rest) ∧ Hid (xs ++ rest = r) ∧ Hid (L = xs.length) ∧ Hid (wr.ownsRow w.heap.size 3 1 (.slice Av L cv) L (xs.map (Value.int .i64))) ∧ Hid (Below w.heap.size w wr)) (fun _ iv _ => n - (intOf iv).toNat)
    case atStart => exact ⟨0, 0, none, 0, [], r, Nat.zero_le _, rfl, rfl, by rw [List.drop_zero]; exact HO, Lib.hid rfl, Lib.hid rfl, Lib.hid (World.ownsRow_nil _ _ _ _), Lib.hid (Below.refl _ _)⟩
    case round =>
      obtain ⟨i, L, Av, cv, xs, rest, hil, rfl, rfl, hO, hX, hL, HOWN, HBW⟩ := hrel
      by_cases hlt : i < n
      · have hit : i < t.length := by have := HLN.out; omega
        have hdrop : t.drop i = t[i] :: t.drop (i + 1) := List.drop_eq_getElem_cons hit
        have hoc := hO.out
        rw [hdrop] at hoc
        obtain ⟨b0, off, rfl, hb0, hcell⟩ := HT.out.mem (by omega)
        have cz0 := hcell i hit
        have cz := (HBW.out.cell (p := ⟨b0, off + i, none⟩) hb0).trans cz0
        have hz24 := H24.out _ (List.getElem_mem hit)
        obtain ⟨z, hz⟩ : ∃ z, t[i] = z := ⟨_, rfl⟩
        rw [hz] at cz cz0 hz24 hoc
        unfold whL at hoc
        have hi0 : (0 : Int) ≤ (i : Int) := by omega
        have hi1 : (i : Int) < (n : Int) := by omega
        have hlx : L + rest.length ≤ 100000 := by have h1 := hX.out; have h2 := hL.out; rw [← h1, List.length_append] at hr; omega
        cases hrest : whL (whF T m) T (t.drop (i + 1)) with
        | none => rw [hrest] at hoc; split at hoc <;> cases hoc
        | some rest2 =>
        rw [hrest] at hoc
        have hczn : ∀ a, (wr.drewN a).cell? ⟨b0, off + i, none⟩ = some (.int .i64 z) := fun a => cz
        by_cases hcase : z < 0 ∧ T.getD (-z - 1).toNat [] ≠ []
        · rw [if_pos hcase] at hoc
          obtain ⟨hneg, hnil⟩ := hcase
          obtain ⟨j, hj⟩ : ∃ j : Nat, -z - 1 = (j : Int) := ⟨(-z - 1).toNat, by omega⟩
          rw [hj, Int.toNat_natCast] at hoc hnil
          have hj24 : j < 24 := by omega
          have w1' : IntKind.i64.wrap (-z) = -z := by rw [IntKind.wrap_i64]; omega
          have w2' : IntKind.i64.wrap (-z - 1) = (j : Int) := by rw [IntKind.wrap_i64]; omega
          have hj0 : (0 : Int) ≤ (j : Int) := by omega
          have hj1 : (j : Int) < 24 := by omega
          obtain ⟨A5, n5, c5, g0, g2, g3, g4, g5, g6⟩ := HS.out.get hj24
          obtain ⟨b5, off5, rfl⟩ := g6 hnil
          have g1 := (HBW.out.cell (p := ⟨d, 1 + j, none⟩) hd0).trans g0
          cases hrec : whF T m (T.getD j []) with
          | none => rw [hrec] at hoc; cases hoc
          | some u =>
          rw [hrec] at hoc
          have hre := Option.some.inj hoc
          have hun := whF_pos m _ u hnil hrec
          have hul : u.length ≤ 100000 := by rw [← hre, List.length_append] at hlx; omega
          have hlx2 : L + u.length ≤ 100000 := by rw [← hre, List.length_append] at hlx; omega
          have hup : 0 < u.length := List.length_pos_iff.2 hun
          obtain ⟨nu, hnu⟩ : ∃ nu, u.length = nu := ⟨_, rfl⟩
          have HNU := Lib.hid hnu
          rw [hnu] at hul hlx2 hup
          have HU1 := Lib.hid (ints_cells1 u)
          have HX2 := Lib.hid (show (xs ++ u) ++ rest2 = r by rw [List.append_assoc, hre]; exact hX.out)
          have HREST := Lib.hid hrest
          have HLL := Lib.hid hL.out
          have CR0 := Lib.hid (fun (V : World) (h : Below wr.heap.size wr V) => (HIH.out (T.getD j []) u (some ⟨b5, off5, none⟩) n5 c5 V ((HS.out.below HBW.out).below h) ((g3.up HBW.out).up h) (HTT.out.getD j) hrec (by rw [HNU.out]; exact hul)).mono (R' := fun e w' => ∃ b6 o6 c6, e = .returned (.slice (some ⟨b6, o6, none⟩) nu c6) ∧ (u.map (Value.int .i64)).length = nu * 1 ∧ (∀ jj uu, (u.map (Value.int .i64))[jj]? = some uu → w'.cell? ((⟨b6, o6, none⟩ : Addr).add jj) = some uu) ∧ Below V.heap.size V w') (fun e w' hh => by
            obtain ⟨v, base, rfl, _, hrow, hB⟩ := hh
            rw [HNU.out] at hrow
            obtain ⟨A6, c6, rfl, hI⟩ := row_ints hrow (by omega)
            obtain ⟨b6, o6, rfl, _, _⟩ := hI.mem hup
            exact ⟨b6, o6, c6, rfl, by simp [HNU.out], news_ints hI hup, hB⟩))
          have hb0r : b0 < wr.heap.size := Nat.lt_of_lt_of_le hb0 HBW.out.size
          have hdr : d < wr.heap.size := Nat.lt_of_lt_of_le hd0 HBW.out.size
          clear hcell hoc hdrop hz hit hj g2 g3 g4 g5 g6 hnil hrec hrest hre hun hnu hlx
          go_wp2
          go_quiet (fail)
          clear hczn
          obtain ⟨wq, hwq⟩ : ∃ wq, wr.drewN nq = wq := ⟨_, rfl⟩
          have hBq : Below wr.heap.size wr wq := by rw [← hwq]; exact below_drewN (Below.refl _ _) _
          have czq : wq.cell? ⟨b0, off + i, none⟩ = some (.int .i64 z) := by rw [← hwq]; exact cz
          have gq : wq.cell? ⟨d, 1 + j, none⟩ = some (.slice (some ⟨b5, off5, none⟩) n5 c5) := by rw [← hwq]; exact g1
          rw [hwq]
          have CR := Lib.hid (fun (V : World) (h : Below wq.heap.size wq V) => CR0.out V (below_then hBq h))
          have HBQ := Lib.hid (below_then HBW.out hBq)
          have HOWQ := Lib.hid (row_blw HOWN.out hBq)
          have hb0q : b0 < wq.heap.size := Nat.lt_of_lt_of_le hb0r hBq.size
          have hdq : d < wq.heap.size := Nat.lt_of_lt_of_le hdr hBq.size
          clear hwq cz g1 hBq CR0 HOWN HBW hO hX hL HO
          go_upto_region 6 with fail
          refine wp_region_held_drew (S := (fun w' => w'.cell? ⟨b0, off + i, none⟩ = some (.int .i64 z) ∧ w'.cell? ⟨d, 1 + j, none⟩ = some (.slice (some ⟨b5, off5, none⟩) n5 c5))) (by kernel_rfl) ?_ (fun hHeld => ?_)
          · first | exact ⟨hz4, hd4⟩ | exact ⟨hz3, hd3⟩ | exact ⟨czq, gq⟩ | go_keep
          refine wpAnyH_take (i := 0) (v := ?_) rfl (by kernel_rfl) (by kernel_rfl) (by kernel_rfl) (fun _ _ _ h => h) (Or.inl ⟨by rfl, ?_⟩) (by assumption) ?_
          rotate_left
          · intro w hSw; (try dsimp only at hSw); go_simp <;> with_reducible rfl
          try simp only [List.getElem_toArray, List.getElem_cons_zero, Act.put, List.setIfInBounds_toArray, List.set_cons_zero, List.set_cons_succ]
          refine wpAnyH_take (i := 1) (v := ?_) rfl (by kernel_rfl) (by kernel_rfl) (by kernel_rfl) (fun _ _ _ h => h) (Or.inl ⟨by rfl, ?_⟩) (by assumption) ?_
          rotate_left
          · intro w hSw; (try dsimp only at hSw); go_simp <;> with_reducible rfl
          try simp only [List.getElem_toArray, List.getElem_cons_succ, List.getElem_cons_zero, Act.put, List.setIfInBounds_toArray, List.set_cons_zero, List.set_cons_succ]
          refine wpAnyH_take (i := 2) (v := ?_) rfl (by kernel_rfl) (by kernel_rfl) (by kernel_rfl) (fun _ _ _ h => h) (Or.inl ⟨by rfl, ?_⟩) (by assumption) ?_
          rotate_left
          · intro w hSw; (try dsimp only at hSw); go_simp <;> with_reducible rfl
          try simp only [List.getElem_toArray, List.getElem_cons_succ, List.getElem_cons_zero, Act.put, List.setIfInBounds_toArray, List.set_cons_zero, List.set_cons_succ]
          refine wpAnyH_take (i := 3) (v := ?_) rfl (by kernel_rfl) (by kernel_rfl) (by kernel_rfl) (fun _ _ _ h => h) (Or.inl ⟨by rfl, ?_⟩) (by assumption) ?_
          rotate_left
          · intro w hSw; (try dsimp only at hSw); go_simp <;> with_reducible rfl
          try simp only [List.getElem_toArray, List.getElem_cons_succ, List.getElem_cons_zero, Act.put, List.setIfInBounds_toArray, List.set_cons_zero, List.set_cons_succ]
          refine wpAnyH_take (i := 4) (v := ?_) rfl (by kernel_rfl) (by kernel_rfl) (by kernel_rfl) (fun _ _ _ h => h) (Or.inl ⟨by rfl, ?_⟩) (by assumption) ?_
          rotate_left
          · intro w hSw; (try dsimp only at hSw); go_simp <;> with_reducible rfl
          try simp only [List.getElem_toArray, List.getElem_cons_succ, List.getElem_cons_zero, Act.put, List.setIfInBounds_toArray, List.set_cons_zero, List.set_cons_succ]
          refine wpAnyH_take (i := 5) (v := ?_) rfl (by kernel_rfl) (by kernel_rfl) (by kernel_rfl) (fun _ _ _ h => h) (Or.inl ⟨by rfl, ?_⟩) (by assumption) ?_
          rotate_left
          · intro w hSw; (try dsimp only at hSw); go_simp <;> with_reducible rfl
          try simp only [List.getElem_toArray, List.getElem_cons_succ, List.getElem_cons_zero, Act.put, List.setIfInBounds_toArray, List.set_cons_zero, List.set_cons_succ]
          refine wpAnyH_take (i := 6) (v := ?_) rfl (by kernel_rfl) (by kernel_rfl) (by kernel_rfl) (fun _ _ _ h => h) (Or.inl ⟨by rfl, ?_⟩) (by assumption) ?_
          rotate_left
          · intro w hSw; (try dsimp only at hSw); go_simp <;> with_reducible rfl
          try simp only [List.getElem_toArray, List.getElem_cons_succ, List.getElem_cons_zero, Act.put, List.setIfInBounds_toArray, List.set_cons_zero, List.set_cons_succ]
          refine wpAnyH_take (i := 7) (v := ?_) rfl (by kernel_rfl) (by kernel_rfl) (by kernel_rfl) (fun _ _ _ h => h) (Or.inl ⟨by rfl, ?_⟩) (by assumption) ?_
          rotate_left
          · intro w hSw; (try dsimp only at hSw); go_simp <;> with_reducible rfl
          try simp only [List.getElem_toArray, List.getElem_cons_succ, List.getElem_cons_zero, Act.put, List.setIfInBounds_toArray, List.set_cons_zero, List.set_cons_succ]
          refine wpAnyH_take (i := 8) (v := ?_) rfl (by kernel_rfl) (by kernel_rfl) (by kernel_rfl) (fun _ _ _ h => h) (Or.inl ⟨by rfl, ?_⟩) (by assumption) ?_
          rotate_left
          · intro w hSw; (try dsimp only at hSw); go_simp <;> with_reducible rfl
          try simp only [List.getElem_toArray, List.getElem_cons_succ, List.getElem_cons_zero, Act.put, List.setIfInBounds_toArray, List.set_cons_zero, List.set_cons_succ]
          refine wpAnyH_take (i := 9) (v := ?_) rfl (by kernel_rfl) (by kernel_rfl) (by kernel_rfl) (fun _ _ _ h => h) (Or.inl ⟨by rfl, ?_⟩) (by assumption) ?_
          rotate_left
          · intro w hSw; (try dsimp only at hSw); go_simp <;> with_reducible rfl
          try simp only [List.getElem_toArray, List.getElem_cons_succ, List.getElem_cons_zero, Act.put, List.setIfInBounds_toArray, List.set_cons_zero, List.set_cons_succ]
          refine wpAnyH_take (i := 10) (v := ?_) rfl (by kernel_rfl) (by kernel_rfl) (by kernel_rfl) (fun _ _ _ h => h) (Or.inl ⟨by rfl, ?_⟩) (by assumption) ?_
          rotate_left
          · intro w hSw; (try dsimp only at hSw); go_simp <;> with_reducible rfl
          try simp only [List.getElem_toArray, List.getElem_cons_succ, List.getElem_cons_zero, Act.put, List.setIfInBounds_toArray, List.set_cons_zero, List.set_cons_succ]
          refine wpAnyH_take (i := 11) (v := ?_) rfl (by kernel_rfl) (by kernel_rfl) (by kernel_rfl) (fun _ _ _ h => h) (Or.inl ⟨by rfl, ?_⟩) (by assumption) ?_
          rotate_left
          · intro w hSw; (try dsimp only at hSw); go_simp <;> with_reducible rfl
          try simp only [List.getElem_toArray, List.getElem_cons_succ, List.getElem_cons_zero, Act.put, List.setIfInBounds_toArray, List.set_cons_zero, List.set_cons_succ]
          refine wpAnyH_take (i := 12) (v := ?_) rfl (by kernel_rfl) (by kernel_rfl) (by kernel_rfl) (fun _ _ _ h => h) (Or.inl ⟨by rfl, ?_⟩) (by assumption) ?_
          rotate_left
          · intro w hSw; (try dsimp only at hSw); go_simp <;> with_reducible rfl
          try simp only [List.getElem_toArray, List.getElem_cons_succ, List.getElem_cons_zero, Act.put, List.setIfInBounds_toArray, List.set_cons_zero, List.set_cons_succ]
          refine wpAnyH_ready (rs := [13]) (by kernel_rfl) (by simp) (AllReadyH.cons rfl (fun K hK => ?_) AllReadyH.nil)
          go_simp
          (go_at_call 132; ((with_reducible refine (CR.out _ ((Below.refl _ wq).drew)).mono ?_); rintro e w3 ⟨b6, o6, c6, rfl, hl6, hne6, hB6⟩); have hB60 : Below wq.heap.size wq w3 := below_then ((Below.refl _ wq).drew) hB6; have hz3 := (hB60.cell (p := ⟨b0, off + i, none⟩) hb0q).trans czq; have hd3 := (hB60.cell (p := ⟨d, 1 + j, none⟩) hdq).trans gq; have HROW := Lib.hid (row_blw HOWQ.out hB60); have HNE := Lib.hid hne6; have HL6 := Lib.hid hl6; have HB6 := Lib.hid (below_then HBQ.out hB60); clear hB6 hne6 hl6 hB60)
          try go_wp2_with fail
          refine hK.out _ _ ?_ (fun hHeld => ?_)
          · first | exact ⟨hz4, hd4⟩ | exact ⟨hz3, hd3⟩ | exact ⟨czq, gq⟩ | go_keep
          clear hK K
          try simp only [List.getElem_toArray, List.getElem_cons_succ, List.getElem_cons_zero, Act.put, List.setIfInBounds_toArray, List.set_cons_zero, List.set_cons_succ]
          refine wpAnyH_ready (rs := [14]) (by kernel_rfl) (by simp) (AllReadyH.cons rfl (fun K hK => ?_) AllReadyH.nil)
          refine step_append_lies _ (by rfl) _ _ _ (by rfl) _ 3 i0 _ 1 8 Tryz.underlying36 hi hz0 hz1 hz2 rfl (by omega) (.slice Av L cv) L (xs.map (Value.int .i64)) (by rfl) HROW.out ⟨b6, o6, none⟩ nu c6 (u.map (Value.int .i64)) (by rfl) HL6.out HNE.out (HU1.out) (by omega) (by unfold maxLen; omega) (by omega) HB6.out.size _ rfl ?_
          intro g4 cap4 w4 hrow4 hg4 hloc4 _
          have hB4 := HB6.out.grown hg4 HB6.out.size (fun k e => (HROW.out.lt k e).1)
          have hz4 := (hB4.cell (p := ⟨b0, off + i, none⟩) hb0).trans cz0
          have hd4 := (hB4.cell (p := ⟨d, 1 + j, none⟩) hd0).trans g0
          rw [← List.map_append] at hrow4
          have HB4 := Lib.hid hB4
          have HO4 := Lib.hid hrow4
          clear hB4 hrow4 hg4 hloc4
          try go_wp2_with fail
          refine hK.out _ _ ?_ (fun hHeld => ?_)
          · first | exact ⟨hz4, hd4⟩ | exact ⟨hz3, hd3⟩ | exact ⟨czq, gq⟩ | go_keep
          clear hK K
          try simp only [List.getElem_toArray, List.getElem_cons_succ, List.getElem_cons_zero, Act.put, List.setIfInBounds_toArray, List.set_cons_zero, List.set_cons_succ]
          refine wpAnyH_take (i := 15) (v := ?_) rfl (by kernel_rfl) (by kernel_rfl) (by kernel_rfl) (fun _ _ _ h => h) (Or.inl ⟨by rfl, ?_⟩) (by assumption) ?_
          rotate_left
          · intro w hSw; (try dsimp only at hSw); go_simp <;> with_reducible rfl
          try simp only [List.getElem_toArray, List.getElem_cons_succ, List.getElem_cons_zero, Act.put, List.setIfInBounds_toArray, List.set_cons_zero, List.set_cons_succ]
          refine wpAnyH_done (by kernel_rfl) ?_ _
          go_wp2_with fail
          go_roundw
          case rel => exact ⟨i + 1, L + nu, some ⟨g4, 0, none⟩, cap4, xs ++ u, rest2, by omega, by go_num, rfl, HREST, HX2, Lib.hid (by rw [List.length_append, ← HLL.out, HNU.out]), HO4, HB4⟩
          case measure => simp [intOf]; omega
        · rw [if_neg hcase] at hoc
          simp only at hoc
          have hre := Option.some.inj hoc
          have hlx2 : L + 1 ≤ 100000 := by rw [← hre, List.length_append, List.length_singleton] at hlx; omega
          have HX2 := Lib.hid (show (xs ++ [z]) ++ rest2 = r by rw [List.append_assoc, hre]; exact hX.out)
          have HREST := Lib.hid hrest
          have HLL := Lib.hid hL.out
          have hb0r : b0 < wr.heap.size := Nat.lt_of_lt_of_le hb0 HBW.out.size
          have tail : True := trivial
          clear tail
          by_cases hneg : z < 0
          · obtain ⟨j, hj⟩ : ∃ j : Nat, -z - 1 = (j : Int) := ⟨(-z - 1).toNat, by omega⟩
            have hnil : T.getD j [] = [] := by
              rw [hj, Int.toNat_natCast] at hcase
              exact Classical.byContradiction fun h => hcase ⟨hneg, h⟩
            have hj24 : j < 24 := by omega
            have w1' : IntKind.i64.wrap (-z) = -z := by rw [IntKind.wrap_i64]; omega
            have w2' : IntKind.i64.wrap (-z - 1) = (j : Int) := by rw [IntKind.wrap_i64]; omega
            have hj0 : (0 : Int) ≤ (j : Int) := by omega
            have hj1 : (j : Int) < 24 := by omega
            obtain ⟨A5, n5, c5, g0, g2, g3, g4, g5, g6⟩ := HS.out.get hj24
            obtain ⟨rfl, rfl, rfl⟩ := g5 hnil
            have g1 := (HBW.out.cell (p := ⟨d, 1 + j, none⟩) hd0).trans g0
            clear hcell hoc hdrop hz hit hj g2 g3 g4 g5 g6 hnil hrest hre hcase hlx hczn
            go_wp2
            go_quiet (fail)
            obtain ⟨wq, hwq⟩ : ∃ wq, wr.drewN nq = wq := ⟨_, rfl⟩
            have hBq : Below wr.heap.size wr wq := by rw [← hwq]; exact below_drewN (Below.refl _ _) _
            have czq : wq.cell? ⟨b0, off + i, none⟩ = some (.int .i64 z) := by rw [← hwq]; exact cz
            rw [hwq]
            have HBQ := Lib.hid (below_then HBW.out hBq)
            have HOWQ := Lib.hid (row_blw HOWN.out hBq)
            clear hwq cz hBq HOWN HBW hO hX hL HO
            go_wp2_with (first
              | (at_builtin
                 refine wpList_append_own_at _ rfl _ _ 36 rfl w.heap.size 3 i0 _ 1 8 Tryz.underlying36 hi hz0 hz1 hz2 rfl (by omega) (.slice Av L cv) L _ rfl (HOWQ.out.alloc _) ⟨wq.heap.size, 0, none⟩ 1 1 [.int .i64 z] rfl rfl
                   (World.news_of_block (cs := #[.int .i64 z]) (t := 3) (fr := (0, 0)) (heap_alloc_new wq _)) (by simp [Value.oneCell']) (by unfold maxLen; omega) (by omega) (by have := HBQ.out.size; simp; omega) ?_
                 intro v4 w4 hown4 hg4 _ _
                 have HB4 := Lib.hid ((HBQ.out.alloc HBQ.out.size _).grown hg4 (by have := HBQ.out.size; simp; omega) (fun j e => (HOWQ.out.lt j e).1))
                 have hown5 : w4.ownsRow w.heap.size 3 1 v4 (L + 1) ((xs ++ [z]).map (Value.int .i64)) := by rw [List.map_append]; exact hown4
                 obtain ⟨A4, c4, e4, _⟩ := row_ints hown5 (by omega)
                 subst e4
                 have HO4 := Lib.hid hown5
                 clear hown4 hown5 hg4))
            go_roundw
            case rel => exact ⟨i + 1, L + 1, A4, c4, xs ++ [z], rest2, by omega, by go_num, rfl, HREST, HX2, Lib.hid (by rw [List.length_append, ← HLL.out]; rfl), HO4, HB4⟩
            case measure => simp [intOf]; omega
          · have hpos : 0 ≤ z := by omega
            have hdz : decide (z < 0) = false := decide_eq_false hneg
            clear hcell hoc hdrop hz hit hrest hre hcase hlx hczn
            go_wp2
            go_quiet (fail)
            obtain ⟨wq, hwq⟩ : ∃ wq, wr.drewN nq = wq := ⟨_, rfl⟩
            have hBq : Below wr.heap.size wr wq := by rw [← hwq]; exact below_drewN (Below.refl _ _) _
            have czq : wq.cell? ⟨b0, off + i, none⟩ = some (.int .i64 z) := by rw [← hwq]; exact cz
            rw [hwq]
            have HBQ := Lib.hid (below_then HBW.out hBq)
            have HOWQ := Lib.hid (row_blw HOWN.out hBq)
            clear hwq cz hBq HOWN HBW hO hX hL HO
            go_wp2_with (first
              | (at_builtin
                 refine wpList_append_own_at _ rfl _ _ 36 rfl w.heap.size 3 i0 _ 1 8 Tryz.underlying36 hi hz0 hz1 hz2 rfl (by omega) (.slice Av L cv) L _ rfl (HOWQ.out.alloc _) ⟨wq.heap.size, 0, none⟩ 1 1 [.int .i64 z] rfl rfl
                   (World.news_of_block (cs := #[.int .i64 z]) (t := 3) (fr := (0, 0)) (heap_alloc_new wq _)) (by simp [Value.oneCell']) (by unfold maxLen; omega) (by omega) (by have := HBQ.out.size; simp; omega) ?_
                 intro v4 w4 hown4 hg4 _ _
                 have HB4 := Lib.hid ((HBQ.out.alloc HBQ.out.size _).grown hg4 (by have := HBQ.out.size; simp; omega) (fun j e => (HOWQ.out.lt j e).1))
                 have hown5 : w4.ownsRow w.heap.size 3 1 v4 (L + 1) ((xs ++ [z]).map (Value.int .i64)) := by rw [List.map_append]; exact hown4
                 obtain ⟨A4, c4, e4, _⟩ := row_ints hown5 (by omega)
                 subst e4
                 have HO4 := Lib.hid hown5
                 clear hown4 hown5 hg4))
            go_roundw
            case rel => exact ⟨i + 1, L + 1, A4, c4, xs ++ [z], rest2, by omega, by go_num, rfl, HREST, HX2, Lib.hid (by rw [List.length_append, ← HLL.out]; rfl), HO4, HB4⟩
            case measure => simp [intOf]; omega
      · obtain rfl : i = n := by omega
        have hoc := hO.out
        rw [List.drop_eq_nil_of_le (by have := HLN.out; omega)] at hoc
        unfold whL at hoc
        have he := Option.some.inj hoc
        have HX := Lib.hid (show xs = r by rw [← hX.out, ← he, List.append_nil])
        clear hoc he
        go_wp2
        go_ret
        exact ⟨_, _, rfl, Nat.le_refl _, by rw [← HX.out, ← hL.out]; exact HOWN.out, HBW.out⟩

end Go.Proofs.YtapcdhagkbfccaaGreat

/- Contracts: the solver's Whole and Few. -/
namespace Go.Proofs.YtapcdhagkbfccaaGreat
open Go.RowKit

/-- The size s and, if it is not too great, all that stands for a list. -/
structure WholeIs (T : List (List Int)) (t : List Int) (s : Nat) (r : List Int) : Prop where
  sz : ∃ K, szF T 30 t (List.replicate 24 0) = some (s, K)
  le : s ≤ 61
  wh : s ≤ 60 → whF T 30 t = some r ∧ r.length = s
  pos : 1 ≤ r.length
  bd : ∀ z ∈ r, -1000000 ≤ z ∧ z ≤ 1000000
theorem knok_zero : KnOk (List.replicate 24 0) := ⟨by simp, fun k hk => by rw [List.eq_of_mem_replicate hk]; omega⟩

set_option maxRecDepth 100000 in
set_option maxHeartbeats 2000000 in
theorem Whole_long (d : Nat) (As A : Option Addr) (ns cs n c : Nat) (T : List (List Int)) (t : List Int) (s : Nat) (r : List Int) (w : World) (hS : SolAt w d As ns cs T) (ht : IntsAt w w.heap.size A n t) (hT : TosOk T) (h24 : ∀ z ∈ t, -24 ≤ z) (hw : WholeIs T t s r) (hs : 60 < s) :
    Calls Tryz.prog 120 #[.pointer (some ⟨d, 0, none⟩), .slice A n c] w fun e w' => e = .returned (.tuple #[.slice none 0 0, .bool false]) ∧ Below w.heap.size w w' := by
  obtain ⟨K, hK⟩ := hw.sz
  obtain ⟨W3, hW3⟩ : ∃ W3, w.alloc (.cells ((cI (List.replicate 24 0)).map (Value.int .i64)).toArray 167) = W3 := ⟨_, rfl⟩
  have hB3 : Below w.heap.size w W3 := by rw [← hW3]; exact bel_al (Below.refl _ _) _
  have hKn : KnAt W3 w.heap.size (List.replicate 24 0) := ⟨by rw [← hW3]; exact Blk.new _ _ _, by simp⟩
  have C1 := Lib.hid (size_any w w.heap.size d As ns cs T hS hT (Nat.le_refl _) 30 t _ s K A n c W3 hB3 ht h24 hKn knok_zero hK)
  have HW3 := Lib.hid hW3
  have hs1 : (60 : Int) < (s : Int) := by omega
  clear hS ht hT h24 hw hK hW3 hB3 hKn hs
  go_enter Tryz.func120, Tryz.ntmps120
  go_upto_region 2 with fail
  rw [show w.alloc (.cells #[.int .i64 0, .int .i64 0, .int .i64 0, .int .i64 0, .int .i64 0, .int .i64 0, .int .i64 0, .int .i64 0, .int .i64 0, .int .i64 0, .int .i64 0, .int .i64 0, .int .i64 0, .int .i64 0, .int .i64 0, .int .i64 0, .int .i64 0, .int .i64 0, .int .i64 0, .int .i64 0, .int .i64 0, .int .i64 0, .int .i64 0, .int .i64 0] 167) = W3 from HW3.out]
  go_wp2_with (go_at_call 131; refine C1.out.mono ?_; rintro e w4 ⟨rfl, hB4, _⟩; have HB4 := Lib.hid hB4; clear hB4)
  go_ret2
  exact ⟨rfl, HB4.out⟩

set_option maxRecDepth 100000 in
set_option maxHeartbeats 2000000 in
theorem Whole_short (d : Nat) (As A : Option Addr) (ns cs n c : Nat) (T : List (List Int)) (t : List Int) (s : Nat) (r : List Int) (w : World) (hS : SolAt w d As ns cs T) (ht : IntsAt w w.heap.size A n t) (hT : TosOk T) (h24 : ∀ z ∈ t, -24 ≤ z) (hw : WholeIs T t s r) (hs : s ≤ 60) :
    Calls Tryz.prog 120 #[.pointer (some ⟨d, 0, none⟩), .slice A n c] w fun e w' => ∃ A' n' c', e = .returned (.tuple #[.slice A' n' c', .bool true]) ∧ TermK w' A' n' c' r ∧ Below w.heap.size w w' := by
  obtain ⟨K, hK⟩ := hw.sz
  obtain ⟨hwh, hlen⟩ := hw.wh hs
  obtain ⟨W3, hW3⟩ : ∃ W3, w.alloc (.cells ((cI (List.replicate 24 0)).map (Value.int .i64)).toArray 167) = W3 := ⟨_, rfl⟩
  have hB3 : Below w.heap.size w W3 := by rw [← hW3]; exact bel_al (Below.refl _ _) _
  have hKn : KnAt W3 w.heap.size (List.replicate 24 0) := ⟨by rw [← hW3]; exact Blk.new _ _ _, by simp⟩
  have C1 := Lib.hid (size_any w w.heap.size d As ns cs T hS hT (Nat.le_refl _) 30 t _ s K A n c W3 hB3 ht h24 hKn knok_zero hK)
  have C2 := Lib.hid (fun V (h : Below w.heap.size w V) => (whole_any d As ns cs T hT 30 t r A n c V (hS.below h) (ht.up h) h24 hwh (by omega)).mono (R' := fun e w' => ∃ A' n' c', e = .returned (.slice A' n' c') ∧ TermK w' A' n' c' r ∧ Below V.heap.size V w') (fun e w' hh => by
    obtain ⟨v, base, rfl, _, hrow, hB⟩ := hh
    obtain ⟨A6, c6, rfl, hI, hk⟩ := row_intsk hrow (by omega)
    exact ⟨A6, _, c6, rfl, ⟨hI, hk⟩, hB⟩))
  have HW3 := Lib.hid hW3
  have hs1 : ¬ (60 : Int) < (s : Int) := by omega
  clear hS ht hT h24 hw hK hW3 hB3 hKn hs hwh hlen
  go_enter Tryz.func120, Tryz.ntmps120
  go_upto_region 2 with fail
  rw [show w.alloc (.cells #[.int .i64 0, .int .i64 0, .int .i64 0, .int .i64 0, .int .i64 0, .int .i64 0, .int .i64 0, .int .i64 0, .int .i64 0, .int .i64 0, .int .i64 0, .int .i64 0, .int .i64 0, .int .i64 0, .int .i64 0, .int .i64 0, .int .i64 0, .int .i64 0, .int .i64 0, .int .i64 0, .int .i64 0, .int .i64 0, .int .i64 0, .int .i64 0] 167) = W3 from HW3.out]
  go_wp2_with (first
    | (go_at_call 131; refine C1.out.mono ?_; rintro e w4 ⟨rfl, hB4, _⟩; have HB4 := Lib.hid hB4; clear hB4)
    | (go_at_call 132; refine (C2.out _ HB4.out).mono ?_; rintro e w5 ⟨A5, n5, c5, rfl, hT5, hB5⟩; have HB5 := Lib.hid (below_then HB4.out hB5); have HT5 := Lib.hid hT5; clear hB5 hT5))
  go_ret2
  exact ⟨_, _, _, rfl, HT5.out, HB5.out⟩

end Go.Proofs.YtapcdhagkbfccaaGreat

/- The terms that are put for variables, and what stands for a term: the plain mathematics. -/
namespace Go.Proofs.YtapcdhagkbfccaaGreat
open Go.RowKit

/-- No variable comes in what stands for it. -/
def Acy (T : List (List Int)) (ρ : Nat → Nat) : Prop :=
  ∀ v, T.getD v [] ≠ [] → ∀ z ∈ T.getD v [], z < 0 → T.getD (-z - 1).toNat [] ≠ [] → ρ (-z - 1).toNat < ρ v
theorem bound_lt {T : List (List Int)} {v : Nat} (h : T.getD v [] ≠ []) : v < T.length := by
  rw [List.getD_eq_getElem?_getD] at h
  cases e : T[v]? with
  | none => rw [e] at h; exact absurd rfl h
  | some t => exact (List.getElem?_eq_some_iff.1 e).1
section
variable {ss : Sg} {T : List (List Int)} {ρ : Nat → Nat} {σ : Int → List Int}
/-- The variables below a rank are among those of a list. -/
def Few' (T : List (List Int)) (ρ : Nat → Nat) (k c : Nat) : Prop := ∃ L : List Nat, (∀ v, T.getD v [] ≠ [] → ρ v < k → v ∈ L) ∧ L.length ≤ c
theorem Few'.next {k c v : Nat} (h : Few' T ρ k c) (hv : T.getD v [] ≠ []) (hk : ρ v < k) : 1 ≤ c ∧ Few' T ρ (ρ v) (c - 1) := by
  obtain ⟨L, h1, h2⟩ := h
  have hm := h1 v hv hk
  have hl := List.length_erase_of_mem hm
  have hp := List.length_pos_of_mem hm
  refine ⟨by omega, L.erase v, fun u hu hr => ?_, by omega⟩
  exact (List.mem_erase_of_ne (fun e => by rw [e] at hr; omega)).2 (h1 u hu (by omega))
theorem few_all (T : List (List Int)) (ρ : Nat → Nat) (k : Nat) : Few' T ρ k T.length := ⟨List.range T.length, fun _ hv _ => List.mem_range.2 (bound_lt hv), by simp⟩
/-- All variables of a list are below a rank. -/
def Low (T : List (List Int)) (ρ : Nat → Nat) (k : Nat) (t : List Int) : Prop := ∀ z ∈ t, z < 0 → T.getD (-z - 1).toNat [] ≠ [] → ρ (-z - 1).toNat < k
theorem Low.tail {k : Nat} {z : Int} {t : List Int} (h : Low T ρ k (z :: t)) : Low T ρ k t := fun x hx => h x (List.mem_cons_of_mem _ hx)
theorem low_some (T : List (List Int)) (ρ : Nat → Nat) : ∀ t : List Int, ∃ k, Low T ρ k t
  | [] => ⟨0, fun z hz => by simp at hz⟩
  | x :: t => by
    obtain ⟨k, hk⟩ := low_some T ρ t
    refine ⟨max k (ρ (-x - 1).toNat + 1), fun z hz hn hb => ?_⟩
    rcases List.mem_cons.1 hz with rfl | hz
    · omega
    · have := hk z hz hn hb; omega
theorem whF_some (hA : Acy T ρ) : ∀ (c : Nat) (t : List Int) (k m : Nat), Low T ρ k t → Few' T ρ k c → c + 1 ≤ m → ∃ r, whF T m t = some r := by
  intro c
  induction c with
  | zero =>
    intro t k m hl hf hm
    obtain ⟨m, rfl⟩ : ∃ m', m = m' + 1 := ⟨m - 1, by omega⟩
    unfold whF
    induction t with
    | nil => exact ⟨[], rfl⟩
    | cons z t iht =>
      obtain ⟨r, hr⟩ := iht hl.tail
      unfold whL
      rw [if_neg (fun h => by have := (hf.next h.2 (hl z (List.mem_cons_self ..) h.1 h.2)).1; omega), hr]
      exact ⟨_, rfl⟩
  | succ c ih =>
    intro t k m hl hf hm
    obtain ⟨m, rfl⟩ : ∃ m', m = m' + 1 := ⟨m - 1, by omega⟩
    unfold whF
    induction t with
    | nil => exact ⟨[], rfl⟩
    | cons z t iht =>
      obtain ⟨r, hr⟩ := iht hl.tail
      unfold whL
      by_cases h : z < 0 ∧ T.getD (-z - 1).toNat [] ≠ []
      · rw [if_pos h]
        have hk := hl z (List.mem_cons_self ..) h.1 h.2
        obtain ⟨_, hf'⟩ := hf.next h.2 hk
        obtain ⟨u, hu⟩ := ih (T.getD (-z - 1).toNat []) (ρ (-z - 1).toNat) m (fun y hy hn hb => hA _ h.2 y hy hn hb) hf' (by omega)
        rw [hu, hr]
        exact ⟨_, rfl⟩
      · rw [if_neg h, hr]
        exact ⟨_, rfl⟩
theorem whL_mono {g g' : List Int → Option (List Int)} (hg : ∀ t r, g t = some r → g' t = some r) : ∀ t r, whL g T t = some r → whL g' T t = some r
  | [], r, h => h
  | z :: t, r, h => by
    unfold whL at h ⊢
    split at h
    · cases h
    · rename_i u hu
      have hu' : (if z < 0 ∧ T.getD (-z - 1).toNat [] ≠ [] then g' (T.getD (-z - 1).toNat []) else some [z]) = some u := by
        split at hu
        · rename_i hc; rw [if_pos hc]; exact hg _ _ hu
        · rename_i hc; rw [if_neg hc]; exact hu
      rw [hu']
      cases e : whL g T t with
      | none => rw [e] at h; cases h
      | some r2 => rw [e] at h; rw [whL_mono hg t r2 e]; exact h
theorem whF_mono : ∀ {m m' : Nat} {t r : List Int}, m ≤ m' → whF T m t = some r → whF T m' t = some r
  | 0, m', t, r, _, h => by cases h
  | m + 1, 0, t, r, hm, _ => by omega
  | m + 1, m' + 1, t, r, hm, h => whL_mono (fun _ _ h => whF_mono (by omega) h) t r h
/-- What stands for a term. -/
def whT (T : List (List Int)) (t : List Int) : List Int := (whF T 30 t).getD []
theorem whT_is (hA : Acy T ρ) (hl : T.length = 24) (t : List Int) : whF T 30 t = some (whT T t) ∧ whF T 29 t = some (whT T t) := by
  obtain ⟨k, hk⟩ := low_some T ρ t
  obtain ⟨r, hr⟩ := whF_some hA T.length t k 29 hk (few_all T ρ k) (by omega)
  have h2 := whF_mono (m' := 30) (by omega) hr
  unfold whT
  rw [h2]
  exact ⟨rfl, hr⟩
/-- What stands for a number. -/
def imT (T : List (List Int)) (z : Int) : List Int := if T.getD (-z - 1).toNat [] ≠ [] then whT T (T.getD (-z - 1).toNat []) else [z]
theorem whT_apV (hA : Acy T ρ) (hl : T.length = 24) (t : List Int) : whT T t = apV (imT T) t := by
  have key : ∀ t : List Int, whL (whF T 29) T t = some (apV (imT T) t) := by
    intro t
    induction t with
    | nil => rfl
    | cons z t ih =>
      unfold whL
      have e : (if z < 0 ∧ T.getD (-z - 1).toNat [] ≠ [] then whF T 29 (T.getD (-z - 1).toNat []) else some [z]) = some (if z < 0 then imT T z else [z]) := by
        by_cases hn : z < 0
        · rw [if_pos hn]
          unfold imT
          by_cases hb : T.getD (-z - 1).toNat [] ≠ []
          · rw [if_pos ⟨hn, hb⟩, if_pos hb]
            exact (whT_is hA hl _).2
          · rw [if_neg (fun h => hb h.2), if_neg hb]
        · rw [if_neg (fun h => hn h.1), if_neg hn]
      rw [e, ih]
      rfl
  have h1 := (whT_is hA hl t).1
  unfold whF at h1
  rw [key t] at h1
  exact (Option.some.inj h1).symm
/-- The variables become what their terms become. -/
def Resp (σ : Int → List Int) (T : List (List Int)) : Prop := ∀ v : Nat, T.getD v [] ≠ [] → σ (-(v : Int) - 1) = apV σ (T.getD v [])
theorem im_resp (hA : Acy T ρ) (hl : T.length = 24) : Resp (imT T) T := fun v hv => by
  rw [← whT_apV hA hl]
  unfold imT
  rw [show (-(-(v : Int) - 1) - 1).toNat = v by omega, if_pos hv]
theorem apV_flat (σ τ : Int → List Int) : ∀ t, apV τ (apV σ t) = apV (fun z => apV τ (σ z)) t
  | [] => rfl
  | z :: t => by
    rw [show z :: t = [z] ++ t from rfl, apV_append, apV_append, apV_append, apV_flat σ τ t, apV_one, apV_one]
    by_cases hn : z < 0
    · rw [if_pos hn, if_pos hn]
    · rw [if_neg hn, if_neg hn, apV_one, if_neg hn]
theorem whF_apV (hR : Resp σ T) : ∀ (m : Nat) (t r : List Int), whF T m t = some r → apV σ r = apV σ t
  | 0, t, r, h => by cases h
  | m + 1, t, r, h => by
    unfold whF at h
    have key : ∀ (t r : List Int), whL (whF T m) T t = some r → apV σ r = apV σ t := by
      intro t
      induction t with
      | nil => intro r h; cases h; rfl
      | cons z t ih =>
        intro r h
        unfold whL at h
        split at h
        · cases h
        · rename_i u hu
          cases e : whL (whF T m) T t with
          | none => rw [e] at h; cases h
          | some r2 =>
            rw [e] at h
            cases h
            rw [apV_append, ih r2 e, show z :: t = [z] ++ t from rfl, apV_append]
            congr 1
            split at hu
            · rename_i hc
              rw [whF_apV hR m _ _ hu, ← hR _ hc.2, apV_one, if_pos hc.1]
              congr 1
              omega
            · cases hu; rfl
    exact key t r h
theorem wh_resp (hA : Acy T ρ) (hl : T.length = 24) (hR : Resp σ T) (t : List Int) : apV σ (whT T t) = apV σ t := whF_apV hR 30 t _ (whT_is hA hl t).1
/-- Terms for variables. -/
def GoodV (ss : Sg) (σ : Int → List Int) : Prop := ∀ z, z < 0 → scan ss 1 (σ z) = some []
theorem scan_apV (hσ : GoodV ss σ) : ∀ (p : List Int) (n : Nat) (r : List Int), scan ss n p = some r → scan ss n (apV σ p) = some (apV σ r)
  | p, 0, r, h => by rw [scan_zero] at h ⊢; cases h; rfl
  | [], n + 1, r, h => by cases h
  | z :: p, n + 1, r, h => by
    simp only [scan] at h
    rw [show z :: p = [z] ++ p from rfl, apV_append, apV_one]
    by_cases hn : z < 0
    · rw [arOf_neg ss hn, Nat.add_zero] at h
      rw [if_pos hn, show n + 1 = 1 + n by omega, scan_add, scan_append ss _ _ _ _ (hσ z hn)]
      exact scan_apV hσ p n r h
    · rw [if_neg hn]
      simp only [List.cons_append, List.nil_append, scan]
      exact scan_apV hσ p _ r h
theorem whF_scan (hT : TGood ss T) : ∀ (m : Nat) (t r : List Int) (n : Nat), whF T m t = some r → scan ss n t = some [] → scan ss n r = some []
  | 0, t, r, n, h, _ => by cases h
  | m + 1, t, r, n, h, hs => by
    unfold whF at h
    have key : ∀ (t r : List Int) (n : Nat), whL (whF T m) T t = some r → scan ss n t = some [] → scan ss n r = some [] := by
      intro t
      induction t with
      | nil => intro r n h hs; cases h; exact hs
      | cons z t ih =>
        intro r n h hs
        cases n with
        | zero => rw [scan_zero] at hs; cases hs
        | succ n =>
        unfold whL at h
        split at h
        · cases h
        · rename_i u hu
          cases e : whL (whF T m) T t with
          | none => rw [e] at h; cases h
          | some r2 =>
            rw [e] at h
            cases h
            simp only [scan] at hs
            split at hu
            · rename_i hc
              have h1 := whF_scan hT m _ u 1 hu (hT.getD _ hc.2).scn
              rw [arOf_neg ss hc.1, Nat.add_zero] at hs
              rw [show n + 1 = 1 + n by omega, scan_add, scan_append ss _ _ _ _ h1]
              exact ih r2 n e hs
            · cases hu
              simp only [List.cons_append, List.nil_append, scan]
              exact ih r2 _ e hs
    exact key t r n h hs
theorem wh_scan (hA : Acy T ρ) (hl : T.length = 24) (hT : TGood ss T) {t : List Int} {n : Nat} (h : scan ss n t = some []) : scan ss n (whT T t) = some [] := whF_scan hT 30 t _ n (whT_is hA hl t).1 h
theorem im_good (hA : Acy T ρ) (hl : T.length = 24) (hT : TGood ss T) : GoodV ss (imT T) := fun z hz => by
  unfold imT
  split
  · rename_i hb; exact wh_scan hA hl hT (hT.getD _ hb).scn
  · exact scan_neg hz
end

end Go.Proofs.YtapcdhagkbfccaaGreat

/- Looking, occurring, sizes: the plain mathematics. -/
namespace Go.Proofs.YtapcdhagkbfccaaGreat
open Go.RowKit

section
variable {ss : Sg} {T : List (List Int)} {ρ : Nat → Nat} {σ : Int → List Int}
theorem lookF_some (hA : Acy T ρ) : ∀ (c : Nat) (t : List Int) (k m : Nat), t ≠ [] → Low T ρ k t → Few' T ρ k c → c + 1 ≤ m → ∃ r, lookF T m t = some r := by
  intro c
  induction c with
  | zero =>
    intro t k m ht hl hf hm
    obtain ⟨m, rfl⟩ : ∃ m', m = m' + 1 := ⟨m - 1, by omega⟩
    cases t with
    | nil => exact absurd rfl ht
    | cons z t =>
      unfold lookF
      by_cases hn : z < 0
      · rw [if_pos hn]
        by_cases hb : T.getD (-z - 1).toNat [] = []
        · rw [if_pos hb]; exact ⟨_, rfl⟩
        · have := (hf.next hb (hl z (List.mem_cons_self ..) hn hb)).1; omega
      · rw [if_neg hn]; exact ⟨_, rfl⟩
  | succ c ih =>
    intro t k m ht hl hf hm
    obtain ⟨m, rfl⟩ : ∃ m', m = m' + 1 := ⟨m - 1, by omega⟩
    cases t with
    | nil => exact absurd rfl ht
    | cons z t =>
      unfold lookF
      by_cases hn : z < 0
      · rw [if_pos hn]
        by_cases hb : T.getD (-z - 1).toNat [] = []
        · rw [if_pos hb]; exact ⟨_, rfl⟩
        · rw [if_neg hb]
          obtain ⟨_, hf'⟩ := hf.next hb (hl z (List.mem_cons_self ..) hn hb)
          exact ih _ _ m hb (fun y hy hny hby => hA _ hb y hy hny hby) hf' (by omega)
      · rw [if_neg hn]; exact ⟨_, rfl⟩
theorem look_is (hA : Acy T ρ) (hl : T.length = 24) {t : List Int} (ht : t ≠ []) : ∃ r, lookF T 30 t = some r := by
  obtain ⟨k, hk⟩ := low_some T ρ t
  exact lookF_some hA T.length t k 30 ht hk (few_all T ρ k) (by omega)
theorem lookF_head : ∀ (m : Nat) (t : List Int) (x : Int) (p : List Int), lookF T m t = some (x :: p) → x < 0 → T.getD (-x - 1).toNat [] = []
  | 0, t, x, p, h, _ => by cases h
  | m + 1, [], x, p, h, _ => by unfold lookF at h; cases h
  | m + 1, z :: t, x, p, h, hx => by
    unfold lookF at h
    split at h
    · split at h
      · rename_i hb; cases h; exact hb
      · exact lookF_head m _ x p h hx
    · rename_i hn; cases h; exact absurd hx hn
theorem var_single {z : Int} {t : List Int} (h : scan ss 1 (z :: t) = some []) (hn : z < 0) : t = [] := by
  simp only [scan, arOf_neg ss hn, Nat.add_zero, scan_zero] at h
  exact Option.some.inj h
theorem lookF_apV (hT : TGood ss T) (hR : Resp σ T) : ∀ (m : Nat) (t r : List Int), scan ss 1 t = some [] → lookF T m t = some r → apV σ r = apV σ t
  | 0, t, r, _, h => by cases h
  | m + 1, [], r, _, h => by unfold lookF at h; cases h
  | m + 1, z :: t, r, hs, h => by
    unfold lookF at h
    split at h
    · rename_i hn
      split at h
      · cases h; rfl
      · rename_i hb
        rw [lookF_apV hT hR m _ r (hT.getD _ hb).scn h, ← hR _ hb, var_single hs hn, apV_one, if_pos hn]
        congr 1
        omega
    · cases h; rfl
theorem look_wh (hA : Acy T ρ) (hl : T.length = 24) (hT : TGood ss T) {m : Nat} {t r : List Int} (hs : scan ss 1 t = some []) (h : lookF T m t = some r) : whT T r = whT T t := by
  rw [whT_apV hA hl, whT_apV hA hl]
  exact lookF_apV hT (im_resp hA hl) m t r hs h
/-- Looking at what was looked at changes nothing. -/
theorem look_self {x : Int} {p : List Int} (h : x < 0 → T.getD (-x - 1).toNat [] = []) : lookF T 30 (x :: p) = some (x :: p) := by
  unfold lookF
  by_cases hx : x < 0
  · rw [if_pos hx, if_pos (h hx)]
  · rw [if_neg hx]

/-- A number is another variable, and has no term or was looked into. -/
def VOk (T : List (List Int)) (v : Nat) (d : List Bool) (z : Int) : Prop := z < 0 → (-z - 1).toNat ≠ v ∧ (T.getD (-z - 1).toNat [] = [] ∨ d.getD (-z - 1).toNat false = true)
structure Cl (T : List (List Int)) (v : Nat) (t : List Int) (d d' : List Bool) : Prop where
  el : ∀ z ∈ t, VOk T v d' z
  up : ∀ w, d.getD w false = true → d'.getD w false = true
  cl : ∀ w, d'.getD w false = true → d.getD w false = true ∨ ∀ z ∈ T.getD w [], VOk T v d' z
  ln : d'.length = d.length
theorem VOk.mono {v : Nat} {d d' : List Bool} {z : Int} (h : VOk T v d z) (hu : ∀ w, d.getD w false = true → d'.getD w false = true) : VOk T v d' z := fun hn => ⟨(h hn).1, (h hn).2.imp id (hu _)⟩
theorem getD_set {α : Type} (l : List α) (i j : Nat) (x e : α) : (l.set i x).getD j e = if i = j ∧ i < l.length then x else l.getD j e := by
  rw [List.getD_eq_getElem?_getD, List.getD_eq_getElem?_getD, List.getElem?_set]
  by_cases h : i = j
  · subst h
    by_cases h2 : i < l.length
    · rw [if_pos rfl, if_pos h2, if_pos ⟨rfl, h2⟩]; rfl
    · rw [if_pos rfl, if_neg h2, if_neg (fun h => h2 h.2), List.getElem?_eq_none (by omega)]
  · rw [if_neg h, if_neg (fun h2 => h h2.1)]
theorem occL_false {g : List Int → List Bool → Option (Bool × List Bool)} {v : Nat} (hg : ∀ t d d', g t d = some (false, d') → Cl T v t d d') : ∀ (t : List Int) (d d' : List Bool), d.length = 24 → T.length = 24 → occL g T v t d = some (false, d') → Cl T v t d d'
  | [], d, d', _, _, h => by cases h; exact ⟨fun z hz => by simp at hz, fun _ h => h, fun _ h => .inl h, rfl⟩
  | z :: t, d, d', hd, hl, h => by
    unfold occL at h
    split at h
    · rename_i hp
      have k := occL_false hg t d d' hd hl h
      refine ⟨fun y hy => ?_, k.up, k.cl, k.ln⟩
      rcases List.mem_cons.1 hy with rfl | hy
      · intro hn; omega
      · exact k.el y hy
    · split at h
      · cases h
      · rename_i hp hv
        split at h
        · rename_i hc
          have k := occL_false hg t d d' hd hl h
          refine ⟨fun y hy => ?_, k.up, k.cl, k.ln⟩
          rcases List.mem_cons.1 hy with rfl | hy
          · intro _; exact ⟨hv, hc.imp id (k.up _)⟩
          · exact k.el y hy
        · rename_i hc
          cases e : g (T.getD (-z - 1).toNat []) (d.set (-z - 1).toNat true) with
          | none => rw [e] at h; cases h
          | some R =>
            obtain ⟨b1, d1⟩ := R
            rw [e] at h
            cases b1 with
            | true => cases h
            | false =>
              simp only at h
              have j := hg _ _ _ e
              have hd1 : d1.length = 24 := by rw [j.ln, List.length_set, hd]
              have k := occL_false hg t d1 d' hd1 hl h
              have hw : (-z - 1).toNat < d.length := by rw [hd, ← hl]; exact bound_lt (fun h => hc (.inl h))
              have hup : ∀ w, d.getD w false = true → d1.getD w false = true := fun w hw' => j.up w (by
                rw [getD_set]
                split
                · rfl
                · exact hw')
              have hz1 : d1.getD (-z - 1).toNat false = true := j.up _ (by rw [getD_set, if_pos ⟨rfl, hw⟩])
              refine ⟨fun y hy => ?_, fun w hw' => k.up w (hup w hw'), fun w hw' => ?_, by rw [k.ln, hd1, hd]⟩
              · rcases List.mem_cons.1 hy with rfl | hy
                · intro _; exact ⟨hv, .inr (k.up _ hz1)⟩
                · exact k.el y hy
              · rcases k.cl w hw' with h1 | h1
                · rcases j.cl w h1 with h2 | h2
                  · rw [getD_set] at h2
                    split at h2
                    · rename_i he
                      exact .inr (fun y hy => (j.el y (by rw [he.1]; exact hy)).mono k.up)
                    · exact .inl h2
                  · exact .inr (fun y hy => (h2 y hy).mono k.up)
                · exact .inr h1
theorem occF_false {v : Nat} (hl : T.length = 24) : ∀ (m : Nat) (t : List Int) (d d' : List Bool), d.length = 24 → occF T v m t d = some (false, d') → Cl T v t d d'
  | 0, t, d, d', _, h => by cases h
  | m + 1, t, d, d', hd, h => by
    refine occL_false (g := fun t d => if d.length = 24 then occF T v m t d else none) (fun t d d' h => ?_) t d d' hd hl ?_
    · split at h
      · rename_i h24; exact occF_false hl m t d d' h24 h
      · cases h
    · unfold occF at h
      have key : ∀ (t : List Int) (d : List Bool) (R : Bool × List Bool), d.length = 24 → (∀ t d b d', d.length = 24 → occF T v m t d = some (b, d') → d'.length = 24) → occL (occF T v m) T v t d = some R → occL (fun t d => if d.length = 24 then occF T v m t d else none) T v t d = some R := by
        intro t
        induction t with
        | nil => intro d R _ _ h; exact h
        | cons z t ih =>
          intro d R hd hlen h
          unfold occL at h ⊢
          split at h
          · rename_i hp; rw [if_pos hp]; exact ih d R hd hlen h
          · rename_i hp; rw [if_neg hp]
            split at h
            · rename_i hv; rw [if_pos hv]; exact h
            · rename_i hv; rw [if_neg hv]
              split at h
              · rename_i hc; rw [if_pos hc]; exact ih d R hd hlen h
              · rename_i hc; rw [if_neg hc]
                have hs : (d.set (-z - 1).toNat true).length = 24 := by rw [List.length_set]; exact hd
                simp only [hs, if_true]
                cases e : occF T v m (T.getD (-z - 1).toNat []) (d.set (-z - 1).toNat true) with
                | none => rw [e] at h; cases h
                | some R1 =>
                  obtain ⟨b1, d1⟩ := R1
                  rw [e] at h
                  cases b1 with
                  | true => exact h
                  | false => exact ih d1 R (hlen _ _ _ _ hs e) hlen h
      have hlen : ∀ (m : Nat) (t : List Int) (d : List Bool) (b : Bool) (d' : List Bool), d.length = 24 → occF T v m t d = some (b, d') → d'.length = 24 := by
        intro m
        induction m with
        | zero => intro t d b d' _ h; cases h
        | succ m ihm =>
          intro t d b d' hd h
          unfold occF at h
          revert d
          induction t with
          | nil => intro d hd h; cases h; exact hd
          | cons z t ih =>
            intro d hd h
            unfold occL at h
            split at h
            · exact ih d hd h
            · split at h
              · cases h; exact hd
              · split at h
                · exact ih d hd h
                · cases e : occF T v m (T.getD (-z - 1).toNat []) (d.set (-z - 1).toNat true) with
                  | none => rw [e] at h; cases h
                  | some R1 =>
                    obtain ⟨b1, d1⟩ := R1
                    have h1 := ihm _ _ _ _ (by rw [List.length_set]; exact hd) e
                    rw [e] at h
                    cases b1 with
                    | true => cases h; exact h1
                    | false => exact ih d1 h1 h
      exact key t d _ hd (hlen m) h
/-- If a variable was not found, it does not come. -/
theorem occ_not {v : Nat} (hA : Acy T ρ) (hl : T.length = 24) {m : Nat} {t : List Int} {d' : List Bool} (h : occF T v m t (List.replicate 24 false) = some (false, d')) : ∀ z ∈ whT T t, z < 0 → (-z - 1).toNat ≠ v := by
  have hc := occF_false hl m t _ d' (by simp) h
  have hcl : ∀ w, d'.getD w false = true → ∀ z ∈ T.getD w [], VOk T v d' z := fun w hw => by
    rcases hc.cl w hw with h1 | h1
    · rw [List.getD_eq_getElem?_getD, List.getElem?_replicate] at h1
      split at h1 <;> simp at h1
    · exact h1
  have key : ∀ (m : Nat) (t r : List Int), whF T m t = some r → (∀ z ∈ t, VOk T v d' z) → ∀ z ∈ r, z < 0 → (-z - 1).toNat ≠ v := by
    intro m
    induction m with
    | zero => intro t r h; cases h
    | succ m ihm =>
      intro t
      induction t with
      | nil => intro r h _ z hz; unfold whF whL at h; cases h; simp at hz
      | cons y t iht =>
        intro r h ht z hz hn
        unfold whF whL at h
        split at h
        · cases h
        · rename_i u hu
          cases e : whL (whF T m) T t with
          | none => rw [e] at h; cases h
          | some r2 =>
            rw [e] at h
            cases h
            rcases List.mem_append.1 hz with hz | hz
            · split at hu
              · rename_i hb
                have hy := ht y (List.mem_cons_self ..) hb.1
                exact ihm _ u hu (hcl _ (hy.2.resolve_left hb.2)) z hz hn
              · cases hu
                obtain rfl := List.mem_singleton.1 hz
                exact (ht z (List.mem_cons_self ..) hn).1
            · exact iht r2 e (fun x hx => ht x (List.mem_cons_of_mem _ hx)) z hz hn
  exact key 30 t _ (whT_is hA hl t).1 hc.el
theorem wh_cons (hA : Acy T ρ) (hl : T.length = 24) (z : Int) (t : List Int) : whT T (z :: t) = (if z < 0 then imT T z else [z]) ++ whT T t := by
  rw [whT_apV hA hl, whT_apV hA hl, show z :: t = [z] ++ t from rfl, apV_append, apV_one]
theorem wh_sub (hA : Acy T ρ) (hl : T.length = 24) {t : List Int} {z : Int} (hz : z ∈ t) (hn : z < 0) : ∀ y ∈ imT T z, y ∈ whT T t := by
  intro y hy
  rw [whT_apV hA hl]
  unfold apV
  rw [List.mem_flatMap]
  exact ⟨z, hz, by rw [if_pos hn]; exact hy⟩
theorem occ_yes {v : Nat} (hA : Acy T ρ) (hl : T.length = 24) (hv : T.getD v [] = []) : ∀ (m : Nat) (t : List Int) (d d' : List Bool), occF T v m t d = some (true, d') → (-(v : Int) - 1) ∈ whT T t
  | 0, t, d, d', h => by cases h
  | m + 1, t, d, d', h => by
    unfold occF at h
    have key : ∀ (t : List Int) (d : List Bool), occL (occF T v m) T v t d = some (true, d') → (-(v : Int) - 1) ∈ whT T t := by
      intro t
      induction t with
      | nil => intro d h; cases h
      | cons z t ih =>
        intro d h
        rw [wh_cons hA hl]
        unfold occL at h
        split at h
        · exact List.mem_append_right _ (ih d h)
        · rename_i hp
          have hn : z < 0 := by omega
          split at h
          · rename_i hvz
            refine List.mem_append_left _ ?_
            rw [if_pos hn]
            unfold imT
            rw [hvz, if_neg (fun h => h hv)]
            rw [List.mem_singleton]
            omega
          · split at h
            · exact List.mem_append_right _ (ih d h)
            · rename_i hc
              cases e : occF T v m (T.getD (-z - 1).toNat []) (d.set (-z - 1).toNat true) with
              | none => rw [e] at h; cases h
              | some R1 =>
                obtain ⟨b1, d1⟩ := R1
                rw [e] at h
                cases b1 with
                | true =>
                  have := occ_yes hA hl hv m _ _ _ e
                  refine List.mem_append_left _ ?_
                  rw [if_pos hn]
                  unfold imT
                  rw [if_pos (fun h => hc (.inl h))]
                  exact this
                | false => exact List.mem_append_right _ (ih d1 h)
    exact key t d h
theorem occF_some {v : Nat} (hl : T.length = 24) : ∀ (u : Nat) (t : List Int) (d : List Bool) (m : Nat), d.length = 24 → (∃ L : List Nat, (∀ j : Nat, j < 24 → d.getD j false = false → j ∈ L) ∧ L.length ≤ u) → u + 1 ≤ m → ∃ b d', occF T v m t d = some (b, d') ∧ d'.length = 24 ∧ ∀ w, d.getD w false = true → d'.getD w false = true := by
  intro u
  induction u with
  | zero =>
    intro t d m hd ⟨L, hL, hl0⟩ hm
    obtain ⟨m, rfl⟩ : ∃ m', m = m' + 1 := ⟨m - 1, by omega⟩
    unfold occF
    induction t with
    | nil => exact ⟨false, d, rfl, hd, fun _ h => h⟩
    | cons z t ih =>
      unfold occL
      split
      · exact ih
      · split
        · exact ⟨true, d, rfl, hd, fun _ h => h⟩
        · split
          · exact ih
          · rename_i hc
            have hw : (-z - 1).toNat < 24 := by rw [← hl]; exact bound_lt (fun h => hc (.inl h))
            have hm' := hL _ hw (by simpa using fun h => hc (.inr h))
            have := List.length_pos_of_mem hm'
            omega
  | succ u ihu =>
    intro t d m hd hLL hm
    obtain ⟨m, rfl⟩ : ∃ m', m = m' + 1 := ⟨m - 1, by omega⟩
    unfold occF
    revert d
    induction t with
    | nil => intro d hd _; exact ⟨false, d, rfl, hd, fun _ h => h⟩
    | cons z t ih =>
      intro d hd hLL
      unfold occL
      split
      · exact ih d hd hLL
      · split
        · exact ⟨true, d, rfl, hd, fun _ h => h⟩
        · split
          · exact ih d hd hLL
          · rename_i hc
            obtain ⟨L, hL, hl0⟩ := hLL
            have hw : (-z - 1).toNat < 24 := by rw [← hl]; exact bound_lt (fun h => hc (.inl h))
            have hm' := hL _ hw (by simpa using fun h => hc (.inr h))
            have hle := List.length_erase_of_mem hm'
            have hp := List.length_pos_of_mem hm'
            have hs : ∀ w, d.getD w false = true → (d.set (-z - 1).toNat true).getD w false = true := fun w h => by
              rw [getD_set]
              split
              · rfl
              · exact h
            obtain ⟨b1, d1, e1, e2, e3⟩ := ihu (T.getD (-z - 1).toNat []) (d.set (-z - 1).toNat true) m (by rw [List.length_set]; exact hd) ⟨L.erase (-z - 1).toNat, fun j hj h => by
              rw [getD_set] at h
              split at h
              · cases h
              · rename_i hne
                exact (List.mem_erase_of_ne (fun e => hne ⟨e.symm, by rw [hd]; exact hw⟩)).2 (hL j hj h), by omega⟩ (by omega)
            rw [e1]
            cases b1 with
            | true => exact ⟨true, d1, rfl, e2, fun w h => e3 w (hs w h)⟩
            | false =>
              simp only
              obtain ⟨b2, d2, f1, f2, f3⟩ := ih d1 e2 ⟨L, fun j hj h => hL j hj (Bool.eq_false_iff.2 fun h2 => by rw [e3 j (hs j h2)] at h; cases h), hl0⟩
              exact ⟨b2, d2, f1, f2, fun w h => f3 w (e3 w (hs w h))⟩
theorem occ_is {v : Nat} (hl : T.length = 24) (t : List Int) : ∃ b d', occF T v 30 t (List.replicate 24 false) = some (b, d') := by
  obtain ⟨b, d', e, _⟩ := occF_some (v := v) hl 24 t (List.replicate 24 false) 30 (by simp) ⟨List.range 24, fun j hj _ => List.mem_range.2 hj, by simp⟩ (by omega)
  exact ⟨b, d', e⟩

/-- The sizes that are known are right. -/
def KnC (T : List (List Int)) (K : List Nat) : Prop := ∀ v, K.getD v 0 ≠ 0 → K.getD v 0 = min 61 (whT T (T.getD v [])).length
theorem szF_is (hA : Acy T ρ) (hl : T.length = 24) : ∀ (m : Nat) (t : List Int) (K : List Nat) (s : Nat) (K' : List Nat), KnC T K → szF T m t K = some (s, K') → s = min 61 (whT T t).length ∧ KnC T K'
  | 0, t, K, s, K', _, h => by cases h
  | m + 1, t, K, s, K', hK, h => by
    have key : ∀ (t : List Int) (n : Nat) (K : List Nat) (n' : Nat) (K' : List Nat), KnC T K → szL (szF T m) T t n K = some (n', K') → min 61 n' = min 61 (n + (whT T t).length) ∧ KnC T K' := by
      intro t
      induction t with
      | nil =>
        intro n K n' K' hK h
        cases h
        have : whT T [] = [] := by rw [whT_apV hA hl]; rfl
        rw [this]
        exact ⟨rfl, hK⟩
      | cons z t ih =>
        intro n K n' K' hK h
        rw [wh_cons hA hl, List.length_append]
        unfold szL at h
        split at h
        · cases h
          exact ⟨by omega, hK⟩
        · split at h
          · rename_i hc
            obtain ⟨k1, k2⟩ := ih _ K n' K' hK h
            refine ⟨?_, k2⟩
            have e : (if z < 0 then imT T z else [z]).length = 1 := by
              split
              · rename_i hn
                unfold imT
                rw [if_neg (fun h2 => hc.elim (fun h => by omega) h2)]
                rfl
              · rfl
            rw [e, k1]
            omega
          · rename_i hc
            have hb : T.getD (-z - 1).toNat [] ≠ [] := fun h => hc (.inr h)
            have hn : z < 0 := by
              have : ¬ 0 ≤ z := fun h => hc (.inl h)
              omega
            have e : (if z < 0 then imT T z else [z]) = whT T (T.getD (-z - 1).toNat []) := by
              rw [if_pos hn]; unfold imT; rw [if_pos hb]
            rw [e]
            split at h
            · cases er : szF T m (T.getD (-z - 1).toNat []) K with
              | none => rw [er] at h; cases h
              | some R =>
                obtain ⟨s1, K1⟩ := R
                rw [er] at h
                obtain ⟨j1, j2⟩ := szF_is hA hl m _ K s1 K1 hK er
                have hK2 : KnC T (K1.set (-z - 1).toNat s1) := fun v hv => by
                  rw [getD_set] at hv ⊢
                  split
                  · rename_i he
                    rw [← he.1]
                    exact j1
                  · rename_i he
                    rw [if_neg he] at hv
                    exact j2 v hv
                obtain ⟨k1, k2⟩ := ih _ _ n' K' hK2 h
                exact ⟨by rw [k1]; omega, k2⟩
            · rename_i hk
              obtain ⟨k1, k2⟩ := ih _ K n' K' hK h
              have := hK _ hk
              exact ⟨by rw [k1]; omega, k2⟩
    unfold szF at h
    cases e : szL (szF T m) T t 0 K with
    | none => rw [e] at h; cases h
    | some R =>
      obtain ⟨n, K1⟩ := R
      rw [e] at h
      obtain ⟨k1, k2⟩ := key t 0 K n K1 hK e
      cases h
      refine ⟨?_, k2⟩
      split <;> omega
theorem szF_some (hA : Acy T ρ) : ∀ (c : Nat) (t : List Int) (K : List Nat) (k m : Nat), Low T ρ k t → Few' T ρ k c → c + 1 ≤ m → ∃ s K', szF T m t K = some (s, K') := by
  intro c
  induction c with
  | zero =>
    intro t K k m hl hf hm
    obtain ⟨m, rfl⟩ : ∃ m', m = m' + 1 := ⟨m - 1, by omega⟩
    have key : ∀ (t : List Int) (n : Nat) (K : List Nat), Low T ρ k t → ∃ n' K', szL (szF T m) T t n K = some (n', K') := by
      intro t
      induction t with
      | nil => intro n K _; exact ⟨n, K, rfl⟩
      | cons z t ih =>
        intro n K hl
        unfold szL
        split
        · exact ⟨n, K, rfl⟩
        · split
          · exact ih _ K hl.tail
          · rename_i hc
            have hn : z < 0 := by
              have : ¬ 0 ≤ z := fun h => hc (.inl h)
              omega
            have := (hf.next (fun h => hc (.inr h)) (hl z (List.mem_cons_self ..) hn (fun h => hc (.inr h)))).1
            omega
    unfold szF
    obtain ⟨n', K', e⟩ := key t 0 K hl
    rw [e]
    exact ⟨_, _, rfl⟩
  | succ c ihc =>
    intro t K k m hl hf hm
    obtain ⟨m, rfl⟩ : ∃ m', m = m' + 1 := ⟨m - 1, by omega⟩
    have key : ∀ (t : List Int) (n : Nat) (K : List Nat), Low T ρ k t → ∃ n' K', szL (szF T m) T t n K = some (n', K') := by
      intro t
      induction t with
      | nil => intro n K _; exact ⟨n, K, rfl⟩
      | cons z t ih =>
        intro n K hl
        unfold szL
        split
        · exact ⟨n, K, rfl⟩
        · split
          · exact ih _ K hl.tail
          · rename_i hc
            have hn : z < 0 := by
              have : ¬ 0 ≤ z := fun h => hc (.inl h)
              omega
            have hb : T.getD (-z - 1).toNat [] ≠ [] := fun h => hc (.inr h)
            split
            · obtain ⟨_, hf'⟩ := hf.next hb (hl z (List.mem_cons_self ..) hn hb)
              obtain ⟨s1, K1, e1⟩ := ihc (T.getD (-z - 1).toNat []) K _ m (fun y hy hny hby => hA _ hb y hy hny hby) hf' (by omega)
              rw [e1]
              exact ih _ _ hl.tail
            · exact ih _ K hl.tail
    unfold szF
    obtain ⟨n', K', e⟩ := key t 0 K hl
    rw [e]
    exact ⟨_, _, rfl⟩
theorem wh_mem (P : Int → Prop) (hA : Acy T ρ) (hl : T.length = 24) (hP : ∀ v : Nat, ∀ z ∈ T.getD v [], P z) {t : List Int} (ht : ∀ z ∈ t, P z) : ∀ z ∈ whT T t, P z := by
  have key : ∀ (m : Nat) (t r : List Int), whF T m t = some r → (∀ z ∈ t, P z) → ∀ z ∈ r, P z := by
    intro m
    induction m with
    | zero => intro t r h; cases h
    | succ m ihm =>
      intro t
      induction t with
      | nil => intro r h _ z hz; unfold whF whL at h; cases h; simp at hz
      | cons y t iht =>
        intro r h ht z hz
        unfold whF whL at h
        split at h
        · cases h
        · rename_i u hu
          cases e : whL (whF T m) T t with
          | none => rw [e] at h; cases h
          | some r2 =>
            rw [e] at h
            cases h
            rcases List.mem_append.1 hz with hz | hz
            · split at hu
              · exact ihm _ u hu (hP _) z hz
              · cases hu
                obtain rfl := List.mem_singleton.1 hz
                exact ht z (List.mem_cons_self ..)
            · exact iht r2 e (fun x hx => ht x (List.mem_cons_of_mem _ hx)) z hz
  exact key 30 t _ (whT_is hA hl t).1 ht
/-- What Whole finds. -/
theorem whole_is (hA : Acy T ρ) (hl : T.length = 24) (hT : TGood ss T) (hns : ss.length ≤ 1000) {t : List Int} (ht : GoodS ss t) : WholeIs T t (min 61 (whT T t).length) (whT T t) := by
  obtain ⟨k, hk⟩ := low_some T ρ t
  obtain ⟨s, K, e⟩ := szF_some hA T.length t (List.replicate 24 0) k 30 hk (few_all T ρ k) (by omega)
  obtain ⟨h1, _⟩ := szF_is hA hl 30 t _ s K (fun v hv => by
    rw [List.getD_eq_getElem?_getD, List.getElem?_replicate] at hv
    split at hv <;> simp at hv) e
  refine ⟨⟨K, by rw [← h1]; exact e⟩, Nat.min_le_left _ _, fun h60 => ⟨(whT_is hA hl t).1, by omega⟩, ?_, ?_⟩
  · exact scan_len (wh_scan hA hl hT ht.scn)
  · refine wh_mem (fun z => -1000000 ≤ z ∧ z ≤ 1000000) hA hl (fun v z hz => ?_) (fun z hz => ?_)
    · have hb : T.getD v [] ≠ [] := fun h => by rw [h] at hz; simp at hz
      have g := hT.getD v hb
      have h1 := g.lo z hz
      have h2 := g.hd z hz
      omega
    · have h1 := ht.lo z hz
      have h2 := ht.hd z hz
      omega
end

end Go.Proofs.YtapcdhagkbfccaaGreat

/- The reference's solver finds the most general one: the plain mathematics. -/
namespace Go.Proofs.YtapcdhagkbfccaaGreat
open Go.RowKit

section
variable {ss : Sg} {T : List (List Int)} {ρ : Nat → Nat}
theorem solL_mono {g g' : List Int → List Int → List (List Int) → Option (Bool × List (List Int))} (hg : ∀ a b T R, g a b T = some R → g' a b T = some R) : ∀ (l : List (List Int × List Int)) (T : List (List Int)) (R : Bool × List (List Int)), solL g l T = some R → solL g' l T = some R
  | [], T, R, h => h
  | (p, q) :: l, T, R, h => by
    unfold solL at h ⊢
    cases e : g p q T with
    | none => rw [e] at h; cases h
    | some Q =>
      obtain ⟨b1, T1⟩ := Q
      rw [e] at h
      rw [hg _ _ _ _ e]
      cases b1 with
      | false => exact h
      | true => exact solL_mono hg l T1 R h
theorem solF_mono : ∀ {m m' : Nat} {a b : List Int} {T : List (List Int)} {R : Bool × List (List Int)}, m ≤ m' → solF ss m a b T = some R → solF ss m' a b T = some R
  | 0, m', a, b, T, R, _, h => by cases h
  | m + 1, 0, a, b, T, R, hm, _ => by omega
  | m + 1, m' + 1, a, b, T, R, hm, h => by
    unfold solF at h ⊢
    cases ea : lookF T 30 a with
    | none => rw [ea] at h; cases h
    | some a2 =>
    cases eb : lookF T 30 b with
    | none => rw [ea, eb] at h; cases a2 <;> cases h
    | some b2 =>
    rw [ea, eb] at h
    cases a2 with
    | nil => cases h
    | cons x p =>
    cases b2 with
    | nil => cases h
    | cons y q =>
    simp only at h ⊢
    split at h
    · rename_i c1; rw [if_pos c1]; exact h
    · rename_i c1; rw [if_neg c1]
      split at h
      · rename_i c2; rw [if_pos c2]; exact h
      · rename_i c2; rw [if_neg c2]
        split at h
        · rename_i c3; rw [if_pos c3]; exact solF_mono (by omega) h
        · rename_i c3; rw [if_neg c3]
          split at h
          · rename_i c4; rw [if_pos c4]; exact solL_mono (fun _ _ _ _ h => solF_mono (by omega) h) _ _ _ h
          · rename_i c4; rw [if_neg c4]; exact h
/-- The variables without a term are in a list of c. -/
def Unb (T : List (List Int)) (c : Nat) : Prop := ∃ L : List Nat, (∀ v, v < 24 → T.getD v [] = [] → v ∈ L) ∧ L.length ≤ c
theorem Unb.mono {c c' : Nat} (h : Unb T c) (hc : c ≤ c') : Unb T c' := by
  obtain ⟨L, h1, h2⟩ := h
  exact ⟨L, h1, by omega⟩
theorem Unb.set {c v : Nat} {t : List Int} (h : Unb T c) (hl : T.length = 24) (hv : v < 24) (hb : T.getD v [] = []) (ht : t ≠ []) : 1 ≤ c ∧ Unb (T.set v t) (c - 1) := by
  obtain ⟨L, h1, h2⟩ := h
  have hm := h1 v hv hb
  have hle := List.length_erase_of_mem hm
  have hp := List.length_pos_of_mem hm
  refine ⟨by omega, L.erase v, fun u hu hb' => ?_, by omega⟩
  rw [getD_set] at hb'
  split at hb'
  · exact absurd hb' ht
  · rename_i hne
    exact (List.mem_erase_of_ne (fun e => hne ⟨e.symm, by omega⟩)).2 (h1 u hu hb')
theorem rank_under (ρ : Nat → Nat) : ∀ n, ∃ B, ∀ u, u < n → ρ u < B
  | 0 => ⟨0, fun u h => absurd h (Nat.not_lt_zero u)⟩
  | n + 1 => by
    obtain ⟨B, hB⟩ := rank_under ρ n
    refine ⟨max B (ρ n + 1), fun u hu => ?_⟩
    by_cases e : u = n
    · subst e; omega
    · have := hB u (by omega); omega
theorem im_free {z : Int} (h : T.getD (-z - 1).toNat [] = []) : imT T z = [z] := by
  unfold imT; rw [if_neg (fun h2 => h2 h)]
theorem im_bound {z : Int} (h : T.getD (-z - 1).toNat [] ≠ []) : imT T z = whT T (T.getD (-z - 1).toNat []) := by
  unfold imT; rw [if_pos h]
theorem acy_set (hA : Acy T ρ) (hl : T.length = 24) {v : Nat} {t : List Int} (hv : v < 24) (hb : T.getD v [] = []) (hn : ∀ z ∈ whT T t, z < 0 → (-z - 1).toNat ≠ v) : ∃ ρ', Acy (T.set v t) ρ' := by
  obtain ⟨B, hB⟩ := rank_under ρ 24
  have hb24 : ∀ u, T.getD u [] ≠ [] → ρ u < B := fun u hu => hB u (by rw [← hl]; exact bound_lt hu)
  have hneg : (-(v : Int) - 1) < 0 := by omega
  have hback : (-(-(v : Int) - 1) - 1).toNat = v := by omega
  refine ⟨fun u => if u = v then B else if (-(v : Int) - 1) ∈ whT T (T.getD u []) then ρ u + B + 1 else ρ u, fun w hw z hz hzn hzb => ?_⟩
  show (if (-z - 1).toNat = v then B else if (-(v : Int) - 1) ∈ whT T (T.getD (-z - 1).toNat []) then ρ (-z - 1).toNat + B + 1 else ρ (-z - 1).toNat) < (if w = v then B else if (-(v : Int) - 1) ∈ whT T (T.getD w []) then ρ w + B + 1 else ρ w)
  have hzb' : (-z - 1).toNat ≠ v → T.getD (-z - 1).toNat [] ≠ [] := fun hne => by
    rw [getD_set, if_neg (fun e => hne e.1.symm)] at hzb
    exact hzb
  by_cases hwv : w = v
  · rw [getD_set, if_pos ⟨hwv.symm, by omega⟩] at hz
    have hs := wh_sub hA hl hz hzn
    have hne : (-z - 1).toNat ≠ v := fun e => by
      rw [im_free (by rw [e]; exact hb)] at hs
      exact hn z (hs z (List.mem_singleton.2 rfl)) hzn e
    have hbz := hzb' hne
    rw [im_bound hbz] at hs
    rw [if_neg hne, if_neg (fun hm => hn _ (hs _ hm) hneg hback), if_pos hwv]
    exact hb24 _ hbz
  · rw [getD_set, if_neg (fun e => hwv e.1.symm)] at hz hw
    have hs := wh_sub hA hl hz hzn
    rw [if_neg hwv]
    by_cases hne : (-z - 1).toNat = v
    · rw [im_free (by rw [hne]; exact hb)] at hs
      have hm := hs z (List.mem_singleton.2 rfl)
      rw [show z = -(v : Int) - 1 by omega] at hm
      rw [if_pos hne, if_pos hm]
      omega
    · have hbz := hzb' hne
      have hlt := hA w hw z hz hzn hbz
      rw [im_bound hbz] at hs
      have := hb24 _ hbz
      rw [if_neg hne]
      split
      · rename_i hm
        rw [if_pos (hs _ hm)]
        omega
      · split <;> omega
theorem resp_set {σ : Int → List Int} (hl : T.length = 24) {v : Nat} {t : List Int} (hv : v < 24) (hb : T.getD v [] = []) (ht : t ≠ []) : Resp σ (T.set v t) ↔ Resp σ T ∧ σ (-(v : Int) - 1) = apV σ t := by
  constructor
  · intro h
    refine ⟨fun u hu => ?_, ?_⟩
    · have hne : ¬ (v = u ∧ v < T.length) := fun e => hu (by rw [← e.1]; exact hb)
      have := h u
      rw [getD_set, if_neg hne] at this
      exact this hu
    · have := h v
      rw [getD_set, if_pos ⟨rfl, by omega⟩] at this
      exact this ht
  · rintro ⟨h1, h2⟩ u hu
    rw [getD_set] at hu ⊢
    split
    · rename_i e
      rw [← e.1]
      exact h2
    · rename_i e
      rw [if_neg e] at hu
      exact h1 u hu
theorem apV_in {σ : Int → List Int} {z : Int} : ∀ {l : List Int}, z ∈ l → z < 0 → (σ z).length ≤ (apV σ l).length
  | [], h, _ => by simp at h
  | y :: l, h, hn => by
    rw [show y :: l = [y] ++ l from rfl, apV_append, List.length_append, apV_one]
    rcases List.mem_cons.1 h with rfl | h
    · rw [if_pos hn]; omega
    · have := apV_in (σ := σ) h hn; omega
/-- What the solver finds where E is asked of what the variables become. -/
structure SolIs (ss : Sg) (T : List (List Int)) (c : Nat) (E : (Int → List Int) → Prop) (bo : Bool) (T' : List (List Int)) : Prop where
  acy : ∃ ρ', Acy T' ρ'
  unb : T' = T ∨ (1 ≤ c ∧ Unb T' (c - 1))
  yes : bo = true → ∀ σ, GoodV ss σ → (Resp σ T' ↔ Resp σ T ∧ E σ)
  no : bo = false → ∀ σ, GoodV ss σ → Resp σ T → ¬ E σ
theorem SolIs.cong {c : Nat} {E E' : (Int → List Int) → Prop} {bo : Bool} {T' : List (List Int)} (h : SolIs ss T c E bo T') (he : ∀ σ, Resp σ T → (E σ ↔ E' σ)) : SolIs ss T c E' bo T' :=
  ⟨h.acy, h.unb, fun hb σ hσ => by
    rw [h.yes hb σ hσ]
    exact ⟨fun k => ⟨k.1, (he σ k.1).1 k.2⟩, fun k => ⟨k.1, (he σ k.1).2 k.2⟩⟩, fun hb σ hσ hR hE => h.no hb σ hσ hR ((he σ hR).2 hE)⟩
theorem wh_nil (hA : Acy T ρ) (hl : T.length = 24) : whT T [] = [] := by rw [whT_apV hA hl]; rfl
/-- Where the first one is a variable. -/
theorem sol_var {c : Nat} {a b : List Int} {x : Int} {p : List Int} {y : Int} {q : List Int} (hA : Acy T ρ) (hl : T.length = 24) (hU : Unb T c) (gx : GoodS ss (x :: p)) (gy : GoodS ss (y :: q)) (la : lookF T 30 a = some (x :: p)) (lb : lookF T 30 b = some (y :: q)) (hx : x < 0) :
    ∃ bo T', solF ss 1 a b T = some (bo, T') ∧ SolIs ss T c (fun σ => apV σ (x :: p) = apV σ (y :: q)) bo T' := by
  have hbx := lookF_head 30 a x p la hx
  have hp := var_single gx.scn hx
  subst hp
  have h24 := gx.lo x (List.mem_cons_self ..)
  have hv : (-x - 1).toNat < 24 := by omega
  have hxv : -((-x - 1).toNat : Int) - 1 = x := by omega
  unfold solF
  rw [la, lb]
  simp only
  by_cases hyx : y = x
  · rw [if_pos ⟨hx, hyx⟩]
    subst hyx
    have hq := var_single gy.scn hx
    subst hq
    exact ⟨true, T, rfl, ⟨ρ, hA⟩, .inl rfl, fun _ σ _ => ⟨fun h => ⟨h, rfl⟩, fun h => h.1⟩, fun h => by cases h⟩
  · rw [if_neg (fun h => hyx h.2), if_pos hx]
    obtain ⟨b1, d', ho⟩ := occ_is (v := (-x - 1).toNat) hl (y :: q)
    rw [ho]
    cases b1 with
    | true =>
      refine ⟨false, T, rfl, ⟨ρ, hA⟩, .inl rfl, fun h => (by cases h), fun _ σ _ hR hE => ?_⟩
      have hin := occ_yes hA hl hbx 30 _ _ _ ho
      rw [hxv, wh_cons hA hl] at hin
      by_cases hy : y < 0
      · have hq := var_single gy.scn hy
        subst hq
        rw [if_pos hy, im_free (lookF_head 30 b y [] lb hy), wh_nil hA hl, List.append_nil, List.mem_singleton] at hin
        exact hyx hin.symm
      · rw [if_neg hy] at hin
        have hin2 : x ∈ whT T q := by
          rcases List.mem_append.1 hin with h | h
          · rw [List.mem_singleton] at h; omega
          · exact h
        have h1 := apV_in (σ := σ) hin2 hx
        rw [wh_resp hA hl hR] at h1
        rw [apV_one, if_pos hx, show y :: q = [y] ++ q from rfl, apV_append, apV_one, if_neg hy] at hE
        rw [hE, List.length_append, List.length_singleton] at h1
        omega
    | false =>
      have hn := occ_not hA hl ho
      refine ⟨true, _, rfl, acy_set hA hl hv hbx hn, .inr (hU.set hl hv hbx (by simp)), fun _ σ _ => ?_, fun h => by cases h⟩
      rw [resp_set hl hv hbx (by simp), hxv, apV_one, if_pos hx]
theorem zip_eq {σ : Int → List Int} (hσ : GoodV ss σ) : ∀ (P Q : List (List Int)), P.length = Q.length → (∀ p ∈ P, scan ss 1 p = some []) → (∀ p ∈ Q, scan ss 1 p = some []) → (apV σ P.flatten = apV σ Q.flatten ↔ ∀ e ∈ P.zip Q, apV σ e.1 = apV σ e.2)
  | [], [], _, _, _ => ⟨fun _ e he => by simp at he, fun _ => rfl⟩
  | [], _ :: _, h, _, _ => by simp at h
  | _ :: _, [], h, _, _ => by simp at h
  | p :: P, q :: Q, h, hP, hQ => by
    rw [List.flatten_cons, List.flatten_cons, apV_append, apV_append, List.zip_cons_cons]
    have ih := zip_eq hσ P Q (by simpa using h) (fun p hp => hP p (List.mem_cons_of_mem _ hp)) (fun p hp => hQ p (List.mem_cons_of_mem _ hp))
    constructor
    · intro he
      obtain ⟨e1, e2⟩ := scan_cancel (scan_apV hσ p 1 [] (hP p (List.mem_cons_self ..))) (scan_apV hσ q 1 [] (hQ q (List.mem_cons_self ..))) he
      intro e hm
      rcases List.mem_cons.1 hm with rfl | hm
      · exact e1
      · exact ih.1 e2 e hm
    · intro hall
      rw [hall _ (List.mem_cons_self ..), ih.2 fun e he => hall e (List.mem_cons_of_mem _ he)]
/-- The solver finds what it should, for terms that become no longer than N, c variables without a term. -/
def SolOk (ss : Sg) (c N : Nat) : Prop := ∀ (a b : List Int) (T : List (List Int)) (ρ : Nat → Nat), GoodS ss a → GoodS ss b → TGood ss T → T.length = 24 → Acy T ρ → Unb T c → (whT T a).length ≤ N → ∃ m bo T', solF ss m a b T = some (bo, T') ∧ SolIs ss T c (fun σ => apV σ a = apV σ b) bo T'
theorem solL_ok {c N : Nat} (hin : SolOk ss c N) (hout : ∀ N', 1 ≤ c → SolOk ss (c - 1) N') {T0 : List (List Int)} (hU : Unb T0 c) : ∀ (l : List (List Int × List Int)) (T : List (List Int)) (ρ : Nat → Nat), (∀ e ∈ l, GoodS ss e.1 ∧ GoodS ss e.2) → TGood ss T → T.length = 24 → Acy T ρ → (T = T0 ∨ (1 ≤ c ∧ Unb T (c - 1))) → (∀ e ∈ l, (whT T0 e.1).length ≤ N) →
    ∃ m bo T', solL (solF ss m) l T = some (bo, T') ∧ (∃ ρ', Acy T' ρ') ∧ (T' = T0 ∨ (1 ≤ c ∧ Unb T' (c - 1))) ∧ (bo = true → ∀ σ, GoodV ss σ → (Resp σ T' ↔ Resp σ T ∧ ∀ e ∈ l, apV σ e.1 = apV σ e.2)) ∧ (bo = false → ∀ σ, GoodV ss σ → Resp σ T → ¬ ∀ e ∈ l, apV σ e.1 = apV σ e.2)
  | [], T, ρ, _, _, _, hA, hT0, _ => ⟨0, true, T, rfl, ⟨ρ, hA⟩, hT0, fun _ σ _ => ⟨fun h => ⟨h, fun e he => by simp at he⟩, fun h => h.1⟩, fun h => by cases h⟩
  | (p, q) :: l, T, ρ, hg, hT, hl, hA, hT0, hN => by
    obtain ⟨gp, gq⟩ := hg _ (List.mem_cons_self ..)
    have h1 : ∃ m bo T1, solF ss m p q T = some (bo, T1) ∧ (∃ ρ', Acy T1 ρ') ∧ (T1 = T0 ∨ (1 ≤ c ∧ Unb T1 (c - 1))) ∧ (bo = true → ∀ σ, GoodV ss σ → (Resp σ T1 ↔ Resp σ T ∧ apV σ p = apV σ q)) ∧ (bo = false → ∀ σ, GoodV ss σ → Resp σ T → ¬ apV σ p = apV σ q) := by
      rcases hT0 with rfl | ⟨hc, hU1⟩
      · obtain ⟨m, bo, T1, e, k⟩ := hin p q T ρ gp gq hT hl hA hU (hN _ (List.mem_cons_self ..))
        exact ⟨m, bo, T1, e, k.acy, k.unb, k.yes, k.no⟩
      · obtain ⟨m, bo, T1, e, k⟩ := hout _ hc p q T ρ gp gq hT hl hA hU1 (Nat.le_refl _)
        refine ⟨m, bo, T1, e, k.acy, .inr ⟨hc, ?_⟩, k.yes, k.no⟩
        rcases k.unb with rfl | ⟨_, h⟩
        · exact hU1
        · exact h.mono (by omega)
    obtain ⟨m1, b1, T1, e1, ⟨ρ1, hA1⟩, hT1, hy, hno⟩ := h1
    obtain ⟨hG1, hl1⟩ := solF_good m1 p q T b1 T1 gp gq hT e1
    cases b1 with
    | false =>
      refine ⟨m1, false, T1, (by unfold solL; rw [e1]), ⟨ρ1, hA1⟩, hT1, fun h => (by cases h), fun _ σ hσ hR hall => hno rfl σ hσ hR (hall _ (List.mem_cons_self ..))⟩
    | true =>
      obtain ⟨m2, b2, T2, e2, hA2, hT2, hy2, hno2⟩ := solL_ok hin hout hU l T1 ρ1 (fun e he => hg e (List.mem_cons_of_mem _ he)) hG1 (hl1.trans hl) hA1 hT1 (fun e he => hN e (List.mem_cons_of_mem _ he))
      refine ⟨max m1 m2, b2, T2, ?_, hA2, hT2, fun hb σ hσ => ?_, fun hb σ hσ hR hall => ?_⟩
      · unfold solL
        rw [solF_mono (Nat.le_max_left ..) e1]
        exact solL_mono (fun _ _ _ _ h => solF_mono (Nat.le_max_right ..) h) _ _ _ e2
      · rw [hy2 hb σ hσ, hy rfl σ hσ]
        constructor
        · rintro ⟨⟨k1, k2⟩, k3⟩
          refine ⟨k1, fun e he => ?_⟩
          rcases List.mem_cons.1 he with rfl | he
          · exact k2
          · exact k3 e he
        · rintro ⟨k1, k2⟩
          exact ⟨⟨k1, k2 _ (List.mem_cons_self ..)⟩, fun e he => k2 e (List.mem_cons_of_mem _ he)⟩
      · exact hno2 hb σ hσ ((hy rfl σ hσ).2 ⟨hR, hall _ (List.mem_cons_self ..)⟩) (fun e he => hall e (List.mem_cons_of_mem _ he))
theorem apV_part {σ : Int → List Int} {p : List Int} : ∀ {P : List (List Int)}, p ∈ P → (apV σ p).length ≤ (apV σ P.flatten).length
  | [], h => by simp at h
  | q :: P, h => by
    rw [List.flatten_cons, apV_append, List.length_append]
    rcases List.mem_cons.1 h with rfl | h
    · omega
    · have := apV_part (σ := σ) h; omega
theorem sol_step {c N : Nat} (hout : ∀ N', 1 ≤ c → SolOk ss (c - 1) N') (hin : SolOk ss c N) : SolOk ss c (N + 1) := by
  intro a b T ρ ga gb hT hl hA hU hN
  have ane : a ≠ [] := fun e => by have := ga.pos; rw [e] at this; simp at this
  have bne : b ≠ [] := fun e => by have := gb.pos; rw [e] at this; simp at this
  obtain ⟨ra, la⟩ := look_is hA hl ane
  obtain ⟨rb, lb⟩ := look_is hA hl bne
  have gx := lookF_good hT ga la
  have gy := lookF_good hT gb lb
  have ea : ∀ σ, Resp σ T → apV σ ra = apV σ a := fun σ hR => lookF_apV hT hR 30 a _ ga.scn la
  have eb : ∀ σ, Resp σ T → apV σ rb = apV σ b := fun σ hR => lookF_apV hT hR 30 b _ gb.scn lb
  cases ra with
  | nil => have := gx.pos; simp at this
  | cons x p =>
  cases rb with
  | nil => have := gy.pos; simp at this
  | cons y q =>
  by_cases hx : x < 0
  · obtain ⟨bo, T', e, k⟩ := sol_var (c := c) hA hl hU gx gy la lb hx
    exact ⟨1, bo, T', e, k.cong fun σ hR => by rw [ea σ hR, eb σ hR]⟩
  · by_cases hy : y < 0
    · obtain ⟨bo, T', e, k⟩ := sol_var (c := c) hA hl hU gy gx (look_self fun h => lookF_head 30 b y q lb h) (look_self fun h => absurd h hx) hy
      refine ⟨2, bo, T', ?_, k.cong fun σ hR => ?_⟩
      · unfold solF
        rw [la, lb]
        simp only
        rw [if_neg (fun h => hx h.1), if_neg hx, if_pos hy]
        exact e
      · rw [ea σ hR, eb σ hR]
        exact ⟨fun h => h.symm, fun h => h.symm⟩
    · by_cases hxy : x = y
      · subst hxy
        have hlx : (whT T (x :: p)).length ≤ N + 1 := by rw [look_wh hA hl hT ga.scn la]; exact hN
        rw [wh_cons hA hl, if_neg hx, List.length_append, List.length_singleton] at hlx
        have fp := parts_all gx.scn
        have fq := parts_all gy.scn
        obtain ⟨m, bo, T', e, k1, k2, k3, k4⟩ := solL_ok hin hout hU ((partsS ss (x :: p)).zip (partsS ss (x :: q))) T ρ (fun e he => by
          obtain ⟨i1, i2⟩ := List.of_mem_zip he
          exact ⟨parts_good gx i1, parts_good gy i2⟩) hT hl hA (.inl rfl) (fun e he => by
          obtain ⟨i1, i2⟩ := List.of_mem_zip he
          have h1 := apV_part (σ := imT T) i1
          rw [fp, ← whT_apV hA hl, ← whT_apV hA hl] at h1
          omega)
        have heq : ∀ σ, GoodV ss σ → Resp σ T → ((∀ e ∈ (partsS ss (x :: p)).zip (partsS ss (x :: q)), apV σ e.1 = apV σ e.2) ↔ apV σ a = apV σ b) := fun σ hσ hR => by
          rw [← zip_eq hσ _ _ (by rw [partsS_len, partsS_len]; rfl) (fun r hr => (parts_good gx hr).scn) (fun r hr => (parts_good gy hr).scn), fp, fq, ← ea σ hR, ← eb σ hR, show x :: p = [x] ++ p from rfl, show x :: q = [x] ++ q from rfl, apV_append, apV_append, apV_one, if_neg hx]
          exact ⟨fun h => by rw [h], fun h => List.append_cancel_left h⟩
        refine ⟨m + 1, bo, T', ?_, k1, k2, fun hb σ hσ => ?_, fun hb σ hσ hR hE => k4 hb σ hσ hR ((heq σ hσ hR).2 hE)⟩
        · unfold solF
          rw [la, lb]
          simp only
          rw [if_neg (fun h => hx h.1), if_neg hx, if_neg hx, if_pos trivial]
          exact e
        · rw [k3 hb σ hσ]
          exact ⟨fun h => ⟨h.1, (heq σ hσ h.1).1 h.2⟩, fun h => ⟨h.1, (heq σ hσ h.1).2 h.2⟩⟩
      · refine ⟨1, false, T, ?_, ⟨ρ, hA⟩, .inl rfl, fun h => (by cases h), fun _ σ _ hR hE => ?_⟩
        · unfold solF
          rw [la, lb]
          simp only
          rw [if_neg (fun h => hx h.1), if_neg hx, if_neg hy, if_neg hxy]
        · rw [← ea σ hR, ← eb σ hR, show x :: p = [x] ++ p from rfl, show y :: q = [y] ++ q from rfl, apV_append, apV_append, apV_one, apV_one, if_neg hx, if_neg hy] at hE
          exact hxy (List.cons.inj hE).1
theorem sol_main : ∀ c N, SolOk ss c N := by
  have key : ∀ n c, c < n → ∀ N, SolOk ss c N := by
    intro n
    induction n with
    | zero => intro c h; omega
    | succ n ih =>
      intro c hc N
      induction N with
      | zero =>
        intro a b T ρ ga gb hT hl hA hU hN
        have := scan_len (wh_scan hA hl hT ga.scn)
        omega
      | succ N ihN => exact sol_step (fun N' h1 => ih (c - 1) (by omega) N') ihN
  exact fun c N => key (c + 1) c (by omega) N
theorem noTo_get (v : Nat) : noTo.getD v [] = [] := by
  unfold noTo
  rw [List.getD_eq_getElem?_getD, List.getElem?_replicate]
  split <;> rfl
/-- What the solver finds of two terms, with nothing put before. -/
theorem sol_top {a b : List Int} (ga : GoodS ss a) (gb : GoodS ss b) : ∃ m bo T' ρ', solF ss m a b noTo = some (bo, T') ∧ TGood ss T' ∧ T'.length = 24 ∧ Acy T' ρ' ∧ (bo = true → ∀ σ, GoodV ss σ → (Resp σ T' ↔ apV σ a = apV σ b)) ∧ (bo = false → ∀ σ, GoodV ss σ → apV σ a ≠ apV σ b) := by
  have hA : Acy noTo (fun _ => 0) := fun v hv => absurd (noTo_get v) hv
  have hl : noTo.length = 24 := by decide
  have hR : ∀ σ, Resp σ noTo := fun σ v hv => absurd (noTo_get v) hv
  obtain ⟨m, bo, T', e, k⟩ := sol_main (ss := ss) 24 _ a b noTo _ ga gb (noTo_good ss) hl hA ⟨List.range 24, fun v hv _ => List.mem_range.2 hv, by simp⟩ (Nat.le_refl _)
  obtain ⟨ρ', hA'⟩ := k.acy
  obtain ⟨h1, h2⟩ := solF_good m a b noTo bo T' ga gb (noTo_good ss) e
  refine ⟨m, bo, T', ρ', e, h1, h2.trans hl, hA', fun hb σ hσ => ?_, fun hb σ hσ => k.no hb σ hσ (hR σ)⟩
  rw [k.yes hb σ hσ]
  exact ⟨fun h => h.2, fun h => ⟨hR σ, h⟩⟩
end

end Go.Proofs.YtapcdhagkbfccaaGreat

/- What the program's unification finds is a unifier: the plain mathematics. -/
namespace Go.Proofs.YtapcdhagkbfccaaGreat
open Go.RowKit

section
variable {ss : Sg} {F : Fd} {R : Nat}
/-- A node becomes a term of finite depth. -/
def FinD (F : Fd) (R : Nat) : Nat → Nat → Prop
  | 0, _ => False
  | n + 1, k => ∃ r us, rootS F.prox R k = some r ∧ F.args[r]? = some us ∧ ∀ u ∈ us, FinD F R n u
/-- What it becomes. -/
def tmF (F : Fd) (R : Nat) : Nat → Nat → List Int
  | 0, _ => []
  | n + 1, k => match rootS F.prox R k with
    | none => []
    | some r => F.tops.getD r 0 :: (F.args.getD r []).flatMap (tmF F R n)
theorem FinD.mono : ∀ {n n' k : Nat}, n ≤ n' → FinD F R n k → FinD F R n' k
  | 0, n', k, _, h => h.elim
  | n + 1, 0, k, h, _ => by omega
  | n + 1, n' + 1, k, hn, h => by
    obtain ⟨r, us, h1, h2, h3⟩ := h
    exact ⟨r, us, h1, h2, fun u hu => FinD.mono (by omega) (h3 u hu)⟩
theorem flat_same {α : Type} {us : List α} {f g : α → List Int} (h : ∀ u ∈ us, f u = g u) : us.flatMap f = us.flatMap g := by
  induction us with
  | nil => rfl
  | cons u us ih => rw [List.flatMap_cons, List.flatMap_cons, h u (List.mem_cons_self ..), ih fun v hv => h v (List.mem_cons_of_mem _ hv)]
theorem tm_same : ∀ {n n' k : Nat}, n ≤ n' → FinD F R n k → tmF F R n' k = tmF F R n k
  | 0, n', k, _, h => h.elim
  | n + 1, 0, k, h, _ => by omega
  | n + 1, n' + 1, k, hn, h => by
    obtain ⟨r, us, h1, h2, h3⟩ := h
    unfold tmF
    rw [h1]
    simp only
    rw [show F.args.getD r [] = us by rw [List.getD_eq_getElem?_getD, h2]; rfl]
    congr 1
    exact flat_same fun u hu => tm_same (by omega) (h3 u hu)
open Classical in
/-- What a node becomes, if it becomes a term. -/
noncomputable def nuF (F : Fd) (R : Nat) (k : Nat) : List Int := if h : ∃ n, FinD F R n k then tmF F R h.choose k else [-1]
theorem nu_tm {n k : Nat} (h : FinD F R n k) : nuF F R k = tmF F R n k := by
  have h2 : ∃ n, FinD F R n k := ⟨n, h⟩
  unfold nuF
  rw [dif_pos h2]
  have hc := h2.choose_spec
  rcases Nat.le_total n h2.choose with hn | hn
  · exact tm_same hn h
  · exact (tm_same hn hc).symm
theorem nu_node {k r : Nat} {us : List Nat} {x : Int} (h : ∃ n, FinD F R n k) (hr : rootS F.prox R k = some r) (hu : F.args[r]? = some us) (hx : F.tops[r]? = some x) : nuF F R k = x :: us.flatMap (nuF F R) ∧ ∀ u ∈ us, ∃ n, FinD F R n u := by
  obtain ⟨n, h⟩ := h
  rw [nu_tm h]
  cases n with
  | zero => exact h.elim
  | succ n =>
    obtain ⟨r', us', h1, h2, h3⟩ := h
    rw [hr] at h1
    cases h1
    rw [hu] at h2
    cases h2
    refine ⟨?_, fun u hu => ⟨n, h3 u hu⟩⟩
    unfold tmF
    rw [hr]
    simp only
    rw [show F.args.getD r [] = us by rw [List.getD_eq_getElem?_getD, hu]; rfl, show F.tops.getD r 0 = x by rw [List.getD_eq_getElem?_getD, hx]; rfl]
    congr 1
    exact flat_same fun u hu => (nu_tm (h3 u hu)).symm
theorem fin_root {k j r : Nat} (h1 : rootS F.prox R k = some r) (h2 : rootS F.prox R j = some r) {n : Nat} (h : FinD F R n k) : FinD F R n j := by
  cases n with
  | zero => exact h.elim
  | succ n =>
    obtain ⟨r', us, h3, h4, h5⟩ := h
    rw [h1] at h3
    cases h3
    exact ⟨r, us, h2, h4, h5⟩
theorem tm_root {k j r : Nat} (h1 : rootS F.prox R k = some r) (h2 : rootS F.prox R j = some r) (n : Nat) : tmF F R n k = tmF F R n j := by
  cases n with
  | zero => rfl
  | succ n => unfold tmF; rw [h1, h2]
theorem nu_root {k j r : Nat} (h1 : rootS F.prox R k = some r) (h2 : rootS F.prox R j = some r) : nuF F R k = nuF F R j := by
  by_cases h : ∃ n, FinD F R n k
  · obtain ⟨n, h⟩ := h
    rw [nu_tm h, nu_tm (fin_root h1 h2 h), tm_root h1 h2]
  · have h' : ¬ ∃ n, FinD F R n j := fun ⟨n, hj⟩ => h ⟨n, fin_root h2 h1 hj⟩
    unfold nuF
    rw [dif_neg h, dif_neg h']
theorem fin_max : ∀ (us : List Nat), (∀ u ∈ us, ∃ n, FinD F R n u) → ∃ n, ∀ u ∈ us, FinD F R n u
  | [], _ => ⟨0, fun u hu => by simp at hu⟩
  | v :: us, h => by
    obtain ⟨n1, h1⟩ := h v (List.mem_cons_self ..)
    obtain ⟨n2, h2⟩ := fin_max us fun u hu => h u (List.mem_cons_of_mem _ hu)
    refine ⟨max n1 n2, fun u hu => ?_⟩
    rcases List.mem_cons.1 hu with rfl | hu
    · exact h1.mono (Nat.le_max_left ..)
    · exact (h2 u hu).mono (Nat.le_max_right ..)
/-- The root, by any rounds that are enough. -/
theorem root_by {prox : List Nat} (hR : RootsIn R prox) {m k r : Nat} (h : rootS prox m k = some r) : rootS prox R k = some r := by
  obtain ⟨hk, _, _⟩ := rootS_lt h
  obtain ⟨r2, h2⟩ := hR k hk
  have e1 := rootS_mono (Nat.le_max_left m R) h
  have e2 := rootS_mono (Nat.le_max_right m R) h2
  rw [e1] at e2
  cases e2
  exact h2
theorem root_self {prox : List Nat} (hR : RootsIn R prox) {m k r : Nat} (h : rootS prox m k = some r) : rootS prox R r = some r := by
  obtain ⟨_, hr, hp⟩ := rootS_lt h
  refine root_by hR (m := 1) ?_
  unfold rootS
  rw [hp]
  simp
/-- Where nothing comes again, all becomes terms. -/
theorem again_fin (hR : RootsIn R F.prox) : ∀ (m k : Nat) (i d i' d' : List Bool), againF F m k i d = some (false, i', d') → (∀ j : Nat, d[j]? = some true → ∃ n, FinD F R n j) → (∃ n, FinD F R n k) ∧ ∀ j : Nat, d'[j]? = some true → ∃ n, FinD F R n j
  | 0, k, i, d, i', d', h, _ => by cases h
  | m + 1, k, i, d, i', d', h, hd => by
    unfold againF at h
    cases hr : rootS F.prox m k with
    | none => rw [hr] at h; cases h
    | some r =>
    rw [hr] at h
    simp only at h
    have hk := root_by hR hr
    have hrr := root_self hR hr
    cases h1 : i[r]? with
    | none => rw [h1] at h; simp at h
    | some bi =>
    cases h2 : d[r]? with
    | none => rw [h1, h2] at h; simp at h
    | some bd =>
    cases h3 : F.args[r]? with
    | none => rw [h1, h2, h3] at h; simp at h
    | some us =>
    rw [h1, h2, h3] at h
    simp only at h
    split at h
    · rename_i hb
      cases h
      have hbd : bd = true := by simpa using hb
      subst hbd
      obtain ⟨n, hn⟩ := hd r h2
      exact ⟨⟨n, fin_root hrr hk hn⟩, hd⟩
    · have key : ∀ (us : List Nat) (i0 d0 i1 d1 : List Bool), (∀ j : Nat, d0[j]? = some true → ∃ n, FinD F R n j) → loopA (againF F m) us i0 d0 = some (false, i1, d1) → (∀ u ∈ us, ∃ n, FinD F R n u) ∧ ∀ j : Nat, d1[j]? = some true → ∃ n, FinD F R n j := by
        intro us
        induction us with
        | nil => intro i0 d0 i1 d1 h0 e; cases e; exact ⟨fun u hu => by simp at hu, h0⟩
        | cons u us ih =>
          intro i0 d0 i1 d1 h0 e
          unfold loopA at e
          cases e1 : againF F m u i0 d0 with
          | none => rw [e1] at e; cases e
          | some q =>
            obtain ⟨bq, iq, dq⟩ := q
            rw [e1] at e
            cases bq with
            | true => cases e
            | false =>
              obtain ⟨k1, k2⟩ := again_fin hR m u i0 d0 iq dq e1 h0
              obtain ⟨k3, k4⟩ := ih iq dq i1 d1 k2 e
              refine ⟨fun v hv => ?_, k4⟩
              rcases List.mem_cons.1 hv with rfl | hv
              · exact k1
              · exact k3 v hv
      cases e : loopA (againF F m) us (i.set r true) d with
      | none => rw [e] at h; simp at h
      | some q =>
        obtain ⟨bq, iq, dq⟩ := q
        rw [e] at h
        cases bq with
        | true => cases h
        | false =>
          cases h
          obtain ⟨k1, k2⟩ := key us _ _ _ _ hd e
          obtain ⟨n, hn⟩ := fin_max us k1
          have hfr : FinD F R (n + 1) r := ⟨r, us, hrr, h3, hn⟩
          refine ⟨⟨n + 1, fin_root hrr hk hfr⟩, fun j hj => ?_⟩
          rcases set_get? hj with ⟨rfl, _, _⟩ | ⟨_, hj⟩
          · exact ⟨n + 1, hfr⟩
          · exact k2 j hj
theorem endless_fin (hR : RootsIn R F.prox) {m k : Nat} (h : endlessF F m k = some false) : ∃ n, FinD F R n k := by
  unfold endlessF at h
  rw [Option.map_eq_some_iff] at h
  obtain ⟨⟨b, i', d'⟩, h1, h2⟩ := h
  simp only at h2
  subst h2
  refine (again_fin hR m k _ _ i' d' h1 fun j hj => ?_).1
  rw [List.getElem?_replicate] at hj
  split at hj <;> simp at hj
/-- What stands for each other: roots have the tops and the arguments of those for which they stand, as far as a naming q tells them apart; the pairs of S are one. -/
def Cgr (S st : List (Nat × Nat)) (F : Fd) : Prop := ∀ q : Nat → Nat, (∀ k p, F.prox[k]? = some p → q k = q p) → (∀ e ∈ st, q e.1 = q e.2) →
  (∀ e ∈ S, q e.1 = q e.2) ∧ ∀ (j : Nat) (x : Int) (us : List Nat), F.tops[j]? = some x → 0 ≤ x → F.args[j]? = some us → ∀ M r, rootS F.prox M j = some r → F.tops[r]? = some x ∧ ∃ us', F.args[r]? = some us' ∧ us'.map q = us.map q
theorem root_q {prox : List Nat} {q : Nat → Nat} (hq : ∀ k p, prox[k]? = some p → q k = q p) : ∀ {m k r : Nat}, rootS prox m k = some r → q k = q r
  | 0, k, r, h => by cases h
  | m + 1, k, r, h => by
    unfold rootS at h
    cases e : prox[k]? with
    | none => rw [e] at h; cases h
    | some p =>
      rw [e] at h
      simp only at h
      split at h
      · cases h; rfl
      · rw [hq k p e]; exact root_q hq h
theorem q_setp {prox : List Nat} {q : Nat → Nat} {x y : Nat} (hx : prox[x]? = some x) (hq : ∀ k p, (prox.set x y)[k]? = some p → q k = q p) : (∀ k p, prox[k]? = some p → q k = q p) ∧ q x = q y := by
  have hxl := (List.getElem?_eq_some_iff.1 hx).1
  refine ⟨fun k p hk => ?_, hq x y (by rw [List.getElem?_set, if_pos rfl, if_pos hxl])⟩
  by_cases e : k = x
  · subst e
    rw [hx] at hk
    cases hk
    rfl
  · exact hq k p (by rw [List.getElem?_set, if_neg (Ne.symm e)]; exact hk)
theorem root_setp {prox : List Nat} {x y : Nat} (hR : ∃ R, RootsIn R prox) (hx : prox[x]? = some x) (hy : prox[y]? = some y) (hxy : x ≠ y) {M j r : Nat} (h : rootS (prox.set x y) M j = some r) : ∃ M0 r0, rootS prox M0 j = some r0 ∧ r = if r0 = x then y else r0 := by
  obtain ⟨R, hR⟩ := hR
  obtain ⟨hj, _, _⟩ := rootS_lt h
  rw [List.length_set] at hj
  obtain ⟨r0, h0⟩ := hR j hj
  refine ⟨R, r0, h0, ?_⟩
  have e1 := rootS_mono (Nat.le_max_left (R + 1) M) (rootS_setp hx hy hxy h0)
  have e2 := rootS_mono (Nat.le_max_right (R + 1) M) h
  rw [e1] at e2
  exact (Option.some.inj e2).symm
theorem solve_cgr (S : List (Nat × Nat)) : ∀ (m : Nat) (st : List (Nat × Nat)) (F G : Fd), F.Ok → ArN ss F → (∃ R, RootsIn R F.prox) → solveF m st F = some (true, G) → Cgr S st F → Cgr S [] G ∧ SameG F G ∧ (∃ R, RootsIn R G.prox)
  | 0, st, F, G, _, _, _, h, _ => by cases h
  | m + 1, st, F, G, hF, hA, hR, h, hC => by
    unfold solveF at h
    cases hl : st.getLast? with
    | none =>
      rw [hl] at h
      cases h
      have : st = [] := List.getLast?_eq_none_iff.1 hl
      subst this
      exact ⟨hC, SameG.refl _, hR⟩
    | some lr =>
      obtain ⟨l, r⟩ := lr
      rw [hl] at h
      simp only at h
      have hsplit : ∀ e ∈ st, e ∈ st.dropLast ∨ e = (l, r) := fun e he => by
        have hne : st ≠ [] := List.ne_nil_of_mem he
        have h1 := List.dropLast_concat_getLast hne
        rw [List.getLast?_eq_some_getLast hne] at hl
        rw [Option.some.inj hl] at h1
        rw [← h1] at he
        rcases List.mem_append.1 he with he | he
        · exact .inl he
        · exact .inr (List.mem_singleton.1 he)
      cases h1 : rootS F.prox m l with
      | none => rw [h1] at h; cases h
      | some x =>
      cases h2 : rootS F.prox m r with
      | none => rw [h1, h2] at h; cases h
      | some y =>
      rw [h1, h2] at h
      simp only at h
      obtain ⟨_, hx, ex⟩ := rootS_lt h1
      obtain ⟨_, hy, ey⟩ := rootS_lt h2
      rw [hF.pl] at hx hy
      split at h
      · rename_i hxy
        subst hxy
        refine solve_cgr S m _ F G hF hA hR h fun q hq hs => hC q hq fun e he => ?_
        rcases hsplit e he with he | rfl
        · exact hs e he
        · show q l = q r
          rw [root_q hq h1, root_q hq h2]
      · rename_i hxy
        rw [List.getElem?_eq_getElem hx, List.getElem?_eq_getElem hy] at h
        simp only at h
        have step : ∀ (x y : Nat) (st2 : List (Nat × Nat)), x < F.tops.length → y < F.tops.length → F.prox[x]? = some x → F.prox[y]? = some y → x ≠ y → (∀ q : Nat → Nat, (∀ k p, F.prox[k]? = some p → q k = q p) → q x = q y → q l = q r) →
            (∀ q : Nat → Nat, (∀ e ∈ st2, q e.1 = q e.2) → ∀ e ∈ st.dropLast, q e.1 = q e.2) → (∀ q : Nat → Nat, (∀ e ∈ st2, q e.1 = q e.2) → ∀ (x1 : Int) (us : List Nat), F.tops[x]? = some x1 → 0 ≤ x1 → F.args[x]? = some us → F.tops[y]? = some x1 ∧ ∃ us', F.args[y]? = some us' ∧ us'.map q = us.map q) →
            solveF m st2 { F with prox := F.prox.set x y } = some (true, G) → Cgr S [] G ∧ SameG F G ∧ (∃ R, RootsIn R G.prox) := by
          intro x y st2 hx hy ex ey hne hlr hst2 hargs h
          obtain ⟨R0, hR0⟩ := hR
          obtain ⟨g1, g2, g3⟩ := solve_cgr S m st2 { F with prox := F.prox.set x y } G (hF.setp hy) hA ⟨R0 + 1, hR0.setp ex ey hne⟩ h (fun q hq hs => by
            obtain ⟨hq0, hqxy⟩ := q_setp ex hq
            have hlr' := hlr q hq0 hqxy
            obtain ⟨c1, c2⟩ := hC q hq0 (fun e he => by
              rcases hsplit e he with he | rfl
              · exact hst2 q hs e he
              · exact hlr')
            refine ⟨c1, fun j x1 us hj h0 hu M r1 hr => ?_⟩
            obtain ⟨M0, r0, hr0, rfl⟩ := root_setp ⟨R0, hR0⟩ ex ey hne hr
            obtain ⟨d1, us', d2, d3⟩ := c2 j x1 us hj h0 hu M0 r0 hr0
            split
            · rename_i e
              subst e
              obtain ⟨e1, us2, e2, e3⟩ := hargs q hs x1 us' d1 h0 d2
              exact ⟨e1, us2, e2, e3.trans d3⟩
            · exact ⟨d1, us', d2, d3⟩)
          exact ⟨g1, g2.set, g3⟩
        by_cases hty : F.tops[y] < 0
        · simp only [hty, if_true] at h
          refine step y x _ hy hx ey ex (Ne.symm hxy) (fun q hq he => by rw [root_q hq h1, root_q hq h2, he]) (fun q hs => hs) (fun q _ x1 us hj h0 _ => ?_) h
          rw [List.getElem?_eq_getElem hy] at hj
          cases hj
          omega
        · simp only [hty, if_false] at h
          split at h
          · rename_i htx
            refine step x y _ hx hy ex ey hxy (fun q hq he => by rw [root_q hq h1, root_q hq h2, he]) (fun q hs => hs) (fun q _ x1 us hj h0 _ => ?_) h
            rw [List.getElem?_eq_getElem hx] at hj
            cases hj
            omega
          · rename_i htx
            have hxa : x < F.args.length := by rw [hF.al]; exact hx
            have hya : y < F.args.length := by rw [hF.al]; exact hy
            split at h
            · rename_i e1
              rw [List.getElem?_eq_getElem hxa, List.getElem?_eq_getElem hya] at h
              simp only at h
              obtain ⟨s1, _⟩ := hA x _ _ (List.getElem?_eq_getElem hx) (List.getElem?_eq_getElem hxa)
              obtain ⟨t1, _⟩ := hA y _ _ (List.getElem?_eq_getElem hy) (List.getElem?_eq_getElem hya)
              split at h
              · refine step x y _ hx hy ex ey hxy (fun q hq he => by rw [root_q hq h1, root_q hq h2, he]) (fun q hs e he => hs e (List.mem_append_left _ he)) (fun q hs x1 us hj h0 hu => ?_) h
                rw [List.getElem?_eq_getElem hx] at hj
                cases hj
                rw [List.getElem?_eq_getElem hxa] at hu
                cases hu
                refine ⟨by rw [List.getElem?_eq_getElem hy, e1], _, List.getElem?_eq_getElem hya, ?_⟩
                have hlen : F.args[x].length = F.args[y].length := by rw [s1, t1, e1]
                have hz : ∀ e ∈ F.args[x].zip F.args[y], q e.1 = q e.2 := fun e he => hs e (List.mem_append_right _ he)
                have zipq : ∀ (a b : List Nat), a.length = b.length → (∀ e ∈ a.zip b, q e.1 = q e.2) → b.map q = a.map q := by
                  intro a
                  induction a with
                  | nil => intro b hb _; cases b with
                    | nil => rfl
                    | cons _ _ => simp at hb
                  | cons u a ih => intro b hb hz; cases b with
                    | nil => simp at hb
                    | cons v b =>
                      rw [List.map_cons, List.map_cons, ih b (by simpa using hb) (fun e he => hz e (by rw [List.zip_cons_cons]; exact List.mem_cons_of_mem _ he)), hz (u, v) (by rw [List.zip_cons_cons]; exact List.mem_cons_self ..)]
                exact zipq _ _ hlen hz
              · cases h
            · cases h
end
end Go.Proofs.YtapcdhagkbfccaaGreat

/- What the program's unification finds is the most general one: the plain mathematics. -/
namespace Go.Proofs.YtapcdhagkbfccaaGreat
open Go.RowKit

section
variable {ss : Sg} {G : Fd} {R : Nat}
theorem flat_scan {f : Nat → List Int} : ∀ (us : List Nat), (∀ u ∈ us, scan ss 1 (f u) = some []) → scan ss us.length (us.flatMap f) = some []
  | [], _ => by rw [List.length_nil, scan_zero]; rfl
  | u :: us, h => by
    rw [List.flatMap_cons, List.length_cons, Nat.add_comm, scan_add, scan_append ss _ _ _ _ (h u (List.mem_cons_self ..))]
    exact flat_scan us fun v hv => h v (List.mem_cons_of_mem _ hv)
theorem nu_scan (hA : ArN ss G) (hal : G.args.length = G.tops.length) (k : Nat) : scan ss 1 (nuF G R k) = some [] := by
  have key : ∀ n k, FinD G R n k → scan ss 1 (nuF G R k) = some [] := by
    intro n
    induction n with
    | zero => intro k h; exact h.elim
    | succ n ih =>
      intro k h
      obtain ⟨r, us, h1, h2, h3⟩ := id h
      have hr : r < G.tops.length := by rw [← hal]; exact (List.getElem?_eq_some_iff.1 h2).1
      have hx := List.getElem?_eq_getElem hr
      rw [(nu_node ⟨_, h⟩ h1 h2 hx).1]
      simp only [scan]
      rw [Nat.zero_add, ← (hA r _ us hx h2).1]
      exact flat_scan us fun u hu => ih u (h3 u hu)
  by_cases h : ∃ n, FinD G R n k
  · obtain ⟨n, h⟩ := h
    exact key n k h
  · unfold nuF
    rw [dif_neg h]
    exact scan_neg (by omega)
theorem nu_pos (hA : ArN ss G) (hal : G.args.length = G.tops.length) (k : Nat) : 1 ≤ (nuF G R k).length := scan_len (nu_scan hA hal k)
/-- What is written is what the node becomes. -/
theorem write_nu (hA : ArN ss G) (hal : G.args.length = G.tops.length) (hR : RootsIn R G.prox) : ∀ (m k : Nat) (t t' : List Int) (b : Bool), writeF G m k t = some (b, t') → t.length ≤ 60 → (∃ n, FinD G R n k) → (b = true → t' = t ++ nuF G R k) ∧ (b = false → 60 < t.length + (nuF G R k).length)
  | 0, k, t, t', b, h, _, _ => by cases h
  | m + 1, k, t, t', b, h, h60, hf => by
    unfold writeF at h
    cases hr : rootS G.prox m k with
    | none => rw [hr] at h; cases h
    | some r =>
    rw [hr] at h
    simp only at h
    have hk := root_by hR hr
    have hlen := nu_pos (R := R) hA hal k
    split at h
    · rename_i e60
      cases h
      exact ⟨fun hb => (by cases hb), fun _ => by omega⟩
    · rename_i e60
      cases h1 : G.tops[r]? with
      | none => rw [h1] at h; cases h
      | some x =>
      cases h2 : G.args[r]? with
      | none => rw [h1, h2] at h; cases h
      | some us =>
      rw [h1, h2] at h
      simp only at h
      obtain ⟨n1, n2⟩ := nu_node hf hk h2 h1
      have key : ∀ (us : List Nat) (t0 t1 : List Int) (b1 : Bool), (∀ u ∈ us, ∃ n, FinD G R n u) → t0.length ≤ 60 → loopW (writeF G m) us t0 = some (b1, t1) → (b1 = true → t1 = t0 ++ us.flatMap (nuF G R)) ∧ (b1 = false → 60 < t0.length + (us.flatMap (nuF G R)).length) := by
        intro us
        induction us with
        | nil => intro t0 t1 b1 _ _ e; cases e; exact ⟨fun _ => by simp, fun hb => (by cases hb)⟩
        | cons u us ih =>
          intro t0 t1 b1 hu hl0 e
          unfold loopW at e
          cases e1 : writeF G m u t0 with
          | none => rw [e1] at e; cases e
          | some q =>
            obtain ⟨bq, tq⟩ := q
            obtain ⟨k1, k2⟩ := write_nu hA hal hR m u t0 tq bq e1 hl0 (hu u (List.mem_cons_self ..))
            rw [e1] at e
            rw [List.flatMap_cons, List.length_append]
            cases bq with
            | false =>
              cases e
              exact ⟨fun hb => (by cases hb), fun _ => by have := k2 rfl; omega⟩
            | true =>
              have htq := writeF_len m u t0 true _ e1 hl0
              obtain rfl := k1 rfl
              obtain ⟨j1, j2⟩ := ih _ t1 b1 (fun v hv => hu v (List.mem_cons_of_mem _ hv)) htq e
              refine ⟨fun hb => by rw [j1 hb, List.append_assoc], fun hb => ?_⟩
              have h3 := j2 hb
              rw [List.length_append] at h3
              omega
      have ht1 : (t ++ [x]).length ≤ 60 := by rw [List.length_append, List.length_singleton]; omega
      obtain ⟨k1, k2⟩ := key us _ _ _ n2 ht1 h
      rw [n1]
      refine ⟨fun hb => by rw [k1 hb, List.append_assoc]; rfl, fun hb => ?_⟩
      have := k2 hb
      rw [List.length_append, List.length_singleton] at this
      rw [List.length_cons]
      omega
/-- What is found is the most general. -/
theorem nu_gen {ν : Nat → List Int} {τ : Int → List Int} (hV : Val ss G ν) (hal : G.args.length = G.tops.length) (hτ : ∀ (j : Nat) (x : Int), G.tops[j]? = some x → x < 0 → τ x = ν j) : ∀ n k, FinD G R n k → apV τ (nuF G R k) = ν k := by
  intro n
  induction n with
  | zero => intro k h; exact h.elim
  | succ n ih =>
    intro k h
    obtain ⟨r, us, h1, h2, h3⟩ := id h
    have hr : r < G.tops.length := by rw [← hal]; exact (List.getElem?_eq_some_iff.1 h2).1
    have hx := List.getElem?_eq_getElem hr
    rw [(nu_node ⟨_, h⟩ h1 h2 hx).1, rootS_val hV.prx h1, show G.tops[r] :: us.flatMap (nuF G R) = [G.tops[r]] ++ us.flatMap (nuF G R) from rfl, apV_append, apV_one]
    have hfl : ∀ us : List Nat, (∀ u ∈ us, FinD G R n u) → apV τ (us.flatMap (nuF G R)) = us.flatMap ν := by
      intro us
      induction us with
      | nil => intro _; rfl
      | cons u us ihu =>
        intro hu
        rw [List.flatMap_cons, List.flatMap_cons, apV_append, ih u (hu u (List.mem_cons_self ..)), ihu fun v hv => hu v (List.mem_cons_of_mem _ hv)]
    by_cases h0 : 0 ≤ G.tops[r]
    · rw [if_neg (by omega), hfl us h3, (hV.sym r _ us hx h2 h0).1]
      rfl
    · have hu := hV.var r _ us hx h2 (by omega)
      subst hu
      rw [if_pos (by omega), hτ r _ hx (by omega)]
      simp [apV]
theorem root_pid {prox : List Nat} (hp : ∀ k p : Nat, prox[k]? = some p → p = k) {M j r : Nat} (h : rootS prox M j = some r) : r = j := by
  cases M with
  | zero => cases h
  | succ M =>
    unfold rootS at h
    cases e : prox[j]? with
    | none => rw [e] at h; cases h
    | some p =>
      rw [e] at h
      simp only at h
      rw [if_pos (hp j p e)] at h
      exact (Option.some.inj h).symm
/-- What becomes of each variable. -/
noncomputable def sgG (G : Fd) (R : Nat) (z : Int) : List Int := match vget G.vars z with | some k => nuF G R k | none => [z]
/-- All that is known where the program's unification says yes. -/
structure UniIs (ss : Sg) (sh : Int) (za zb : List Int) (k : Nat) (G : Fd) (R : Nat) : Prop where
  rts : RootsIn R G.prox
  al : G.args.length = G.tops.length
  arn : ArN ss G
  fin : ∃ n, FinD G R n k
  good : GoodV ss (sgG G R)
  one : apV (sft (sgG G R) 0) za = nuF G R k
  two : apV (sft (sgG G R) sh) zb = nuF G R k
  vt : ∀ (z : Int) (j : Nat), vget G.vars z = some j → G.tops[j]? = some z ∧ j < G.prox.length
  tv : ∀ (j : Nat) (z : Int), G.tops[j]? = some z → z < 0 → vget G.vars z = some j ∧ G.args[j]? = some []
  ina : ∀ z ∈ za, z < 0 → ∃ j, vget G.vars z = some j ∧ ∃ n, FinD G R n j
  inb : ∀ z ∈ zb, z < 0 → ∃ j, vget G.vars (z - sh) = some j ∧ ∃ n, FinD G R n j
/-- The program's unification, where it says yes: what both terms become. -/
theorem unite_all {sh : Int} {za zb : List Int} {k : Nat} (hsh : 0 ≤ sh) (ha : valOk ss za = true) (hb : valOk ss zb = true) (h : uniteF ss sh 10000 za zb Fd.none = some (k, true, G)) :
    ∃ R, UniIs ss sh za zb k G R := by
  have har := sigOk_ar (valOk_sig ha)
  obtain ⟨ν, h1, h2, h3, h4, hk1, hk2, hlen⟩ := both_val (σ := fun z => if z < 0 then [z] else [-1]) hsh ha hb (fun z hz => by
    show scan ss 1 (if z < 0 then [z] else [-1]) = some []
    rw [if_pos hz]; exact scan_neg hz)
  have hV := h1.val
  unfold uniteF at h
  obtain ⟨F, hFF⟩ : ∃ F, (addT ss sh zb (addT ss 0 za Fd.none).2.2).2.2 = F := ⟨_, rfl⟩
  obtain ⟨k1, hkk1⟩ : ∃ k1, (addT ss 0 za Fd.none).1 = k1 := ⟨_, rfl⟩
  obtain ⟨k2, hkk2⟩ : ∃ k2, (addT ss sh zb (addT ss 0 za Fd.none).2.2).1 = k2 := ⟨_, rfl⟩
  rw [hFF, hkk1, hkk2] at h
  rw [hFF] at h1 h2 hk1 hk2 hlen hV
  rw [hkk1] at h3 hk1
  rw [hkk2] at h4 hk2
  clear hFF hkk1 hkk2
  have hA : ArN ss F := by
    intro k x us hx hu
    by_cases h0 : 0 ≤ x
    · obtain ⟨_, e⟩ := hV.sym k x us hx hu h0
      exact ⟨e, by rw [e]; exact arOf_le har x⟩
    · have e := hV.var k x us hx hu (by omega)
      subst e
      rw [arOf_neg ss (by omega)]
      exact ⟨rfl, by simp⟩
  have hR0 : RootsIn 1 F.prox := fun k hk => by
    refine ⟨k, ?_⟩
    unfold rootS
    rw [List.getElem?_eq_getElem hk]
    simp only
    rw [if_pos (h1.pid k _ (List.getElem?_eq_getElem hk))]
  cases hs : solveF 10000 [(k1, k2)] F with
  | none => rw [hs] at h; cases h
  | some q =>
  obtain ⟨b, G1⟩ := q
  rw [hs] at h
  cases b with
  | false => simp at h
  | true =>
  simp only at h
  cases he : endlessF G1 10000 k1 with
  | none => rw [he] at h; cases h
  | some en =>
  rw [he] at h
  simp only [Option.some.injEq, Prod.mk.injEq] at h
  obtain ⟨rfl, hen, rfl⟩ := h
  have hen' : en = false := by simpa using hen
  subst hen'
  obtain ⟨hC, hG, R, hR⟩ := solve_cgr [(k1, k2)] 10000 _ F G1 h2 hA ⟨1, hR0⟩ hs (fun q _ hs => ⟨hs, fun j x us hj h0 hu M r hr => by
    obtain rfl := root_pid h1.pid hr
    exact ⟨hj, us, hu, rfl⟩⟩)
  have hal : G1.args.length = G1.tops.length := by rw [hG.args, hG.tops]; exact h2.al
  have hAG := hA.same hG
  have hfin := endless_fin hR he
  have hlt : ∀ k, k < F.tops.length → ∃ r, rootS G1.prox R k = some r := fun k hk => hR k (by rw [hG.plen, h2.pl]; exact hk)
  obtain ⟨hpair, hcg⟩ := hC (fun k => (rootS G1.prox R k).getD k) (fun k p hk => by
    show (rootS G1.prox R k).getD k = (rootS G1.prox R p).getD p
    by_cases e : p = k
    · rw [e]
    · obtain ⟨r, hr⟩ := hR k (List.getElem?_eq_some_iff.1 hk).1
      have hr2 := rootS_mono (m' := R + 1) (by omega) hr
      unfold rootS at hr2
      rw [hk] at hr2
      simp only at hr2
      rw [if_neg e] at hr2
      rw [hr, hr2]
      rfl) (fun e he => by simp at he)
  have hkk := hpair (k1, k2) (List.mem_singleton.2 rfl)
  obtain ⟨r1, hr1⟩ := hlt k1 hk1
  obtain ⟨r2, hr2⟩ := hlt k2 hk2
  simp only [hr1, hr2, Option.getD_some] at hkk
  subst hkk
  have hfin2 : ∃ n, FinD G1 R n k2 := by
    obtain ⟨n, hn⟩ := hfin
    exact ⟨n, fin_root hr1 hr2 hn⟩
  have hgd : GoodV ss (sgG G1 R) := fun z hz => by
    unfold sgG
    split
    · exact nu_scan hAG hal _
    · exact scan_neg hz
  obtain ⟨σ, hσ⟩ : ∃ σ : Int → List Int, sgG G1 R = σ := ⟨_, rfl⟩
  have hσv : ∀ (z : Int) (k : Nat), vget F.vars z = some k → σ z = nuF G1 R k := fun z k hk => by rw [← hσ]; unfold sgG; rw [hG.vars, hk]
  have hfin2 := hfin2
  have fin : (apV (sft σ 0) za = nuF G1 R k1 ∧ apV (sft σ sh) zb = nuF G1 R k1) ∧ (∀ z ∈ za, z < 0 → ∃ j, vget F.vars z = some j ∧ ∃ n, FinD G1 R n j) ∧ (∀ z ∈ zb, z < 0 → ∃ j, vget F.vars (z - sh) = some j ∧ ∃ n, FinD G1 R n j) := by
    have main : ∀ (L j : Nat), j < F.tops.length → (ν j).length ≤ L → (∃ n, FinD G1 R n j) → apV σ (ν j) = nuF G1 R j ∧ ∀ z ∈ ν j, z < 0 → ∃ i, vget F.vars z = some i ∧ ∃ n, FinD G1 R n i := by
      intro L
      induction L with
      | zero => intro j hj hL; have := scan_len (h1.trm j hj); omega
      | succ L ih =>
        intro j hj hL hf
        have hx := List.getElem?_eq_getElem hj
        have hja : j < F.args.length := by rw [h2.al]; exact hj
        have hu := List.getElem?_eq_getElem hja
        by_cases h0 : 0 ≤ F.tops[j]
        · obtain ⟨s1, s2⟩ := h1.sym j _ _ hx hu h0 (fun h => h)
          obtain ⟨r, hr⟩ := hlt j hj
          obtain ⟨d1, us', d2, d3⟩ := hcg j _ _ (by rw [hG.tops]; exact hx) h0 (by rw [hG.args]; exact hu) R r hr
          obtain ⟨n1, n2⟩ := nu_node hf hr d2 d1
          have hub : ∀ u ∈ F.args[j], u < F.tops.length := fun u hu => h2.ab _ (List.getElem_mem hja) u hu
          have hub' : ∀ u ∈ us', u < F.tops.length := fun u hu => h2.ab us' (by rw [← hG.args]; exact List.mem_of_getElem? d2) u hu
          have hgq : ∀ u, u < F.tops.length → nuF G1 R ((rootS G1.prox R u).getD u) = nuF G1 R u := fun u hu => by
            obtain ⟨r, hr⟩ := hlt u hu
            rw [hr, Option.getD_some]
            exact nu_root (root_self hR hr) hr
          have hfl : ∀ us : List Nat, (∀ u ∈ us, u < F.tops.length) → us.flatMap (nuF G1 R) = (us.map fun k => (rootS G1.prox R k).getD k).flatMap (nuF G1 R) := fun us hus => by
            rw [List.flatMap_map]
            exact flat_same fun u hu => (hgq u (hus u hu)).symm
          have hfu : ∀ u ∈ F.args[j], ∃ n, FinD G1 R n u := fun u hu => by
            have hm : (rootS G1.prox R u).getD u ∈ F.args[j].map fun k => (rootS G1.prox R k).getD k := List.mem_map_of_mem hu
            rw [← d3] at hm
            obtain ⟨u', hu', e⟩ := List.mem_map.1 hm
            obtain ⟨ru, hru⟩ := hlt u (hub u hu)
            obtain ⟨ru', hru'⟩ := hlt u' (hub' u' hu')
            simp only [hru, hru', Option.getD_some] at e
            subst e
            obtain ⟨n, hn⟩ := n2 u' hu'
            exact ⟨n, fin_root hru' hru hn⟩
          rw [s1] at hL ⊢
          rw [n1, hfl us' hub', d3, ← hfl _ hub, show F.tops[j] :: F.args[j].flatMap ν = [F.tops[j]] ++ F.args[j].flatMap ν from rfl, apV_append, apV_one, if_neg (by omega)]
          rw [List.length_cons] at hL
          have hap : ∀ us : List Nat, (∀ u ∈ us, apV σ (ν u) = nuF G1 R u) → apV σ (us.flatMap ν) = us.flatMap (nuF G1 R) := by
            intro us
            induction us with
            | nil => intro _; rfl
            | cons u us ihu =>
              intro hh
              rw [List.flatMap_cons, List.flatMap_cons, apV_append, hh u (List.mem_cons_self ..), ihu fun v hv => hh v (List.mem_cons_of_mem _ hv)]
          refine ⟨by
            rw [hap _ fun u hu => (ih u (hub u hu) (by have := flat_lt (ν := ν) u hu; omega) (hfu u hu)).1]
            rfl, fun z hz hn => ?_⟩
          rcases List.mem_cons.1 hz with rfl | hz
          · omega
          · obtain ⟨u, hu, hz⟩ := List.mem_flatMap.1 hz
            exact (ih u (hub u hu) (by have := flat_lt (ν := ν) u hu; omega) (hfu u hu)).2 z hz hn
        · obtain ⟨t1, t2⟩ := h1.tv j _ hx (by omega)
          rw [t2, if_pos (by omega), apV_one, if_pos (by omega)]
          refine ⟨hσv _ _ t1, fun z hz _ => ?_⟩
          rw [List.mem_singleton] at hz
          subst hz
          exact ⟨j, t1, hf⟩
    obtain ⟨m1, i1⟩ := main _ k1 hk1 (Nat.le_refl _) hfin
    obtain ⟨m2, i2⟩ := main _ k2 hk2 (Nat.le_refl _) hfin2
    rw [h3] at m1 i1
    rw [h4] at m2 i2
    have hin : ∀ (sh : Int), 0 ≤ sh → ∀ t : List Int, ∀ z ∈ t, z < 0 → z - sh ∈ apV (sft (fun z => if z < 0 then [z] else [-1]) sh) t := fun sh h0 t z hz hn => by
      unfold apV
      rw [List.mem_flatMap]
      refine ⟨z, hz, ?_⟩
      rw [if_pos hn]
      show z - sh ∈ (if z - sh < 0 then [z - sh] else [-1])
      rw [if_pos (by omega), List.mem_singleton]
    have hsft : ∀ (sh : Int), 0 ≤ sh → ∀ t, apV σ (apV (sft (fun z => if z < 0 then [z] else [-1]) sh) t) = apV (sft σ sh) t := fun sh h0 t => by
      rw [apV_flat]
      unfold apV
      refine flat_same fun z _ => ?_
      by_cases hz : z < 0
      · rw [if_pos hz, if_pos hz]
        show apV σ (if z - sh < 0 then [z - sh] else [-1]) = σ (z - sh)
        rw [if_pos (by omega), apV_one, if_pos (by omega)]
      · rw [if_neg hz, if_neg hz]
    rw [hsft 0 (by omega)] at m1
    rw [hsft sh hsh] at m2
    refine ⟨⟨m1, by rw [m2]; exact (nu_root hr1 hr2).symm⟩, fun z hz hn => ?_, fun z hz hn => i2 _ (hin sh hsh zb z hz hn) (by omega)⟩
    have := hin 0 (by omega) za z hz hn
    rw [Int.sub_zero] at this
    exact i1 z this hn
  obtain ⟨⟨f1, f2⟩, f3, f4⟩ := fin
  rw [← hσ] at f1 f2
  refine ⟨R, hR, hal, hAG, hfin, hgd, f1, f2, fun z j hj => ?_, fun j z hj hz => ?_, ?_, ?_⟩
  · rw [hG.vars] at hj
    have := h1.vt z j hj
    rw [hG.tops, hG.plen, h2.pl]
    exact ⟨this, (List.getElem?_eq_some_iff.1 this).1⟩
  · rw [hG.tops] at hj
    rw [hG.vars, hG.args]
    have hja : j < F.args.length := by rw [h2.al]; exact (List.getElem?_eq_some_iff.1 hj).1
    have hu := List.getElem?_eq_getElem hja
    refine ⟨(h1.tv j z hj hz).1, ?_⟩
    have e := h1.var j z _ hj hu hz
    rw [hu, e]
  · rw [hG.vars]; exact f3
  · rw [hG.vars]; exact f4
theorem unite_nu {sh : Int} {za zb : List Int} {k : Nat} (hsh : 0 ≤ sh) (ha : valOk ss za = true) (hb : valOk ss zb = true) (h : uniteF ss sh 10000 za zb Fd.none = some (k, true, G)) :
    ∃ R, RootsIn R G.prox ∧ G.args.length = G.tops.length ∧ ArN ss G ∧ (∃ n, FinD G R n k) ∧ ∃ σ, GoodV ss σ ∧ apV (sft σ 0) za = nuF G R k ∧ apV (sft σ sh) zb = nuF G R k := by
  obtain ⟨R, u⟩ := unite_all hsh ha hb h
  exact ⟨R, u.rts, u.al, u.arn, u.fin, _, u.good, u.one, u.two⟩

theorem fold_map {f : Int → Int} {S : List Int} (hneg : ∀ z ∈ S, z < 0 → f z < 0) (hpos : ∀ z ∈ S, 0 ≤ z → f z = z) (hinj : ∀ x ∈ S, ∀ z ∈ S, f x = f z → x = z) : ∀ (a l : List Int), (∀ z ∈ a, z ∈ S) → (∀ x ∈ l, x ∈ S) → (a.map f).foldl addSeen (l.map f) = (a.foldl addSeen l).map f
  | [], _, _, _ => rfl
  | z :: a, l, ha, hl => by
    have hz := ha z (List.mem_cons_self ..)
    have e1 := addSeen_map (l := l) (hneg z hz) (hpos z hz) (fun x hx _ e => hinj x (hl x hx) z hz e)
    have hl2 : ∀ x ∈ addSeen l z, x ∈ S := fun x hx => by
      unfold addSeen at hx
      split at hx
      · exact hl x hx
      · split at hx
        · exact hl x hx
        · rcases List.mem_append.1 hx with h | h
          · exact hl x h
          · obtain rfl := List.mem_singleton.1 h; exact hz
    rw [List.map_cons, List.foldl_cons, List.foldl_cons, e1, fold_map hneg hpos hinj a _ (fun x hx => ha x (List.mem_cons_of_mem _ hx)) hl2]
theorem apV_sizes {σ : Int → List Int} : ∀ {a : List Int}, (∀ z ∈ a, z < 0 → 1 ≤ (σ z).length) → a.length ≤ (apV σ a).length ∧ ((apV σ a).length = a.length → ∀ z ∈ a, z < 0 → (σ z).length = 1)
  | [], _ => ⟨Nat.le_refl _, fun _ z hz => by simp at hz⟩
  | x :: a, h => by
    obtain ⟨h1, h2⟩ := apV_sizes (a := a) fun z hz => h z (List.mem_cons_of_mem _ hz)
    rw [show x :: a = [x] ++ a from rfl, apV_append, apV_one, List.length_append, List.length_append, List.length_singleton]
    by_cases hx : x < 0
    · have h3 := h x (List.mem_cons_self ..) hx
      rw [if_pos hx]
      refine ⟨by omega, fun e z hz hn => ?_⟩
      rcases List.mem_cons.1 hz with rfl | hz
      · omega
      · exact h2 (by omega) z hz hn
    · rw [if_neg hx, List.length_singleton]
      refine ⟨by omega, fun e z hz hn => ?_⟩
      rcases List.mem_cons.1 hz with rfl | hz
      · exact absurd hn hx
      · exact h2 (by omega) z hz hn
theorem apV_map {σ : Int → List Int} {f : Int → Int} : ∀ {p : List Int}, (∀ z ∈ p, (if z < 0 then σ z else [z]) = [f z]) → apV σ p = p.map f
  | [], _ => rfl
  | z :: p, h => by
    rw [show z :: p = [z] ++ p from rfl, apV_append, apV_one, h z (List.mem_cons_self ..), apV_map fun x hx => h x (List.mem_cons_of_mem _ hx)]
    rfl
/-- Terms that become each other are alike, however long. -/
theorem alike_of {σ τ : Int → List Int} {U V : List Int} (hσ : GoodV ss σ) (hτ : GoodV ss τ) (h1 : apV τ U = V) (h2 : apV σ V = U) : V.length = U.length ∧ canon U = canon V ∧ (seenTo U U.length).length = (seenTo V V.length).length := by
  have l1 := (apV_sizes (σ := τ) (a := U) fun z _ hn => scan_len (hτ z hn)).1
  have l2 := (apV_sizes (σ := σ) (a := V) fun z _ hn => scan_len (hσ z hn)).1
  rw [h1] at l1
  rw [h2] at l2
  have hl : V.length = U.length := by omega
  have mk : ∀ {σ : Int → List Int} {a b : List Int}, GoodV ss σ → apV σ a = b → b.length = a.length → ∃ f : Int → Int, a.map f = b ∧ ∀ z ∈ a, 0 ≤ z → f z = z := fun {σ a b} hσ h hl => by
    have hh := (apV_sizes (σ := σ) (a := a) fun z _ hn => scan_len (hσ z hn)).2 (by rw [h, hl])
    refine ⟨fun z => if z < 0 then (σ z).headD 0 else z, ?_, fun z _ hp => by show (if z < 0 then _ else z) = z; rw [if_neg (by omega)]⟩
    rw [← h]
    refine (apV_map fun z hz => ?_).symm
    by_cases hn : z < 0
    · rw [if_pos hn, if_pos hn]
      have := hh z hz hn
      match hq : σ z, this with
      | [y], _ => rfl
    · rw [if_neg hn, if_neg hn]
  obtain ⟨f, f1, f2⟩ := mk hτ h1 hl
  obtain ⟨g, g1, g2⟩ := mk hσ h2 hl.symm
  have hgf : ∀ z ∈ U, g (f z) = z := by
    have : U.map (g ∘ f) = U.map id := by rw [List.map_id, ← List.map_map, f1, g1]
    intro z hz
    exact (List.map_inj_left.1 this) z hz
  have hfb : ∀ z ∈ U, f z ∈ V := fun z hz => by rw [← f1]; exact List.mem_map_of_mem hz
  have hneg : ∀ z ∈ U, z < 0 → f z < 0 := fun z hz hn => by
    rcases Int.lt_or_le (f z) 0 with h | h
    · exact h
    · have := hgf z hz
      rw [g2 _ (hfb z hz) h] at this
      omega
  have hinj : ∀ x ∈ U, ∀ z ∈ U, f x = f z → x = z := fun x hx z hz e => by rw [← hgf x hx, ← hgf z hz, e]
  have k1 := canonL_map (S := U) hneg f2 hinj U [] (fun _ h => h) (fun x hx => by simp at hx)
  have k2 := fold_map (S := U) hneg f2 hinj U [] (fun _ h => h) (fun x hx => by simp at hx)
  rw [List.map_nil, f1] at k1 k2
  refine ⟨hl, k1.symm, ?_⟩
  unfold seenTo
  rw [List.take_length, List.take_length, k2, List.length_map]
theorem form_alike {U V : List Int} (h : V.length = U.length ∧ canon U = canon V ∧ (seenTo U U.length).length = (seenTo V V.length).length) : formZ true U = formZ true V := by
  unfold formZ
  rw [h.2.1, h.2.2]
theorem apV_sft0 (τ : Int → List Int) (t : List Int) : apV (sft τ 0) t = apV τ t := by
  unfold apV
  refine flat_same fun z _ => ?_
  unfold sft
  rw [Int.sub_zero]
theorem solve_tops : ∀ (m : Nat) (st : List (Nat × Nat)) (F G : Fd) (b : Bool), solveF m st F = some (b, G) → G.tops = F.tops
  | 0, st, F, G, b, h => by cases h
  | m + 1, st, F, G, b, h => by
    unfold solveF at h
    split at h
    · cases h; rfl
    · split at h
      · split at h
        · exact solve_tops m _ F G b h
        · split at h
          · simp only at h
            repeat' split at h
            all_goals first
              | (cases h; done)
              | (cases h; rfl)
              | (have := solve_tops m _ _ G b h; exact this)
          · cases h
      · cases h
theorem nu_heads {n : Nat} {H : Int} (hH : ∀ z ∈ G.tops, z < H) (hal : G.args.length = G.tops.length) : ∀ k, FinD G R n k → ∀ z ∈ nuF G R k, z < H := by
  induction n with
  | zero => intro k h; exact h.elim
  | succ n ih =>
    intro k h z hz
    obtain ⟨r, us, h1, h2, h3⟩ := id h
    have hr : r < G.tops.length := by rw [← hal]; exact (List.getElem?_eq_some_iff.1 h2).1
    rw [(nu_node ⟨_, h⟩ h1 h2 (List.getElem?_eq_getElem hr)).1] at hz
    rcases List.mem_cons.1 hz with rfl | hz
    · exact hH _ (List.getElem_mem hr)
    · obtain ⟨u, hu, hz⟩ := List.mem_flatMap.1 hz
      exact ih u (h3 u hu) z hz
/-- What the program finds: nothing, where there is nothing; otherwise the most general one, whole. -/
theorem com_is {sh : Int} {za zb : List Int} (hsh : 0 ≤ sh ∧ sh ≤ 1000) (ha : valOk ss za = true) (hb : valOk ss zb = true) :
    (hasZ ss sh za zb = false ∧ comZ ss sh za zb = ([], 8) ∧ ∀ τ, GoodV ss τ → apV (sft τ 0) za ≠ apV (sft τ sh) zb) ∨
    (hasZ ss sh za zb = true ∧ ∃ (U : List Int) (σ : Int → List Int), GoodV ss σ ∧ apV (sft σ 0) za = U ∧ apV (sft σ sh) zb = U ∧ comZ ss sh za zb = formZ (decide (U.length ≤ 60)) U ∧ scan ss 1 U = some [] ∧ HeadsOk ss U ∧
      ∀ τ, GoodV ss τ → apV (sft τ 0) za = apV (sft τ sh) zb → apV τ U = apV (sft τ 0) za) := by
  have hcg := comZ_good hsh ha hb
  obtain ⟨⟨k, b, G, hu, hGok⟩, har, _⟩ := common_some hsh ha hb
  have hz := hasZ_good ha hb hu
  unfold commonF at hcg
  rw [if_pos (by simpa [List.all_eq_true] using har), hu] at hcg
  cases b with
  | false =>
    simp only [Option.some.injEq] at hcg
    refine .inl ⟨hz, hcg.symm, fun τ hτ he => ?_⟩
    have := (unite_val hsh.1 ha hb hτ he hu).1
    cases this
  | true =>
    obtain ⟨R, hR, hal, hAr, hfin, σ, s1, s2, s3⟩ := unite_nu hsh.1 ha hb hu
    refine .inr ⟨hz, nuF G R k, σ, s1, s2, s3, ?_, nu_scan hAr hal k, ?_, fun τ hτ he => ?_⟩
    · simp only at hcg
      cases hw : writeF G 10000 k [] with
      | none => rw [hw] at hcg; cases hcg
      | some p =>
        obtain ⟨ok2, t⟩ := p
        rw [hw] at hcg
        simp only at hcg
        obtain ⟨w1, w2⟩ := write_nu hAr hal hR 10000 k [] t ok2 hw (by simp) hfin
        split at hcg
        · rw [← Option.some.inj hcg]
          cases ok2 with
          | true =>
            have e := w1 rfl
            rw [List.nil_append] at e
            subst e
            have h60 := writeF_len 10000 k [] true _ hw (by simp)
            rw [decide_eq_true h60]
          | false =>
            have h60 := w2 rfl
            simp only [List.length_nil, Nat.zero_add] at h60
            rw [decide_eq_false (by omega)]
            unfold formZ
            rw [if_neg (fun h => by cases h.1), if_neg (fun h => by cases h.1)]
        · cases hcg
    · have hns := sigOk_len (valOk_sig ha)
      have htops : ∀ z ∈ G.tops, z < (ss.length : Int) := by
        have hG : G.tops = (addT ss sh zb (addT ss 0 za Fd.none).2.2).2.2.tops := by
          obtain ⟨ν, h1, h2, h3, h4, hk1, hk2, hlen⟩ := both_val (σ := fun _ => [-1]) hsh.1 ha hb (fun z hz => scan_neg (by omega))
          unfold uniteF at hu
          cases hs : solveF 10000 [((addT ss 0 za Fd.none).1, (addT ss sh zb (addT ss 0 za Fd.none).2.2).1)] (addT ss sh zb (addT ss 0 za Fd.none).2.2).2.2 with
          | none => rw [hs] at hu; cases hu
          | some q =>
            obtain ⟨bq, G1⟩ := q
            have ht := solve_tops _ _ _ _ _ hs
            rw [hs] at hu
            cases bq with
            | false => simp at hu
            | true =>
              simp only at hu
              cases he : endlessF G1 10000 (addT ss 0 za Fd.none).1 with
              | none => rw [he] at hu; cases hu
              | some en =>
                rw [he] at hu
                simp only [Option.some.injEq, Prod.mk.injEq] at hu
                rw [← hu.2.2]
                exact ht
        rw [hG]
        unfold addT
        refine (addF_mem (Q := fun z => z < (ss.length : Int)) _ zb _ (fun z hz => ?_) (addF_mem (Q := fun z => z < (ss.length : Int)) _ za _ (fun z hz => ?_) (fun z hz => by simp [Fd.none] at hz)).2).2
        · have := (valOk_term hb).2.2.1 z hz; exact ⟨this.2, by omega⟩
        · have := (valOk_term ha).2.2.1 z hz; exact ⟨this.2, by omega⟩
      obtain ⟨n, hn⟩ := hfin
      exact nu_heads htops hal k hn
    · obtain ⟨_, ν, v1, v2, v3, v4⟩ := unite_val hsh.1 ha hb hτ he hu
      obtain ⟨n, hn⟩ := hfin
      rw [nu_gen v1 hal (fun j x hj hx => v4 j x hj hx) n k hn, v3]
end

end Go.Proofs.YtapcdhagkbfccaaGreat

/- The program's unification and the reference's solver find the same: the plain mathematics. -/
namespace Go.Proofs.YtapcdhagkbfccaaGreat
open Go.RowKit

section
variable {ss : Sg}
end

end Go.Proofs.YtapcdhagkbfccaaGreat

namespace Go.Proofs.YtapcdhagkbfccaaGreat
open Go.RowKit

section
variable {ss : Sg} {za zb : List Int} {σ : Int → List Int}
theorem canon_valid {U : List Int} (hsg : sigOk ss = true) (hs : scan ss 1 U = some []) (hh : HeadsOk ss U) (h60 : U.length ≤ 60) (h12 : (seenTo U U.length).length ≤ 12) : valOk ss (canon U) = true := by
  have hsc := canon_scan hs
  simp only [valOk, termOk, Bool.and_eq_true, decide_eq_true_eq, List.all_eq_true, numOk]
  refine ⟨hsg, scan_len hsc, by rw [canon_length]; omega, fun z hz => ?_, hsc⟩
  rw [canon_map] at hz
  obtain ⟨y, hy, rfl⟩ := List.mem_map.1 hz
  by_cases hn : y < 0
  · rw [if_pos hn]
    have h1 := List.idxOf_lt_length_of_mem (seen_all hy hn)
    have h2 := (sigOk_len hsg).1
    unfold cnum
    omega
  · rw [if_neg hn]
    have := hh y hy
    omega
/-- The canonical form is what a renaming makes. -/
theorem canon_apV (U : List Int) : canon U = apV (fun z => [cnum (seenTo U U.length) z]) U := by
  rw [canon_map]
  refine (apV_map fun z _ => ?_).symm
  by_cases hn : z < 0
  · rw [if_pos hn, if_pos hn]
  · rw [if_neg hn, if_neg hn]
theorem goodV_comp {τ : Int → List Int} (hσ : GoodV ss σ) (hτ : GoodV ss τ) : GoodV ss (fun z => apV τ (σ z)) := fun z hz => scan_apV hτ _ 1 [] (hσ z hz)
/-- Where there is a meet, it is valid, and an instance of both. -/
theorem com_ok {sh : Int} (hsh : 0 ≤ sh ∧ sh ≤ 1000) (ha : valOk ss za = true) (hb : valOk ss zb = true) (h0 : (comZ ss sh za zb).2 = 0) : ∃ U σ, GoodV ss σ ∧ apV (sft σ 0) za = U ∧ apV (sft σ sh) zb = U ∧ (comZ ss sh za zb).1 = canon U ∧ valOk ss (canon U) = true ∧
    ∀ τ, GoodV ss τ → apV (sft τ 0) za = apV (sft τ sh) zb → apV τ U = apV (sft τ 0) za := by
  rcases com_is hsh ha hb with ⟨_, h2, _⟩ | ⟨_, U, σ, s1, s2, s3, s4, s5, s6, s7⟩
  · rw [h2] at h0; cases h0
  · rw [s4] at h0
    unfold formZ at h0
    split at h0
    · rename_i hc
      refine ⟨U, σ, s1, s2, s3, ?_, canon_valid (valOk_sig ha) s5 s6 (of_decide_eq_true hc.1) hc.2, s7⟩
      rw [s4]
      unfold formZ
      rw [if_pos hc]
    · cases h0
theorem sft_good {sh : Int} (h0 : 0 ≤ sh) (h : GoodV ss σ) : GoodV ss (sft σ sh) := fun z hz => h _ (by omega)
/-- What is an instance is alike the meet. -/
theorem meet_inst (h : insB ss za zb = true) : (comZ ss 12 za zb).2 = 0 ∧ (comZ ss 12 za zb).1 = canon zb := by
  obtain ⟨ha, hb⟩ := ins_valid h
  obtain ⟨τ, t1, t2, t3⟩ := ins_apart h (by rw [ins_refl]; exact hb)
  rcases com_is (sh := 12) (by omega) ha hb with ⟨_, _, h3⟩ | ⟨_, U, σ, s1, s2, s3, s4, s5, s6, s7⟩
  · exact absurd (t2.trans t3.symm) (h3 τ t1)
  · have e := s7 τ t1 (t2.trans t3.symm)
    rw [t2] at e
    have hal := alike_of (sft_good (sh := 12) (by omega) s1) t1 e s3
    have h60 := (valOk_term hb).2.1
    have h12 := seen_few fun z hz => ((valOk_term hb).2.2.1 z hz).1
    rw [s4, decide_eq_true (by omega), form_alike hal]
    unfold formZ
    rw [if_pos ⟨rfl, h12⟩]
    exact ⟨rfl, rfl⟩
end

end Go.Proofs.YtapcdhagkbfccaaGreat
