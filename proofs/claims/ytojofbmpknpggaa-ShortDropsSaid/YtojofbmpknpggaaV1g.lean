/- Contract: Valid. -/
import Derived.Test.YtojofbmpknpggaaS3g
import Derived.Deep.QuietTactic
import Derived.BigQuiet
import Derived.IntWalk
import Derived.Laws.EntriesVeiled
/- Contract: the closure of term.end. -/
namespace Go.Proofs.Ytojofbmpknpggaa
open Go.RowKit

/-- How many arguments the head z has. -/
def arOf (ss : Sg) (z : Int) : Nat := if z < 0 then 0 else ((List.map (fun x : ByteArray × Int => x.2) ss)[z.toNat]?.getD 0).toNat
/-- What is left of a list behind 'need' terms. -/
def scan (ss : Sg) : Nat → List Int → Option (List Int)
  | 0, l => some l
  | _ + 1, [] => none
  | n + 1, z :: l => scan ss (n + arOf ss z) l
theorem scan_zero (ss : Sg) (l : List Int) : scan ss 0 l = some l := by cases l <;> rfl
theorem scan_add (ss : Sg) : ∀ (l : List Int) (m n : Nat), scan ss (m + n) l = (scan ss m l).bind (scan ss n)
  | l, 0, n => by rw [Nat.zero_add, scan_zero]; rfl
  | [], m + 1, n => by rw [show m + 1 + n = (m + n) + 1 from by omega]; rfl
  | z :: l, m + 1, n => by
    rw [show m + 1 + n = (m + n) + 1 from by omega]
    simp only [scan]
    rw [show m + n + arOf ss z = (m + arOf ss z) + n from by omega]
    exact scan_add ss l _ _
theorem scan_suffix (ss : Sg) : ∀ (l : List Int) (n : Nat) (r : List Int), scan ss n l = some r → ∃ p, p ≤ l.length ∧ n ≤ p ∧ r = l.drop p
  | l, 0, r, h => by rw [scan_zero] at h; cases h; exact ⟨0, by omega, by omega, by simp⟩
  | [], n + 1, r, h => by cases h
  | z :: l, n + 1, r, h => by
    simp only [scan] at h
    obtain ⟨p, h1, h2, h3⟩ := scan_suffix ss l _ r h
    exact ⟨p + 1, by simp; omega, by omega, by simpa using h3⟩

/-- The end of the part that begins at an index, or -1. -/
def endI (ss : Sg) (zs : List Int) (i : Nat) : Int :=
  match scan ss 1 (zs.drop i) with
  | none => -1
  | some r => (zs.length - r.length : Nat)

/-- .. of n parts -/
def endN (ss : Sg) (zs : List Int) (n i : Nat) : Int :=
  match scan ss n (zs.drop i) with
  | none => -1
  | some r => (zs.length - r.length : Nat)
theorem endI_out {ss : Sg} {zs : List Int} {i : Nat} (h : zs.length ≤ i) : endI ss zs i = -1 := by
  simp [endI, List.drop_of_length_le h, scan]
theorem endI_var {ss : Sg} {zs : List Int} {i : Nat} (h : i < zs.length) (hz : zs[i] < 0) : endI ss zs i = ((i + 1 : Nat) : Int) := by
  unfold endI
  rw [List.drop_eq_getElem_cons h]
  simp only [scan, arOf, hz, if_true, Nat.zero_add, scan_zero, List.length_drop]
  congr 1; omega
theorem endI_head {ss : Sg} {zs : List Int} {i : Nat} (h : i < zs.length) : endI ss zs i = endN ss zs (arOf ss zs[i]) (i + 1) := by
  unfold endI endN
  rw [List.drop_eq_getElem_cons h]
  simp only [scan, Nat.zero_add]
theorem endN_zero {ss : Sg} {zs : List Int} {i : Nat} (h : i ≤ zs.length) : endN ss zs 0 i = (i : Int) := by
  unfold endN
  rw [scan_zero]
  simp only [List.length_drop]
  congr 1; omega
theorem endN_cases (ss : Sg) (zs : List Int) (n i : Nat) (hi : i ≤ zs.length) : endN ss zs n i = -1 ∨ ∃ p : Nat, endN ss zs n i = (p : Int) ∧ i + n ≤ p ∧ p ≤ zs.length ∧ scan ss n (zs.drop i) = some (zs.drop p) := by
  unfold endN
  cases h : scan ss n (zs.drop i) with
  | none => exact .inl rfl
  | some r =>
    obtain ⟨p, h1, h2, h3⟩ := scan_suffix ss _ _ _ h
    rw [List.length_drop] at h1
    refine .inr ⟨i + p, ?_, by omega, by omega, ?_⟩
    · simp only [h3, List.length_drop]; congr 1; omega
    · rw [h3, List.drop_drop]
theorem endI_eq (ss : Sg) (zs : List Int) (i : Nat) : endI ss zs i = endN ss zs 1 i := rfl
theorem endN_step {ss : Sg} {zs : List Int} {n m i p : Nat} (h : scan ss n (zs.drop i) = some (zs.drop p)) : endN ss zs (n + m) i = endN ss zs m p := by
  unfold endN
  rw [scan_add, h]
  rfl


theorem endN_fail {ss : Sg} {zs : List Int} {j r i p : Nat} (h : scan ss j (zs.drop i) = some (zs.drop p)) (hj : j < r) (he : endI ss zs p = -1) : endN ss zs r i = -1 := by
  have e : r = j + (1 + (r - j - 1)) := by omega
  rw [e, endN_step h]
  unfold endI at he
  unfold endN
  cases h1 : scan ss 1 (zs.drop p) with
  | none => rw [scan_add, h1]; rfl
  | some r => rw [h1] at he; simp only at he; omega
theorem endN_next {ss : Sg} {zs : List Int} {j i p p' : Nat} (h : scan ss j (zs.drop i) = some (zs.drop p)) (h2 : scan ss 1 (zs.drop p) = some (zs.drop p')) : scan ss (j + 1) (zs.drop i) = some (zs.drop p') := by
  rw [scan_add, h]; exact h2
theorem endN_done {ss : Sg} {zs : List Int} {j i p : Nat} (h : scan ss j (zs.drop i) = some (zs.drop p)) (hp : p ≤ zs.length) : endN ss zs j i = (p : Int) := by
  have := endN_step (m := 0) h
  rw [Nat.add_zero] at this
  rw [this, endN_zero hp]
theorem arOf_at {ss : Sg} {q : Nat} (h : q < ss.length) : arOf ss (q : Int) = ss[q].2.toNat := by
  unfold arOf
  rw [if_neg (by omega)]
  simp [List.getElem?_eq_getElem h]

/-- Arities are from 0 to 3. -/
def ArOk (ss : Sg) : Prop := ∀ x ∈ ss, 0 ≤ x.2 ∧ x.2 ≤ 3
def HeadsOk (ss : Sg) (zs : List Int) : Prop := ∀ z ∈ zs, z < (ss.length : Int)

set_option maxRecDepth 100000 in
set_option maxHeartbeats 1000000 in
theorem endC_any (ss : Sg) (zs : List Int) (har : ArOk ss) (hz : HeadsOk ss zs) (bt offt nt ct bs offs ns cs Bt Bs Bf : Nat) (hnt : nt = zs.length) (hns : ns = ss.length) (hnt2 : nt ≤ 1000000) (_hns2 : ns ≤ 1000000) :
    ∀ (m i : Nat), zs.length - i < m → ∀ w : World, w.cell? ⟨Bt, 0, none⟩ = some (.slice (some ⟨bt, offt, none⟩) nt ct) → w.cell? ⟨Bs, 0, none⟩ = some (.slice (some ⟨bs, offs, none⟩) ns cs) →
    w.cell? ⟨Bf, 0, none⟩ = some (.func (.func 94) #[] #[.pointer (some ⟨Bt, 0, none⟩), .pointer (some ⟨Bs, 0, none⟩), .pointer (some ⟨Bf, 0, none⟩)]) →
    (∀ j (h : j < zs.length), w.cell? ⟨bt, offt + j, none⟩ = some (.int .i64 zs[j])) → SigIn w bs offs ss → i ≤ 1000000 →
    Calls Try.prog 94 #[.int .i64 i, .pointer (some ⟨Bt, 0, none⟩), .pointer (some ⟨Bs, 0, none⟩), .pointer (some ⟨Bf, 0, none⟩)] w fun e w' => e = .returned (.int .i64 (endI ss zs i)) ∧ ∃ k, w' = w.drewN k := by
  intro m
  induction m with
  | zero => intro i h; omega
  | succ m ih =>
    intro i hi w hct hcs hcf hcz hsg hi2
    by_cases hlt : i < zs.length
    · have hcz1 := hcz i hlt
      by_cases hneg : zs[i] < 0
      · have H := Lib.hid (endI_var (ss := ss) hlt hneg)
        obtain ⟨z, hzz⟩ : ∃ z, zs[i] = z := ⟨_, rfl⟩
        rw [hzz] at hneg hcz1
        clear ih hcz hsg hi hzz hz har
        have hl2 : i < nt := by omega
        clear hnt hns hlt
        go_enter Try.func94, Try.ntmps94
        go_wp2
        go_ret
        exact ⟨ret_i (by rw [H.out]; omega), 0, rfl⟩
      · have hin := List.getElem_mem hlt
        have hzl := hz _ hin
        have HH := Lib.hid (endI_head (ss := ss) hlt)
        obtain ⟨q, hq⟩ : ∃ q : Nat, zs[i] = (q : Int) := ⟨zs[i].toNat, by omega⟩
        rw [hq] at hzl hcz1 HH
        have hql : q < ss.length := by omega
        rw [arOf_at hql] at HH
        have hc3 := hsg.ar q hql
        obtain ⟨ha0, ha3⟩ := har _ (List.getElem_mem hql)
        obtain ⟨r, hr⟩ : ∃ r : Nat, ss[q].2 = (r : Int) := ⟨ss[q].2.toNat, by omega⟩
        rw [hr] at hc3 HH ha3
        rw [Int.toNat_natCast] at HH
        have hr3 : r ≤ 3 := by omega
        have IH := Lib.hid ih
        have HCZ := Lib.hid hcz
        have hl2 : i < nt := by omega
        have hi1 : (i : Int) < (nt : Int) := by omega
        have hi0 : (0 : Int) ≤ (i : Int) := by omega
        have hq0 : (0 : Int) ≤ (q : Int) := by omega
        have hq1 : (q : Int) < (ns : Int) := by omega
        have hqn : ¬ (q : Int) < 0 := by omega
        have hlen : nt ≤ zs.length ∧ zs.length ≤ nt := by omega
        clear ih hcz hzl hq hneg ha0 ha3 hr hin
        clear hnt hns
        go_enter Try.func94, Try.ntmps94
        go_wp2_with fail
        go_quiet (fail)
        go_wp2_with fail
        go_loopw [6, 27] (fun nx c wr => ∃ j p : Nat, j ≤ r ∧ c = .int .i64 j ∧ nx = .int .i64 p ∧ i + 1 ≤ p ∧ p ≤ nt ∧ scan ss j (zs.drop (i + 1)) = some (zs.drop p) ∧ ∃ k, wr = w.drewN k) (fun _ c _ => r - (intOf c).toNat)
        case atStart => exact ⟨0, i + 1, by omega, rfl, by go_num, by omega, by omega, scan_zero _ _, _, rfl⟩
        case round =>
          obtain ⟨j, p, hj, rfl, rfl, hp1, hp2, hscan, k0, rfl⟩ := hrel
          by_cases hjr : j < r
          · rcases endN_cases ss zs 1 p (by omega) with hfail | ⟨p', hgood, hp3, hp4, hscan'⟩
            · have H := Lib.hid (endN_fail hscan hjr hfail)
              rw [← endI_eq] at hfail
              have HF := Lib.hid hfail
              have HS := Lib.hid hsg
              clear hfail hscan hsg
              go_wp2_with (go_at_call 94; refine (IH.out p (by omega) (w.drewN k0) hct hcs hcf HCZ.out (HS.out.keep fun _ => rfl) (by omega)).mono ?_; rintro e w' ⟨rfl, k1, rfl⟩; rw [HF.out])
              go_ret
              exact ⟨ret_i (by rw [HH.out, H.out]), _, rfl⟩
            · have H := Lib.hid (endN_next hscan hscan')
              rw [← endI_eq] at hgood
              have HF := Lib.hid hgood
              have HS := Lib.hid hsg
              clear hgood hscan hsg hscan'
              go_wp2_with (go_at_call 94; refine (IH.out p (by omega) (w.drewN k0) hct hcs hcf HCZ.out (HS.out.keep fun _ => rfl) (by omega)).mono ?_; rintro e w' ⟨rfl, k1, rfl⟩; rw [HF.out])
              go_roundw
              case rel => exact ⟨j + 1, p', by omega, by go_num, rfl, by omega, by omega, H.out, _, rfl⟩
              case measure => simp [intOf]; omega
          · obtain rfl : j = r := by omega
            have H := Lib.hid (endN_done hscan (by omega))
            clear hscan
            go_wp2
            go_ret
            exact ⟨ret_i (by rw [HH.out, H.out]), _, rfl⟩
    · have H := Lib.hid (endI_out (ss := ss) (by omega : zs.length ≤ i))
      have hge : nt ≤ i := by omega
      clear ih hcz hsg hi hlt
      clear hnt hns
      go_enter Try.func94, Try.ntmps94
      go_wp2
      go_ret
      exact ⟨ret_i H.out.symm, 0, rfl⟩

end Go.Proofs.Ytojofbmpknpggaa

/- Contract: end. -/
namespace Go.Proofs.Ytojofbmpknpggaa
open Go.RowKit

theorem cell_new0 (w : World) (v : Value) (t : TypeId) : (w.alloc (.cells #[v] t)).cell? ⟨w.heap.size, 0, none⟩ = some v := by
  rw [cell_of_row _ _ _ _ _ _ (heap_alloc_new w _)]; rfl
theorem alloc_keep (w : World) (o : Obj) (p : Addr) (hp : p.block < w.heap.size) : (w.alloc o).cell? p = w.cell? p := World.cell?_alloc_lt w o p hp
theorem SigAt.alloc {w : World} {n : Nat} {A : Option Addr} {ss : Sg} (h : SigAt w w.heap.size A n ss) (o : Obj) : SigAt (w.alloc o) (w.alloc o).heap.size A n ss :=
  (h.keep fun p hp => alloc_keep w o p hp).more (by simp)
theorem IntsAt.alloc {w : World} {n : Nat} {A : Option Addr} {zs : List Int} (h : IntsAt w w.heap.size A n zs) (o : Obj) : IntsAt (w.alloc o) (w.alloc o).heap.size A n zs :=
  (h.keep fun p hp => alloc_keep w o p hp).more (by simp)

theorem below_drewN {B : Nat} {a w : World} (h : Below B a w) (n : Nat) : Below B a (w.drewN n) := ⟨h.os, h.tape, h.output, h.size, h.block⟩

set_option maxRecDepth 100000 in
set_option maxHeartbeats 1000000 in
theorem end_any (ss : Sg) (zs : List Int) (har : ArOk ss) (hz : HeadsOk ss zs) (As At : Option Addr) (ns cs nt ct i : Nat) (w : World) (hs : SigAt w w.heap.size As ns ss) (ht : IntsAt w w.heap.size At nt zs)
    (h1s : 1 ≤ ns) (h1t : 1 ≤ nt) (hnt2 : nt ≤ 1000000) (hns2 : ns ≤ 1000000) (hi : i ≤ 1000000) :
    Calls Try.prog 84 #[.slice As ns cs, .slice At nt ct, .int .i64 i] w fun e w' => e = .returned (.int .i64 (endI ss zs i)) ∧ Below w.heap.size w w' := by
  obtain ⟨bs, offs, rfl, hbs, hsg⟩ := hs.mem (by omega)
  obtain ⟨bt, offt, rfl, hbt, htc⟩ := ht.mem (by omega)
  have hns := hs.len
  have hnt := ht.len
  let cl : Value := .func (.func 94) #[] #[.pointer (some ⟨w.heap.size + 1, 0, none⟩), .pointer (some ⟨w.heap.size, 0, none⟩), .pointer (some ⟨w.heap.size + 1 + 1, 0, none⟩)]
  let w1 := w.alloc (.cells #[.slice (some ⟨bs, offs, none⟩) ns cs] 44)
  let w2 := w1.alloc (.cells #[.slice (some ⟨bt, offt, none⟩) nt ct] 45)
  let w3 := w2.alloc (.cells #[cl] 67)
  have hz1 : w1.heap.size = w.heap.size + 1 := by simp [w1]
  have hz2 : w2.heap.size = w.heap.size + 1 + 1 := by simp [w2, w1]
  have hB : Below w.heap.size w w3 := (((Below.refl _ w).alloc (Nat.le_refl _) _).alloc (by simp) _).alloc (by simp; omega) _
  have k1 : w3.cell? ⟨w.heap.size, 0, none⟩ = some (.slice (some ⟨bs, offs, none⟩) ns cs) := by
    rw [show w3 = w2.alloc _ from rfl, alloc_keep _ _ _ (by show w.heap.size < _; omega), show w2 = w1.alloc _ from rfl, alloc_keep _ _ _ (by show w.heap.size < _; omega)]
    exact cell_new0 _ _ _
  have k2 : w3.cell? ⟨w.heap.size + 1, 0, none⟩ = some (.slice (some ⟨bt, offt, none⟩) nt ct) := by
    rw [show w3 = w2.alloc _ from rfl, alloc_keep _ _ _ (by show w.heap.size + 1 < _; omega), ← hz1]
    exact cell_new0 _ _ _
  have k3 : w3.cell? ⟨w.heap.size + 1 + 1, 0, none⟩ = some cl := by
    rw [← hz2]
    exact cell_new0 _ _ _
  have HC := endC_any ss zs har hz bt offt nt ct bs offs ns cs (w.heap.size + 1) w.heap.size (w.heap.size + 1 + 1) hnt hns hnt2 hns2 (zs.length - i + 1) i (by omega) w3 k2 k1 k3
    (fun j hj => (hB.cell hbt).trans (htc j hj)) (hsg.keep fun o => hB.cell hbs) hi
  have HCH := Lib.hid HC
  have HBH := Lib.hid hB
  clear HC hB k1 k2 k3 hz1 hz2 hs ht htc hsg hns hnt har hz
  go_enter Try.func84, Try.ntmps84
  go_wp2_with (go_at_call 94; refine HCH.out.mono ?_; rintro e w' ⟨rfl, k1, rfl⟩)
  go_ret
  exact ⟨rfl, below_drewN HBH.out _⟩

end Go.Proofs.Ytojofbmpknpggaa

/- Contracts: validTerm, Valid. -/
namespace Go.Proofs.Ytojofbmpknpggaa
open Go.RowKit

def numOk (ss : Sg) (z : Int) : Bool := decide (-12 ≤ z) && decide (z < (ss.length : Int))
def termOk (ss : Sg) (zs : List Int) : Bool := decide (1 ≤ zs.length) && (decide (zs.length ≤ 60) && (zs.all (numOk ss) && decide (scan ss 1 zs = some [])))
def NumsTo (ss : Sg) (zs : List Int) (k : Nat) : Prop := ∀ j (h : j < zs.length), j < k → numOk ss zs[j] = true
theorem NumsTo.zero (ss : Sg) (zs : List Int) : NumsTo ss zs 0 := fun _ _ h => absurd h (by omega)
theorem NumsTo.succ {ss : Sg} {zs : List Int} {k : Nat} (h : NumsTo ss zs k) (hk : k < zs.length) (e : numOk ss zs[k] = true) : NumsTo ss zs (k + 1) := by
  intro j hj hlt
  by_cases hjk : j < k
  · exact h j hj hjk
  · obtain rfl : j = k := by omega
    exact e
theorem NumsTo.heads {ss : Sg} {zs : List Int} (h : NumsTo ss zs zs.length) : HeadsOk ss zs := by
  intro z hz
  obtain ⟨i, hi, rfl⟩ := List.mem_iff_getElem.1 hz
  have := h i hi hi
  simp only [numOk, Bool.and_eq_true, decide_eq_true_eq] at this
  exact this.2
theorem termOk_out {ss : Sg} {zs : List Int} (h : zs.length < 1 ∨ 60 < zs.length) : termOk ss zs = false := by
  unfold termOk
  rcases h with h | h
  · rw [decide_eq_false (by omega : ¬ 1 ≤ zs.length)]; rfl
  · rw [decide_eq_false (by omega : ¬ zs.length ≤ 60)]; simp
theorem termOk_bad {ss : Sg} {zs : List Int} {k : Nat} (hk : k < zs.length) (e : numOk ss zs[k] = false) : termOk ss zs = false := by
  unfold termOk
  have : zs.all (numOk ss) = false := by
    rw [List.all_eq_false]
    exact ⟨zs[k], List.getElem_mem hk, by rw [e]; simp⟩
  rw [this]; simp
theorem termOk_good {ss : Sg} {zs : List Int} (h1 : 1 ≤ zs.length) (h2 : zs.length ≤ 60) (h : NumsTo ss zs zs.length) : termOk ss zs = decide (scan ss 1 zs = some []) := by
  unfold termOk
  have : zs.all (numOk ss) = true := by
    rw [List.all_eq_true]
    intro z hz
    obtain ⟨i, hi, rfl⟩ := List.mem_iff_getElem.1 hz
    exact h i hi hi
  rw [this, decide_eq_true h1, decide_eq_true h2]; simp
theorem endI_all {ss : Sg} {zs : List Int} (h1 : 1 ≤ zs.length) : (endI ss zs 0 == (zs.length : Int)) = decide (scan ss 1 zs = some []) := by
  rcases endN_cases ss zs 1 0 (by omega) with h | ⟨p, h, h3, h4, h5⟩
  · rw [endI_eq, h]
    unfold endN at h
    rw [List.drop_zero] at h
    cases e : scan ss 1 zs with
    | none =>
      have : (((-1 : Int)) == (zs.length : Int)) = false := by simp
      rw [this]; rfl
    | some r => rw [e] at h; simp only at h; omega
  · rw [endI_eq, h]
    rw [List.drop_zero] at h5
    rw [h5]
    by_cases hp : p = zs.length
    · subst hp; simp
    · have e1 : ((p : Int) == (zs.length : Int)) = false := by simp; omega
      have e2 : ¬ (some (zs.drop p) = some ([] : List Int)) := by simp; omega
      rw [e1, decide_eq_false e2]

set_option maxHeartbeats 400000 in
theorem validTerm_out (As At : Option Addr) (ns cs nt ct : Nat) (ss : Sg) (zs : List Int) (w : World) (B : Nat) (ht : IntsAt w B At nt zs) (h : nt < 1 ∨ 60 < nt) :
    Calls Try.prog 77 #[.slice As ns cs, .slice At nt ct] w fun e w' => e = .returned (.bool (termOk ss zs)) ∧ w = w' := by
  have hl := ht.len
  have H := Lib.hid (termOk_out (ss := ss) (zs := zs) (by omega))
  have hm := ht.max
  clear hl ht
  rcases h with h | h
  · go_enter Try.func77, Try.ntmps77
    go_wp2
    go_ret
    exact ⟨ret_b H.out.symm, rfl⟩
  · have h' : ¬ nt < 1 := by omega
    go_enter Try.func77, Try.ntmps77
    go_wp2
    go_ret
    exact ⟨ret_b H.out.symm, rfl⟩

set_option maxRecDepth 100000 in
set_option maxHeartbeats 1000000 in
theorem validTerm_in (As At : Option Addr) (ns cs nt ct : Nat) (ss : Sg) (zs : List Int) (w : World) (hs : SigAt w w.heap.size As ns ss) (ht : IntsAt w w.heap.size At nt zs) (har : ArOk ss) (hn1 : 1 ≤ ns) (hn2 : ns ≤ 12) (h1 : 1 ≤ nt) (h2 : nt ≤ 60) :
    Calls Try.prog 77 #[.slice As ns cs, .slice At nt ct] w fun e w' => e = .returned (.bool (termOk ss zs)) ∧ Below w.heap.size w w' := by
  have HT := Lib.hid ht
  obtain ⟨bt, offt, rfl, hbt, htc⟩ := ht.mem (by omega)
  have HLT := Lib.hid ht.len
  have HLS := Lib.hid hs.len
  have HS := Lib.hid hs
  have HAR := Lib.hid har
  have h1' : ¬ nt < 1 := by omega
  clear ht hs har
  go_enter Try.func77, Try.ntmps77
  go_wp2
  go_loop [17] (fun c => ∃ k : Nat, k ≤ nt ∧ c = .int .i64 k ∧ NumsTo ss zs k) (fun c => nt - (intOf c).toNat)
  case atStart => exact ⟨0, Nat.zero_le _, rfl, NumsTo.zero _ _⟩
  case round =>
    obtain ⟨k, hk, rfl, hN⟩ := hrel
    by_cases hlt : k < nt
    · have hk' : k < zs.length := by have := HLT.out; omega
      have hc := htc k hk'
      have hbad := termOk_bad (ss := ss) hk'
      have hgood := hN.succ hk'
      obtain ⟨z, hz⟩ : ∃ z, zs[k] = z := ⟨_, rfl⟩
      rw [hz] at hc hbad hgood
      clear hz
      have HTC := Lib.hid htc
      clear htc hN
      by_cases e1 : z < -12
      · have H := Lib.hid (hbad (by simp [numOk, show ¬ -12 ≤ z from by omega]))
        clear hbad hgood
        go_wp2
        go_ret
        exact ⟨ret_b H.out.symm, Below.refl _ _⟩
      · by_cases e2 : z < (ns : Int)
        · have H := Lib.hid (hgood (by have := HLS.out; simp only [numOk, Bool.and_eq_true, decide_eq_true_eq]; omega))
          have e1' : -12 ≤ z := by omega
          clear hbad hgood e1
          go_wp2
          go_round
          case rel => exact ⟨k + 1, by omega, by go_num, H.out⟩
          case measure => simp [intOf]; omega
        · have H := Lib.hid (hbad (by have := HLS.out; simp [numOk, show ¬ z < (ss.length : Int) from by omega]))
          have e1' : -12 ≤ z := by omega
          have e2' : (ns : Int) ≤ z := by omega
          clear hbad hgood e1 e2
          go_wp2
          go_ret
          exact ⟨ret_b H.out.symm, Below.refl _ _⟩
    · obtain rfl : k = nt := by omega
      have hN2 : NumsTo ss zs zs.length := by rw [← HLT.out]; exact hN
      have H := Lib.hid (termOk_good (ss := ss) (zs := zs) (by rw [← HLT.out]; exact h1) (by rw [← HLT.out]; exact h2) hN2)
      have H2 := Lib.hid (endI_all (ss := ss) (zs := zs) (by rw [← HLT.out]; exact h1))
      have HE := Lib.hid (end_any ss zs HAR.out hN2.heads As (some ⟨bt, offt, none⟩) ns cs k ct 0 w HS.out HT.out hn1 h1 (by omega) (by omega) (by omega))
      clear hN hN2 htc
      go_wp2_with (go_at_call 84; refine HE.out.mono ?_; rintro e w' ⟨rfl, hB⟩)
      go_ret
      exact ⟨ret_b (by rw [H.out, ← H2.out, ← HLT.out]), hB⟩

theorem validTerm_any (As At : Option Addr) (ns cs nt ct : Nat) (ss : Sg) (zs : List Int) (w : World) (hs : SigAt w w.heap.size As ns ss) (ht : IntsAt w w.heap.size At nt zs) (har : ArOk ss) (hn1 : 1 ≤ ns) (hn2 : ns ≤ 12) :
    Calls Try.prog 77 #[.slice As ns cs, .slice At nt ct] w fun e w' => e = .returned (.bool (termOk ss zs)) ∧ Below w.heap.size w w' := by
  by_cases h : nt < 1 ∨ 60 < nt
  · exact (validTerm_out As At ns cs nt ct ss zs w _ ht h).mono fun e w' ⟨h1, h2⟩ => ⟨h1, h2 ▸ Below.refl _ _⟩
  · exact validTerm_in As At ns cs nt ct ss zs w hs ht har hn1 hn2 (by omega) (by omega)

end Go.Proofs.Ytojofbmpknpggaa

namespace Go.Proofs.Ytojofbmpknpggaa
open Go.RowKit

theorem sigGo_ar : ∀ (ss : Sg) (l : List (List UInt8)), sigGo l ss = true → ArOk ss
  | [], _, _ => by intro x hx; cases hx
  | y :: r, l, h => by
    simp only [sigGo, symOk, Bool.and_eq_true, decide_eq_true_eq] at h
    intro x hx
    rcases List.mem_cons.1 hx with rfl | hx
    · exact h.1.2.2
    · exact sigGo_ar r _ h.2 x hx
theorem sigOk_ar {ss : Sg} (h : sigOk ss = true) : ArOk ss := by
  simp only [sigOk, Bool.and_eq_true, decide_eq_true_eq] at h
  exact sigGo_ar ss _ h.2.2.2
theorem sigOk_len {ss : Sg} (h : sigOk ss = true) : 1 ≤ ss.length ∧ ss.length ≤ 12 := by
  simp only [sigOk, Bool.and_eq_true, decide_eq_true_eq] at h
  exact ⟨h.1, h.2.1⟩

def valOk (ss : Sg) (zs : List Int) : Bool := sigOk ss && termOk ss zs

set_option maxHeartbeats 400000 in
theorem valid_any (As At : Option Addr) (ns cs nt ct : Nat) (ss : Sg) (zs : List Int) (w : World) (hs : SigAt w w.heap.size As ns ss) (ht : IntsAt w w.heap.size At nt zs) :
    Calls Try.prog 70 #[.slice As ns cs, .slice At nt ct] w fun e w' => e = .returned (.bool (valOk ss zs)) ∧ Below w.heap.size w w' := by
  cases e1 : sigOk ss
  · have H := Lib.hid (show valOk ss zs = false by simp [valOk, e1])
    have C := Lib.hid (validSign_any As ns cs ss w hs)
    have E1 := Lib.hid e1
    clear e1 hs ht
    go_enter Try.func70, Try.ntmps70
    go_wp2_with (go_at_call 69; refine C.out.mono ?_; rintro e w' ⟨rfl, hB⟩; rw [E1.out])
    go_ret
    exact ⟨ret_b H.out.symm, hB⟩
  · have H := Lib.hid (show valOk ss zs = termOk ss zs by simp [valOk, e1])
    have C := Lib.hid (validSign_any As ns cs ss w hs)
    have hl := sigOk_len e1
    rw [← hs.len] at hl
    have C2 := Lib.hid (fun (w' : World) (hB : Below w.heap.size w w') => validTerm_any As At ns cs nt ct ss zs w' ((hs.below hB).more hB.size) ((ht.below hB).more hB.size) (sigOk_ar e1) hl.1 hl.2)
    have E1 := Lib.hid e1
    clear e1 hs ht hl
    go_enter Try.func70, Try.ntmps70
    go_wp2_with (first
      | (go_at_call 69; refine C.out.mono ?_; rintro e w1 ⟨rfl, hB⟩; rw [E1.out]; have HB := Lib.hid hB)
      | (go_at_call 77; refine (C2.out _ HB.out).mono ?_; rintro e w2 ⟨rfl, hB2⟩; have HB2 := Lib.hid hB2))
    go_ret
    exact ⟨ret_b H.out.symm, HB.out.trans (HB2.out.mono HB.out.size)⟩

end Go.Proofs.Ytojofbmpknpggaa
