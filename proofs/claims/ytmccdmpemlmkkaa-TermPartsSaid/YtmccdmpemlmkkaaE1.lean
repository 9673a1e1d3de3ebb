/- Contract: the closure of term.end. -/
import Derived.Test.YtmccdmpemlmkkaaS3
import Derived.Deep.QuietTactic
import Derived.BigQuiet
import Derived.IntWalk
namespace Go.Proofs.Ytmccdmpemlmkkaa
open Go.RowKit

/-- How many arguments the head z has. -/
def arOf (ss : Sg) (z : Int) : Nat := if z < 0 then 0 else ((List.map (fun x : ByteArray × Int => x.2) ss)[z.toNat]?.getD 0).toNat
/-- What is left of a list behind 'need' terms. -/
def scan (ss : Sg) : Nat → List Int → Option (List Int)
  | 0, l => some l
  | _ + 1, [] => none
  | n + 1, z :: l => scan ss (n + arOf ss z) l
theorem scan_zero (ss : Sg) (l : List Int) : scan ss 0 l = some l := by cases l <;> rfl
theorem scan_add (ss : Sg) : ∀ (l : List Int) (m n : Nat), scan ss (m + n) l = (scan ss m l).bind (scan ss n)
  | l, 0, n => by rw [Nat.zero_add, scan_zero]; rfl
  | [], m + 1, n => by rw [show m + 1 + n = (m + n) + 1 from by omega]; rfl
  | z :: l, m + 1, n => by
    rw [show m + 1 + n = (m + n) + 1 from by omega]
    simp only [scan]
    rw [show m + n + arOf ss z = (m + arOf ss z) + n from by omega]
    exact scan_add ss l _ _
theorem scan_suffix (ss : Sg) : ∀ (l : List Int) (n : Nat) (r : List Int), scan ss n l = some r → ∃ p, p ≤ l.length ∧ n ≤ p ∧ r = l.drop p
  | l, 0, r, h => by rw [scan_zero] at h; cases h; exact ⟨0, by omega, by omega, by simp⟩
  | [], n + 1, r, h => by cases h
  | z :: l, n + 1, r, h => by
    simp only [scan] at h
    obtain ⟨p, h1, h2, h3⟩ := scan_suffix ss l _ r h
    exact ⟨p + 1, by simp; omega, by omega, by simpa using h3⟩

/-- The end of the part that begins at an index, or -1. -/
def endI (ss : Sg) (zs : List Int) (i : Nat) : Int :=
  match scan ss 1 (zs.drop i) with
  | none => -1
  | some r => (zs.length - r.length : Nat)

/-- .. of n parts -/
def endN (ss : Sg) (zs : List Int) (n i : Nat) : Int :=
  match scan ss n (zs.drop i) with
  | none => -1
  | some r => (zs.length - r.length : Nat)
theorem endI_out {ss : Sg} {zs : List Int} {i : Nat} (h : zs.length ≤ i) : endI ss zs i = -1 := by
  simp [endI, List.drop_of_length_le h, scan]
theorem endI_var {ss : Sg} {zs : List Int} {i : Nat} (h : i < zs.length) (hz : zs[i] < 0) : endI ss zs i = ((i + 1 : Nat) : Int) := by
  unfold endI
  rw [List.drop_eq_getElem_cons h]
  simp only [scan, arOf, hz, if_true, Nat.zero_add, scan_zero, List.length_drop]
  congr 1; omega
theorem endI_head {ss : Sg} {zs : List Int} {i : Nat} (h : i < zs.length) : endI ss zs i = endN ss zs (arOf ss zs[i]) (i + 1) := by
  unfold endI endN
  rw [List.drop_eq_getElem_cons h]
  simp only [scan, Nat.zero_add]
theorem endN_zero {ss : Sg} {zs : List Int} {i : Nat} (h : i ≤ zs.length) : endN ss zs 0 i = (i : Int) := by
  unfold endN
  rw [scan_zero]
  simp only [List.length_drop]
  congr 1; omega
theorem endN_cases (ss : Sg) (zs : List Int) (n i : Nat) (hi : i ≤ zs.length) : endN ss zs n i = -1 ∨ ∃ p : Nat, endN ss zs n i = (p : Int) ∧ i + n ≤ p ∧ p ≤ zs.length ∧ scan ss n (zs.drop i) = some (zs.drop p) := by
  unfold endN
  cases h : scan ss n (zs.drop i) with
  | none => exact .inl rfl
  | some r =>
    obtain ⟨p, h1, h2, h3⟩ := scan_suffix ss _ _ _ h
    rw [List.length_drop] at h1
    refine .inr ⟨i + p, ?_, by omega, by omega, ?_⟩
    · simp only [h3, List.length_drop]; congr 1; omega
    · rw [h3, List.drop_drop]
theorem endI_eq (ss : Sg) (zs : List Int) (i : Nat) : endI ss zs i = endN ss zs 1 i := rfl
theorem endN_step {ss : Sg} {zs : List Int} {n m i p : Nat} (h : scan ss n (zs.drop i) = some (zs.drop p)) : endN ss zs (n + m) i = endN ss zs m p := by
  unfold endN
  rw [scan_add, h]
  rfl


theorem endN_fail {ss : Sg} {zs : List Int} {j r i p : Nat} (h : scan ss j (zs.drop i) = some (zs.drop p)) (hj : j < r) (he : endI ss zs p = -1) : endN ss zs r i = -1 := by
  have e : r = j + (1 + (r - j - 1)) := by omega
  rw [e, endN_step h]
  unfold endI at he
  unfold endN
  cases h1 : scan ss 1 (zs.drop p) with
  | none => rw [scan_add, h1]; rfl
  | some r => rw [h1] at he; simp only at he; omega
theorem endN_next {ss : Sg} {zs : List Int} {j i p p' : Nat} (h : scan ss j (zs.drop i) = some (zs.drop p)) (h2 : scan ss 1 (zs.drop p) = some (zs.drop p')) : scan ss (j + 1) (zs.drop i) = some (zs.drop p') := by
  rw [scan_add, h]; exact h2
theorem endN_done {ss : Sg} {zs : List Int} {j i p : Nat} (h : scan ss j (zs.drop i) = some (zs.drop p)) (hp : p ≤ zs.length) : endN ss zs j i = (p : Int) := by
  have := endN_step (m := 0) h
  rw [Nat.add_zero] at this
  rw [this, endN_zero hp]
theorem arOf_at {ss : Sg} {q : Nat} (h : q < ss.length) : arOf ss (q : Int) = ss[q].2.toNat := by
  unfold arOf
  rw [if_neg (by omega)]
  simp [List.getElem?_eq_getElem h]

/-- Arities are from 0 to 3. -/
def ArOk (ss : Sg) : Prop := ∀ x ∈ ss, 0 ≤ x.2 ∧ x.2 ≤ 3
def HeadsOk (ss : Sg) (zs : List Int) : Prop := ∀ z ∈ zs, z < (ss.length : Int)

set_option maxRecDepth 100000 in
set_option maxHeartbeats 1000000 in
theorem endC_any (ss : Sg) (zs : List Int) (har : ArOk ss) (hz : HeadsOk ss zs) (bt offt nt ct bs offs ns cs Bt Bs Bf : Nat) (hnt : nt = zs.length) (hns : ns = ss.length) (hnt2 : nt ≤ 1000000) (hns2 : ns ≤ 1000000) :
    ∀ (m i : Nat), zs.length - i < m → ∀ w : World, w.cell? ⟨Bt, 0, none⟩ = some (.slice (some ⟨bt, offt, none⟩) nt ct) → w.cell? ⟨Bs, 0, none⟩ = some (.slice (some ⟨bs, offs, none⟩) ns cs) →
    w.cell? ⟨Bf, 0, none⟩ = some (.func (.func 79) #[] #[.pointer (some ⟨Bt, 0, none⟩), .pointer (some ⟨Bs, 0, none⟩), .pointer (some ⟨Bf, 0, none⟩)]) →
    (∀ j (h : j < zs.length), w.cell? ⟨bt, offt + j, none⟩ = some (.int .i64 zs[j])) → SigIn w bs offs ss → i ≤ 1000000 →
    Calls Try.prog 79 #[.int .i64 i, .pointer (some ⟨Bt, 0, none⟩), .pointer (some ⟨Bs, 0, none⟩), .pointer (some ⟨Bf, 0, none⟩)] w fun e w' => e = .returned (.int .i64 (endI ss zs i)) ∧ ∃ k, w' = w.drewN k := by
  intro m
  induction m with
  | zero => intro i h; omega
  | succ m ih =>
    intro i hi w hct hcs hcf hcz hsg hi2
    by_cases hlt : i < zs.length
    · have hcz1 := hcz i hlt
      by_cases hneg : zs[i] < 0
      · have H := Lib.hid (endI_var (ss := ss) hlt hneg)
        obtain ⟨z, hzz⟩ : ∃ z, zs[i] = z := ⟨_, rfl⟩
        rw [hzz] at hneg hcz1
        clear ih hcz hsg hi hzz hz har
        have hl2 : i < nt := by omega
        clear hnt hns hlt
        go_enter Try.func79, Try.ntmps79
        go_wp2
        go_ret
        exact ⟨ret_i (by rw [H.out]; omega), 0, rfl⟩
      · have hin := List.getElem_mem hlt
        have hzl := hz _ hin
        have HH := Lib.hid (endI_head (ss := ss) hlt)
        obtain ⟨q, hq⟩ : ∃ q : Nat, zs[i] = (q : Int) := ⟨zs[i].toNat, by omega⟩
        rw [hq] at hzl hcz1 HH
        have hql : q < ss.length := by omega
        rw [arOf_at hql] at HH
        have hc3 := hsg.ar q hql
        obtain ⟨ha0, ha3⟩ := har _ (List.getElem_mem hql)
        obtain ⟨r, hr⟩ : ∃ r : Nat, ss[q].2 = (r : Int) := ⟨ss[q].2.toNat, by omega⟩
        rw [hr] at hc3 HH ha3
        rw [Int.toNat_natCast] at HH
        have hr3 : r ≤ 3 := by omega
        have IH := Lib.hid ih
        have HCZ := Lib.hid hcz
        have hl2 : i < nt := by omega
        have hi1 : (i : Int) < (nt : Int) := by omega
        have hi0 : (0 : Int) ≤ (i : Int) := by omega
        have hq0 : (0 : Int) ≤ (q : Int) := by omega
        have hq1 : (q : Int) < (ns : Int) := by omega
        have hqn : ¬ (q : Int) < 0 := by omega
        have hlen : nt ≤ zs.length ∧ zs.length ≤ nt := by omega
        clear ih hcz hzl hq hneg ha0 ha3 hr hin
        clear hnt hns
        go_enter Try.func79, Try.ntmps79
        go_wp2_with fail
        go_quiet (fail)
        go_wp2_with fail
        go_loopw [6, 27] (fun nx c wr => ∃ j p : Nat, j ≤ r ∧ c = .int .i64 j ∧ nx = .int .i64 p ∧ i + 1 ≤ p ∧ p ≤ nt ∧ scan ss j (zs.drop (i + 1)) = some (zs.drop p) ∧ ∃ k, wr = w.drewN k) (fun _ c _ => r - (intOf c).toNat)
        case atStart => exact ⟨0, i + 1, by omega, rfl, by go_num, by omega, by omega, scan_zero _ _, _, rfl⟩
        case round =>
          obtain ⟨j, p, hj, rfl, rfl, hp1, hp2, hscan, k0, rfl⟩ := hrel
          by_cases hjr : j < r
          · rcases endN_cases ss zs 1 p (by omega) with hfail | ⟨p', hgood, hp3, hp4, hscan'⟩
            · have H := Lib.hid (endN_fail hscan hjr hfail)
              rw [← endI_eq] at hfail
              have HF := Lib.hid hfail
              have HS := Lib.hid hsg
              clear hfail hscan hsg
              go_wp2_with (go_at_call 79; refine (IH.out p (by omega) (w.drewN k0) hct hcs hcf HCZ.out (HS.out.keep fun _ => rfl) (by omega)).mono ?_; rintro e w' ⟨rfl, k1, rfl⟩; rw [HF.out])
              go_ret
              exact ⟨ret_i (by rw [HH.out, H.out]), _, rfl⟩
            · have H := Lib.hid (endN_next hscan hscan')
              rw [← endI_eq] at hgood
              have HF := Lib.hid hgood
              have HS := Lib.hid hsg
              clear hgood hscan hsg hscan'
              go_wp2_with (go_at_call 79; refine (IH.out p (by omega) (w.drewN k0) hct hcs hcf HCZ.out (HS.out.keep fun _ => rfl) (by omega)).mono ?_; rintro e w' ⟨rfl, k1, rfl⟩; rw [HF.out])
              go_roundw
              case rel => exact ⟨j + 1, p', by omega, by go_num, rfl, by omega, by omega, H.out, _, rfl⟩
              case measure => simp [intOf]; omega
          · obtain rfl : j = r := by omega
            have H := Lib.hid (endN_done hscan (by omega))
            clear hscan
            go_wp2
            go_ret
            exact ⟨ret_i (by rw [HH.out, H.out]), _, rfl⟩
    · have H := Lib.hid (endI_out (ss := ss) (by omega : zs.length ≤ i))
      have hge : nt ≤ i := by omega
      clear ih hcz hsg hi hlt
      clear hnt hns
      go_enter Try.func79, Try.ntmps79
      go_wp2
      go_ret
      exact ⟨ret_i H.out.symm, 0, rfl⟩

end Go.Proofs.Ytmccdmpemlmkkaa
