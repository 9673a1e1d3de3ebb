/- Contract: the reference's End. -/
import Derived.Test.YtapcdhagkbfccaaGreatW0g
import Derived.Test.YtapcdhagkbfccaaGreatS3g
import Derived.Test.YtapcdhagkbfccaaGreatV1g
/- Contracts: the reference's within, isName, ValidSign. -/
namespace Go.Proofs.YtapcdhagkbfccaaGreat
open Go.RowKit

def witB (n lo hi : Int) : Bool := decide (lo ≤ n) && decide (n ≤ hi)
set_option maxHeartbeats 400000 in
theorem within_any (n lo hi : Int) (w : World) : Calls Tryz.prog 60 #[.int .i64 n, .int .i64 lo, .int .i64 hi] w fun e w' => e = .returned (.bool (witB n lo hi)) ∧ w = w' := by
  unfold witB
  by_cases h1 : lo ≤ n <;> by_cases h2 : n ≤ hi
  all_goals
    go_enter Tryz.func60, Tryz.ntmps60
    go_wp2
    go_ret
    simp [*]

theorem nameOk_eq {s : ByteArray} (h : Lets s s.size) : nameOk s.data.toList = witB (s.size : Int) 1 8 := by
  by_cases h1 : s.size < 1 ∨ 8 < s.size
  · rw [nameOk_long h1]
    unfold witB
    rcases h1 with h1 | h1
    · rw [decide_eq_false (by omega : ¬ (1 : Int) ≤ s.size)]; rfl
    · rw [decide_eq_false (by omega : ¬ (s.size : Int) ≤ 8)]; simp
  · rw [nameOk_good (by omega) (by omega) h]
    unfold witB
    rw [decide_eq_true (by omega : (1 : Int) ≤ s.size), decide_eq_true (by omega : (s.size : Int) ≤ 8)]; rfl

set_option maxRecDepth 100000 in
set_option maxHeartbeats 1000000 in
theorem isName_any (s : ByteArray) (w : World) (hs : s.size ≤ maxLen) :
    Calls Tryz.prog 91 #[.string s] w fun e w' => e = .returned (.bool (nameOk s.data.toList)) ∧ w = w' := by
  unfold maxLen at hs
  go_enter Tryz.func91, Tryz.ntmps91
  go_wp2
  go_loop [3] (fun i => ∃ k : Nat, k ≤ s.size ∧ i = .int .i64 k ∧ Lets s k) (fun i => s.size - (intOf i).toNat)
  case atStart => exact ⟨0, Nat.zero_le _, rfl, Lets.zero s⟩
  case round =>
    obtain ⟨k, hk, rfl, hL⟩ := hrel
    by_cases hlt : k < s.size
    · have hbad := nameOk_bad hlt
      have hgood := hL.succ hlt
      have hb0 : (s[k].toNat : Int) < 256 := by have := s[k].toNat_lt; omega
      have hb1 : (0 : Int) ≤ (s[k].toNat : Int) := by omega
      cases e1 : witB (s[k].toNat : Int) 97 122
      · cases e2 : witB (s[k].toNat : Int) 65 90
        · have H := Lib.hid (hbad (by
            unfold witB at e1 e2
            unfold ltrI
            rw [e1, e2]; rfl))
          have E1 := Lib.hid e1
          have E2 := Lib.hid e2
          clear e1 e2 hbad hgood hL
          go_wp2_with (first
            | (go_at_call 60; ((with_reducible refine (within_any _ 97 122 _).mono ?_); rintro e w' ⟨rfl, rfl⟩; rw [E1.out]))
            | (go_at_call 60; ((with_reducible refine (within_any _ 65 90 _).mono ?_); rintro e w' ⟨rfl, rfl⟩; rw [E2.out])))
          go_ret
          exact ⟨ret_b H.out.symm, rfl⟩
        · have H := Lib.hid (hgood (by
            unfold witB at e1 e2
            unfold ltrI
            rw [e2]; simp))
          have E1 := Lib.hid e1
          have E2 := Lib.hid e2
          clear e1 e2 hbad hgood hL
          go_wp2_with (first
            | (go_at_call 60; ((with_reducible refine (within_any _ 97 122 _).mono ?_); rintro e w' ⟨rfl, rfl⟩; rw [E1.out]))
            | (go_at_call 60; ((with_reducible refine (within_any _ 65 90 _).mono ?_); rintro e w' ⟨rfl, rfl⟩; rw [E2.out])))
          go_round
          case rel => exact ⟨k + 1, by omega, by go_num, H.out⟩
          case measure => simp [intOf]; omega
      · have H := Lib.hid (hgood (by
          unfold witB at e1
          unfold ltrI
          rw [e1]; simp))
        have E1 := Lib.hid e1
        clear e1 hbad hgood hL
        go_wp2_with (go_at_call 60; ((with_reducible refine (within_any _ 97 122 _).mono ?_); rintro e w' ⟨rfl, rfl⟩; rw [E1.out]))
        go_round
        case rel => exact ⟨k + 1, by omega, by go_num, H.out⟩
        case measure => simp [intOf]; omega
    · obtain rfl : k = s.size := by omega
      have H := Lib.hid (nameOk_eq hL)
      clear hL
      go_wp2_with (go_at_call 60; ((with_reducible refine (within_any _ 1 8 _).mono ?_); rintro e w' ⟨rfl, rfl⟩))
      go_ret
      exact ⟨ret_b H.out.symm, rfl⟩

end Go.Proofs.YtapcdhagkbfccaaGreat

/- Contract: the reference's ValidSign. -/
namespace Go.Proofs.YtapcdhagkbfccaaGreat
open Go.RowKit

theorem nms_mem {ss : Sg} {k : Nat} (hk : k ≤ ss.length) (nm : List UInt8) : (nms ss k).contains nm = true ↔ ∃ j, ∃ h : j < ss.length, j < k ∧ ss[j].1.data.toList = nm := by
  unfold nms
  rw [List.contains_iff_mem, List.mem_reverse, List.mem_map]
  constructor
  · rintro ⟨x, hx, rfl⟩
    obtain ⟨i, hi, rfl⟩ := List.mem_iff_getElem.1 hx
    rw [List.length_take] at hi
    exact ⟨i, by omega, by omega, by rw [List.getElem_take]⟩
  · rintro ⟨j, hj, hlt, rfl⟩
    exact ⟨ss[j], List.mem_iff_getElem.2 ⟨j, by rw [List.length_take]; omega, by rw [List.getElem_take]⟩, rfl⟩
def Differ (ss : Sg) (i : Nat) (hi : i < ss.length) (j : Nat) : Prop := ∀ j' (h : j' < ss.length), j' < j → j' < i → ss[j'].1 ≠ ss[i].1
theorem Differ.not_in {ss : Sg} {i : Nat} {hi : i < ss.length} (h : Differ ss i hi i) : (nms ss i).contains ss[i].1.data.toList = false := by
  cases e : (nms ss i).contains ss[i].1.data.toList
  · rfl
  · obtain ⟨j, hj, hlt, he⟩ := (nms_mem (Nat.le_of_lt hi) _).1 e
    refine absurd ?_ (h j hj hlt hlt)
    have h1 : ss[j].1.data = ss[i].1.data := Array.toList_inj.1 he
    exact ByteArray.ext h1
theorem in_of_eq {ss : Sg} {i j : Nat} (hi : i < ss.length) (hj : j < ss.length) (hlt : j < i) (e : ss[j].1 = ss[i].1) : (nms ss i).contains ss[i].1.data.toList = true :=
  (nms_mem (Nat.le_of_lt hi) _).2 ⟨j, hj, hlt, by rw [e]⟩

set_option maxHeartbeats 400000 in
theorem refSign_out (A : Option Addr) (n c : Nat) (ss : Sg) (w : World) (B : Nat) (hs : SigAt w B A n ss) (h : n < 1 ∨ 12 < n) :
    Calls Tryz.prog 59 #[.slice A n c] w fun e w' => e = .returned (.bool (sigOk ss)) ∧ w = w' := by
  have hl := hs.len
  have H := Lib.hid (sigOk_out (ss := ss) (by omega))
  have hm := hs.max
  have HW := Lib.hid (show witB (n : Int) 1 12 = false by
    unfold witB
    rcases h with h | h
    · rw [decide_eq_false (by omega : ¬ (1 : Int) ≤ n)]; rfl
    · rw [decide_eq_false (by omega : ¬ (n : Int) ≤ 12)]; simp)
  clear hl hs h
  go_enter Tryz.func59, Tryz.ntmps59
  go_wp2_with (go_at_call 60; ((with_reducible refine (within_any _ 1 12 _).mono ?_); rintro e w' ⟨rfl, rfl⟩; rw [HW.out]))
  go_ret
  exact ⟨ret_b H.out.symm, rfl⟩

set_option maxHeartbeats 400000 in
theorem refSign_head (b off n c : Nat) (nm : ByteArray) (ar : Int) (r : Sg) (w : World) (hs : SigIn w b off ((nm, ar) :: r)) (hn : 1 ≤ n) (hn2 : n ≤ 12) (h : ¬ ar = 2) :
    Calls Tryz.prog 59 #[.slice (some ⟨b, off, none⟩) n c] w fun e w' => e = .returned (.bool (sigOk ((nm, ar) :: r))) ∧ w = w' := by
  have H := Lib.hid (sigOk_head (ss := (nm, ar) :: r) (by simp [sigHead, h]))
  have c1 := hs.ar 0 (by simp)
  simp only [Nat.zero_mul, Nat.add_zero, List.getElem_cons_zero] at c1
  have HW := Lib.hid (show witB (n : Int) 1 12 = true by
    unfold witB
    rw [decide_eq_true (by omega : (1 : Int) ≤ n), decide_eq_true (by omega : (n : Int) ≤ 12)]; rfl)
  clear hs
  have h2 : (ar != 2) = true := by simpa using h
  go_enter Tryz.func59, Tryz.ntmps59
  go_wp2_with (go_at_call 60; ((with_reducible refine (within_any _ 1 12 _).mono ?_); rintro e w' ⟨rfl, rfl⟩; rw [HW.out]))
  go_ret
  exact ⟨ret_b H.out.symm, rfl⟩

set_option maxRecDepth 100000 in
set_option maxHeartbeats 1000000 in
theorem refSign_in (b off n c : Nat) (ss : Sg) (w : World) (hs : SigIn w b off ss) (hfit : ∀ x ∈ ss, x.1.size ≤ maxLen) (hl : ss.length = n) (hn : 1 ≤ n) (hn2 : n ≤ 12) (hh : sigHead ss = true) (c2 : w.cell? ⟨b, off + 1, none⟩ = some (.int .i64 2)) :
    Calls Tryz.prog 59 #[.slice (some ⟨b, off, none⟩) n c] w fun e w' => e = .returned (.bool (sigOk ss)) ∧ ∃ k, w' = w.drewN k := by
  have HH := Lib.hid hh
  have HL := Lib.hid hl
  have HS := Lib.hid hs
  have HFIT := Lib.hid hfit
  have HW := Lib.hid (show witB (n : Int) 1 12 = true by
    unfold witB
    rw [decide_eq_true (by omega : (1 : Int) ≤ n), decide_eq_true (by omega : (n : Int) ≤ 12)]; rfl)
  clear hh hl hs hfit
  go_enter Tryz.func59, Tryz.ntmps59
  go_wp2_with (go_at_call 60; ((with_reducible refine (within_any _ 1 12 _).mono ?_); rintro e w' ⟨rfl, rfl⟩; rw [HW.out]))
  clear c2
  go_loopw [3] (fun i wr => ∃ k : Nat, k ≤ n ∧ i = .int .i64 k ∧ Goes ss k ∧ ∃ m, wr = w.drewN m) (fun i _ => n - (intOf i).toNat)
  case atStart => exact ⟨0, Nat.zero_le _, rfl, Goes.zero ss, 0, rfl⟩
  case round =>
    obtain ⟨k, hk, rfl, hG, m, rfl⟩ := hrel
    by_cases hlt : k < n
    · have hk' : k < ss.length := by rw [HL.out]; exact hlt
      have hc0 := HS.out.name k hk'
      have hc1 := HS.out.ar k hk'
      have hf := HFIT.out ss[k] (List.getElem_mem hk')
      have hbad := hG.bad hk'
      have hgood := hG.succ hk'
      have hin := fun j hj hlt e => in_of_eq (ss := ss) (i := k) (j := j) hk' hj hlt e
      have hnot := fun h => Differ.not_in (ss := ss) (i := k) (hi := hk') h
      obtain ⟨nm, ar, hx⟩ : ∃ nm ar, ss[k] = (nm, ar) := ⟨_, _, rfl⟩
      have hdif : ∀ j, Differ ss k hk' j ↔ ∀ j' (h : j' < ss.length), j' < j → j' < k → ss[j'].1 ≠ nm := by intro j; unfold Differ; rw [hx]
      simp only [hx] at hc0 hc1 hf hbad hgood hin hnot
      have HDIF := Lib.hid hdif
      have HIN := Lib.hid hin
      have HNOT := Lib.hid hnot
      have HBAD := Lib.hid hbad
      have HGOOD := Lib.hid hgood
      clear hx hdif hin hnot hbad hgood hG
      cases e1 : nameOk nm.data.toList
      · have H := Lib.hid (HBAD.out (by simp [symOk, e1]))
        have E1 := Lib.hid e1
        clear e1
        go_wp2_with (go_at_call 91; refine (isName_any _ _ hf).mono ?_; rintro e w' ⟨rfl, rfl⟩; rw [E1.out])
        go_ret
        exact ⟨ret_b H.out.symm, _, rfl⟩
      · have E1 := Lib.hid e1
        cases e2 : witB ar 0 3
        · have H := Lib.hid (HBAD.out (by
            unfold witB at e2
            simp only [symOk, e2]; simp))
          have E2 := Lib.hid e2
          clear e1 e2
          go_wp2_with (first
            | (go_at_call 91; refine (isName_any _ _ hf).mono ?_; rintro e w' ⟨rfl, rfl⟩; rw [E1.out])
            | (go_at_call 60; ((with_reducible refine (within_any _ 0 3 _).mono ?_); rintro e w' ⟨rfl, rfl⟩; rw [E2.out])))
          go_ret
          exact ⟨ret_b H.out.symm, _, rfl⟩
        · have E2 := Lib.hid e2
          clear e1 e2
          go_wp2_with (first
            | (go_at_call 91; refine (isName_any _ _ hf).mono ?_; rintro e w' ⟨rfl, rfl⟩; rw [E1.out])
            | (go_at_call 60; ((with_reducible refine (within_any _ 0 3 _).mono ?_); rintro e w' ⟨rfl, rfl⟩; rw [E2.out])))
          have hE := Lib.hid (And.intro E1.out E2.out)
          go_loopw [4] (fun jj wq => ∃ q : Nat, q ≤ k ∧ jj = .int .i64 q ∧ (∀ j' (h : j' < ss.length), j' < q → j' < k → ss[j'].1 ≠ nm) ∧ ∃ m', wq = w.drewN m') (fun jj _ => k - (intOf jj).toNat)
          case atStart => exact ⟨0, Nat.zero_le _, rfl, fun _ _ h => absurd h (by omega), _, rfl⟩
          case round =>
            obtain ⟨q, hq, rfl, hD, m', rfl⟩ := hrel
            have HD := Lib.hid hD
            clear hD
            by_cases hqk : q < k
            · have hq' : q < ss.length := by omega
              have hd0 := HS.out.name q hq'
              have hin := HIN.out q hq' hqk
              obtain ⟨nm2, hx2⟩ : ∃ nm2, ss[q].1 = nm2 := ⟨_, rfl⟩
              rw [hx2] at hd0 hin
              have hq0 : (0 : Int) ≤ (q : Int) := by omega
              have hq1 : (q : Int) < (n : Int) := by omega
              have hk0 : (0 : Int) ≤ (k : Int) := by omega
              have hk1 : (k : Int) < (n : Int) := by omega
              by_cases e : nm2 = nm
              · have H := Lib.hid (HBAD.out (by simp only [symOk, hin e]; simp))
                have he : (nm2.toList == nm.toList) = true := by simp [e]
                clear hin hx2 e
                go_wp2_with fail
                go_quiet (fail)
                go_wp2
                go_ret
                exact ⟨ret_b H.out.symm, _, World.drewN_drewN ..⟩
              · have H : Hid (∀ j' (h : j' < ss.length), j' < q + 1 → j' < k → ss[j'].1 ≠ nm) := by
                  intro j' h hlt2 hlt3
                  by_cases hjq : j' < q
                  · exact HD.out j' h hjq hlt3
                  · obtain rfl : j' = q := by omega
                    rw [hx2]; exact e
                have he : (nm2.toList == nm.toList) = false := by
                  rw [beq_eq_false_iff_ne, ne_eq, ByteArray.toList_eq, ByteArray.toList_eq]
                  exact fun h => e (ByteArray.ext (Array.toList_inj.1 h))
                clear hin hx2 e
                go_wp2_with fail
                go_quiet (fail)
                go_wp2
                go_roundw
                case rel => exact ⟨q + 1, by omega, by go_num, H.out, _, rfl⟩
                case measure => simp [intOf]; omega
            · obtain rfl : q = k := by omega
              have H := Lib.hid (HGOOD.out (by
                have h1 := HNOT.out ((HDIF.out q).2 HD.out)
                have h2 := hE.out.2
                unfold witB at h2
                simp only [symOk, h1, h2, hE.out.1]; rfl))
              go_wp2
              go_roundw
              case rel => exact ⟨q + 1, by omega, by go_num, H.out, _, rfl⟩
              case measure => simp [intOf]; omega
    · obtain rfl : k = n := by omega
      have H := Lib.hid (Goes.good (by rw [HL.out]; exact hG) (by rw [HL.out]; exact hn) (by rw [HL.out]; exact hn2) HH.out)
      clear hG
      go_wp2
      go_ret
      exact ⟨ret_b H.out.symm, _, rfl⟩

theorem refSign_any (A : Option Addr) (n c : Nat) (ss : Sg) (w : World) (B : Nat) (hs : SigAt w B A n ss) :
    Calls Tryz.prog 59 #[.slice A n c] w fun e w' => e = .returned (.bool (sigOk ss)) ∧ ∃ k, w' = w.drewN k := by
  by_cases h : n < 1 ∨ 12 < n
  · exact (refSign_out A n c ss w _ hs h).mono fun e w' ⟨h1, h2⟩ => ⟨h1, 0, h2.symm⟩
  · obtain ⟨b, off, rfl, hb, hc⟩ := hs.mem (by omega)
    have hl := hs.len
    cases ss with
    | nil => simp at hl; omega
    | cons x r =>
      obtain ⟨nm, ar⟩ := x
      by_cases h2 : ar = 2
      · subst h2
        have c1 := hc.ar 0 (by simp)
        simp only [Nat.zero_mul, Nat.add_zero, List.getElem_cons_zero] at c1
        exact refSign_in b off n c _ w hc hs.fit hl.symm (by omega) (by omega) (by simp [sigHead]) c1
      · exact (refSign_head b off n c nm ar r w hc (by omega) (by omega) h2).mono fun e w' ⟨h1, h2⟩ => ⟨h1, 0, h2.symm⟩

end Go.Proofs.YtapcdhagkbfccaaGreat

/- Contracts: the reference's Arity, Valid. -/
namespace Go.Proofs.YtapcdhagkbfccaaGreat
open Go.RowKit

set_option maxHeartbeats 400000 in
theorem arity_any (As : Option Addr) (ns cs : Nat) (ss : Sg) (z : Int) (w : World) (B : Nat) (hs : SigAt w B As ns ss) (har : ArOk ss) (hz : z < (ns : Int)) :
    Calls Tryz.prog 61 #[.slice As ns cs, .int .i64 z] w fun e w' => e = .returned (.int .i64 (arOf ss z : Nat)) ∧ w = w' := by
  have hl := hs.len
  have hm := hs.max
  by_cases hneg : z < 0
  · have H := Lib.hid (show (0 : Int) = (arOf ss z : Nat) by simp [arOf, hneg])
    clear hs har hl
    go_enter Tryz.func61, Tryz.ntmps61
    go_wp2
    go_ret
    exact ⟨ret_i H.out, rfl⟩
  · obtain ⟨q, rfl⟩ : ∃ q : Nat, z = (q : Int) := ⟨z.toNat, by omega⟩
    have hq : q < ss.length := by omega
    obtain ⟨b, off, rfl, _, hc⟩ := hs.mem (by omega)
    have c1 := hc.ar q hq
    have ha := har _ (List.getElem_mem hq)
    have H := Lib.hid (show ss[q].2 = (arOf ss (q : Int) : Nat) by rw [arOf_at hq]; omega)
    obtain ⟨a, haa⟩ : ∃ a, ss[q].2 = a := ⟨_, rfl⟩
    rw [haa] at c1 H
    have hq' : q < ns := by omega
    clear hs har hl hc ha haa hz hq
    go_enter Tryz.func61, Tryz.ntmps61
    go_wp2
    go_ret
    exact ⟨ret_i H.out, rfl⟩

theorem arOf_le {ss : Sg} (har : ArOk ss) (z : Int) : arOf ss z ≤ 3 := by
  unfold arOf
  split
  · omega
  · rw [List.getElem?_map]
    cases h : ss[z.toNat]? with
    | none => simp
    | some x =>
      have := har x (List.mem_of_getElem? h)
      simp; omega

theorem termOk_scan {ss : Sg} {zs : List Int} (h : scan ss 1 zs ≠ some []) : termOk ss zs = false := by
  simp [termOk, h]
def Need (ss : Sg) (zs : List Int) (k N : Nat) : Prop := scan ss 1 zs = scan ss N (zs.drop k)
theorem Need.succ {ss : Sg} {zs : List Int} {k N : Nat} (h : Need ss zs k (N + 1)) (hk : k < zs.length) : Need ss zs (k + 1) (N + arOf ss zs[k]) := by
  unfold Need at h ⊢
  rw [h, List.drop_eq_getElem_cons hk]
  rfl
theorem Need.zero_bad {ss : Sg} {zs : List Int} {k : Nat} (h : Need ss zs k 0) (hk : k < zs.length) : termOk ss zs = false := by
  apply termOk_scan
  unfold Need at h
  rw [h, scan_zero]
  intro e
  have := congrArg List.length (Option.some.inj e)
  rw [List.length_drop] at this
  simp at this; omega
theorem Need.done {ss : Sg} {zs : List Int} {N : Nat} (h : Need ss zs zs.length N) (hn : NumsTo ss zs zs.length) (h1 : 1 ≤ zs.length) (h2 : zs.length ≤ 60) : termOk ss zs = ((N : Int) == 0) := by
  rw [termOk_good h1 h2 hn]
  unfold Need at h
  rw [h, List.drop_length]
  cases N with
  | zero => simp [scan_zero]
  | succ N =>
    have : (((N + 1 : Nat) : Int) == 0) = false := by simp; omega
    rw [this]
    simp [scan]

theorem witB_true {n lo hi : Int} (h1 : lo ≤ n) (h2 : n ≤ hi) : witB n lo hi = true := by simp [witB, h1, h2]
theorem witB_false {n lo hi : Int} (h : n < lo ∨ hi < n) : witB n lo hi = false := by
  unfold witB
  rcases h with h | h
  · rw [decide_eq_false (by omega : ¬ lo ≤ n)]; rfl
  · rw [decide_eq_false (by omega : ¬ n ≤ hi)]; simp

set_option maxRecDepth 100000 in
set_option maxHeartbeats 1000000 in
theorem refValid_any (As At : Option Addr) (ns cs nt ct : Nat) (ss : Sg) (zs : List Int) (w : World) (B : Nat) (hs : SigAt w B As ns ss) (ht : IntsAt w B At nt zs) :
    Calls Tryz.prog 43 #[.slice As ns cs, .slice At nt ct] w fun e w' => e = .returned (.bool (valOk ss zs)) ∧ ∃ k, w' = w.drewN k := by
  have C := Lib.hid (refSign_any As ns cs ss w B hs)
  have hlt := ht.len
  have hmt := ht.max
  cases e1 : sigOk ss
  · have H := Lib.hid (show valOk ss zs = false by simp [valOk, e1])
    have E1 := Lib.hid e1
    clear e1 hs ht hlt
    go_enter Tryz.func43, Tryz.ntmps43
    go_wp2_with (go_at_call 59; refine C.out.mono ?_; rintro e w' ⟨rfl, j1, rfl⟩; rw [E1.out])
    go_ret
    exact ⟨ret_b H.out.symm, _, rfl⟩
  · have HV := Lib.hid (show valOk ss zs = termOk ss zs by simp [valOk, e1])
    have har := Lib.hid (sigOk_ar e1)
    have hl := sigOk_len e1
    have hls := hs.len
    rw [← hls] at hl
    have E1 := Lib.hid e1
    have HS := Lib.hid hs
    have HT := Lib.hid ht
    have HLS := Lib.hid hls
    have HLT := Lib.hid hlt
    by_cases hout : nt < 1 ∨ 60 < nt
    · have H := Lib.hid (termOk_out (ss := ss) (zs := zs) (by omega))
      have HW := Lib.hid (witB_false (n := (nt : Int)) (lo := 1) (hi := 60) (by omega))
      clear e1 hs ht hlt hls hl hout
      go_enter Tryz.func43, Tryz.ntmps43
      go_wp2_with (first
        | (go_at_call 59; refine C.out.mono ?_; rintro e w' ⟨rfl, j1, rfl⟩; rw [E1.out])
        | (go_at_call 60; ((with_reducible refine (within_any _ 1 60 _).mono ?_); rintro e w' ⟨rfl, rfl⟩; rw [HW.out])))
      go_ret
      exact ⟨ret_b (by rw [HV.out, H.out]), _, rfl⟩
    · have h1 : 1 ≤ nt := by omega
      have h2 : nt ≤ 60 := by omega
      have HW := Lib.hid (witB_true (n := (nt : Int)) (lo := 1) (hi := 60) (by omega) (by omega))
      clear e1 hs ht hlt hls hout
      go_enter Tryz.func43, Tryz.ntmps43
      go_wp2_with (first
        | (go_at_call 59; refine C.out.mono ?_; rintro e w' ⟨rfl, j1, rfl⟩; rw [E1.out])
        | (go_at_call 60; ((with_reducible refine (within_any _ 1 60 _).mono ?_); rintro e w' ⟨rfl, rfl⟩; rw [HW.out])))
      go_loopw [5, 6] (fun nd i wr => ∃ k N : Nat, k ≤ nt ∧ i = .int .i64 k ∧ nd = .int .i64 N ∧ N ≤ 1 + 3 * k ∧ Need ss zs k N ∧ NumsTo ss zs k ∧ ∃ m, wr = w.drewN m) (fun _ i _ => nt - (intOf i).toNat)
      case atStart => exact ⟨0, 1, Nat.zero_le _, rfl, rfl, by omega, by simp [Need], NumsTo.zero _ _, _, rfl⟩
      case round =>
        obtain ⟨k, N, hk, rfl, rfl, hN3, hNd, hNum, m, rfl⟩ := hrel
        by_cases hlt : k < nt
        · obtain ⟨b, off, z, rfl, c1, k1, e1⟩ := HT.out.cellAt hlt
          have hbad := termOk_bad (ss := ss) k1
          have hgood := hNum.succ k1
          have hk0 : (0 : Int) ≤ (k : Int) := by omega
          have hk1 : (k : Int) < (nt : Int) := by omega
          cases N with
          | zero =>
            have H := Lib.hid (hNd.zero_bad k1)
            clear hNd hNum hbad hgood e1
            go_wp2
            go_ret
            exact ⟨ret_b (by rw [HV.out, H.out]), _, rfl⟩
          | succ N =>
            have hnx := hNd.succ k1
            rw [e1] at hbad hgood hnx
            have hN0 : (((N : Int) + 1) == 0) = false := by simp; omega
            have hN0' : (((N + 1 : Nat) : Int) == 0) = false := by simp; omega
            cases e2 : witB z (-12) ((ns : Int) - 1)
            · have H := Lib.hid (hbad (by
                have := HLS.out
                unfold witB at e2
                unfold numOk
                cases hh : decide (-12 ≤ z)
                · rfl
                · rw [hh] at e2
                  simp only [Bool.true_and, decide_eq_false_iff_not] at e2 ⊢
                  omega))
              have E2 := Lib.hid e2
              clear e2 hNd hNum hbad hgood hnx
              go_wp2_with (go_at_call 60; ((with_reducible refine (within_any _ (-12) _ _).mono ?_); rintro e w' ⟨rfl, rfl⟩; rw [E2.out]))
              go_ret
              exact ⟨ret_b (by rw [HV.out, H.out]), _, rfl⟩
            · have hzl : z < (ns : Int) := by
                unfold witB at e2
                simp only [Bool.and_eq_true, decide_eq_true_eq] at e2
                omega
              have H := Lib.hid (hgood (by
                have := HLS.out
                unfold witB at e2
                simp only [Bool.and_eq_true, decide_eq_true_eq] at e2
                unfold numOk
                simp only [Bool.and_eq_true, decide_eq_true_eq]
                omega))
              have E2 := Lib.hid e2
              have ha3 := arOf_le har.out z
              have HA := Lib.hid (fun (m : Nat) => arity_any As ns cs ss z (w.drewN m) B (HS.out.keep fun p _ => rfl) har.out hzl)
              obtain ⟨a, ha⟩ : ∃ a, arOf ss z = a := ⟨_, rfl⟩
              rw [ha] at hnx ha3
              simp only [ha] at HA
              have HNX := Lib.hid hnx
              clear e2 hNd hNum hbad hgood hnx ha e1
              go_wp2_with (first
                | (go_at_call 60; ((with_reducible refine (within_any _ (-12) _ _).mono ?_); rintro e w' ⟨rfl, rfl⟩; rw [E2.out]))
                | (go_at_call 61; refine (HA.out _).mono ?_; rintro e w' ⟨rfl, rfl⟩))
              go_roundw
              case rel => exact ⟨k + 1, N + a, by omega, by go_num, by go_num, by omega, HNX.out, H.out, _, rfl⟩
              case measure => simp [intOf]; omega
        · obtain rfl : k = nt := by omega
          have hN2 : NumsTo ss zs zs.length := by rw [← HLT.out]; exact hNum
          have H := Lib.hid (Need.done (ss := ss) (zs := zs) (N := N) (by rw [← HLT.out]; exact hNd) hN2 (by rw [← HLT.out]; exact h1) (by rw [← HLT.out]; exact h2))
          clear hN2 hNum hNd
          go_wp2
          go_ret
          exact ⟨ret_b (by rw [HV.out, H.out]), _, rfl⟩

end Go.Proofs.YtapcdhagkbfccaaGreat

namespace Go.Proofs.YtapcdhagkbfccaaGreat
open Go.RowKit

theorem scan_step {ss : Sg} {zs : List Int} {p N : Nat} {r : List Int} (h : scan ss (N + 1) (zs.drop p) = some r) : ∃ hp : p < zs.length, scan ss (N + arOf ss zs[p]) (zs.drop (p + 1)) = some r := by
  by_cases hp : p < zs.length
  · refine ⟨hp, ?_⟩
    rw [List.drop_eq_getElem_cons hp] at h
    exact h
  · rw [List.drop_of_length_le (by omega)] at h
    cases h
theorem scan_end {ss : Sg} {zs : List Int} {p : Nat} {r : List Int} (h : scan ss 0 (zs.drop p) = some r) (hp : p ≤ zs.length) : p = zs.length - r.length := by
  rw [scan_zero] at h
  have := congrArg List.length (Option.some.inj h)
  rw [List.length_drop] at this
  omega

set_option maxRecDepth 100000 in
set_option maxHeartbeats 1000000 in
theorem refEnd_any (As At : Option Addr) (ns cs nt ct : Nat) (ss : Sg) (zs r : List Int) (a : Nat) (w : World) (B : Nat) (hs : SigAt w B As ns ss) (ht : IntsAt w B At nt zs) (har : ArOk ss) (hh : HeadsOk ss zs) (hn : nt ≤ 1000) (ha : a ≤ nt) (hsc : scan ss 1 (zs.drop a) = some r) :
    Calls Tryz.prog 117 #[.slice As ns cs, .slice At nt ct, .int .i64 a] w fun e w' => e = .returned (.int .i64 (zs.length - r.length : Nat)) ∧ ∃ k, w' = w.drewN k := by
  have HLS := Lib.hid hs.len
  have HLT := Lib.hid ht.len
  have HS := Lib.hid hs
  have HT := Lib.hid ht
  have HAR := Lib.hid har
  have HH := Lib.hid hh
  have HSC := Lib.hid hsc
  have HZ := Lib.hid (fun (p : Nat) (hp : p ≤ nt) (h : scan ss 0 (zs.drop p) = some r) => scan_end h (by rw [← HLT.out]; exact hp))
  obtain ⟨q, hq⟩ : ∃ q, zs.length - r.length = q := ⟨_, rfl⟩
  rw [hq] at HZ ⊢
  clear hs ht har hh hsc hq
  go_enter Tryz.func117, Tryz.ntmps117
  go_wp2
  go_loopw [2, 7] (fun p nd wr => ∃ k N : Nat, k ≤ nt ∧ p = .int .i64 k ∧ nd = .int .i64 N ∧ N ≤ 1 + 3 * k ∧ Hid (scan ss N (zs.drop k) = some r) ∧ ∃ m, wr = w.drewN m) (fun p _ _ => nt - (intOf p).toNat)
  case atStart => exact ⟨a, 1, ha, rfl, rfl, by omega, HSC, 0, rfl⟩
  case round =>
    obtain ⟨k, N, hk, rfl, rfl, hN3, hNd, m, rfl⟩ := hrel
    cases N with
    | zero =>
      obtain rfl := HZ.out k hk hNd.out
      go_wp2
      go_ret
      exact ⟨rfl, _, rfl⟩
    | succ N =>
      obtain ⟨k1, hnx⟩ := scan_step hNd.out
      obtain ⟨b, off, z, rfl, c1, k1', e1⟩ := HT.out.cellAt (by rw [HLT.out]; exact k1)
      rw [e1] at hnx
      have hk1n : k < nt := by rw [HLT.out]; exact k1
      have hzl : z < (ns : Int) := by
        rw [HLS.out, ← e1]
        exact HH.out _ (List.getElem_mem k1)
      have ha3 := arOf_le HAR.out z
      have HA := Lib.hid (fun (m : Nat) => arity_any As ns cs ss z (w.drewN m) B (HS.out.keep fun p _ => rfl) HAR.out hzl)
      obtain ⟨av, hav⟩ : ∃ av, arOf ss z = av := ⟨_, rfl⟩
      rw [hav] at hnx ha3
      simp only [hav] at HA
      have HNX := Lib.hid hnx
      have hN0 : (0 : Int) < (N : Int) + 1 := by omega
      have hN0' : (0 : Int) < ((N + 1 : Nat) : Int) := by omega
      have hk0 : (0 : Int) ≤ (k : Int) := by omega
      have hk1 : (k : Int) < (nt : Int) := by omega
      clear hNd hnx hav e1 k1 k1' hzl
      go_wp2_with (go_at_call 61; refine (HA.out _).mono ?_; rintro e w' ⟨rfl, rfl⟩)
      go_roundw
      case rel => exact ⟨k + 1, N + av, by omega, by go_num, by go_num, by omega, HNX, _, rfl⟩
      case measure => simp [intOf]; omega

end Go.Proofs.YtapcdhagkbfccaaGreat
