/- Contract: the reference's ValidSign. -/
import Derived.Test.YtmccdmpemlmkkaaF1
namespace Go.Proofs.Ytmccdmpemlmkkaa
open Go.RowKit

theorem nms_mem {ss : Sg} {k : Nat} (hk : k ≤ ss.length) (nm : List UInt8) : (nms ss k).contains nm = true ↔ ∃ j, ∃ h : j < ss.length, j < k ∧ ss[j].1.data.toList = nm := by
  unfold nms
  rw [List.contains_iff_mem, List.mem_reverse, List.mem_map]
  constructor
  · rintro ⟨x, hx, rfl⟩
    obtain ⟨i, hi, rfl⟩ := List.mem_iff_getElem.1 hx
    rw [List.length_take] at hi
    exact ⟨i, by omega, by omega, by rw [List.getElem_take]⟩
  · rintro ⟨j, hj, hlt, rfl⟩
    exact ⟨ss[j], List.mem_iff_getElem.2 ⟨j, by rw [List.length_take]; omega, by rw [List.getElem_take]⟩, rfl⟩
def Differ (ss : Sg) (i : Nat) (hi : i < ss.length) (j : Nat) : Prop := ∀ j' (h : j' < ss.length), j' < j → j' < i → ss[j'].1 ≠ ss[i].1
theorem Differ.not_in {ss : Sg} {i : Nat} {hi : i < ss.length} (h : Differ ss i hi i) : (nms ss i).contains ss[i].1.data.toList = false := by
  cases e : (nms ss i).contains ss[i].1.data.toList
  · rfl
  · obtain ⟨j, hj, hlt, he⟩ := (nms_mem (Nat.le_of_lt hi) _).1 e
    refine absurd ?_ (h j hj hlt hlt)
    have h1 : ss[j].1.data = ss[i].1.data := Array.toList_inj.1 he
    exact ByteArray.ext h1
theorem in_of_eq {ss : Sg} {i j : Nat} (hi : i < ss.length) (hj : j < ss.length) (hlt : j < i) (e : ss[j].1 = ss[i].1) : (nms ss i).contains ss[i].1.data.toList = true :=
  (nms_mem (Nat.le_of_lt hi) _).2 ⟨j, hj, hlt, by rw [e]⟩

set_option maxHeartbeats 400000 in
theorem refSign_out (A : Option Addr) (n c : Nat) (ss : Sg) (w : World) (B : Nat) (hs : SigAt w B A n ss) (h : n < 1 ∨ 12 < n) :
    Calls Try.prog 13 #[.slice A n c] w fun e w' => e = .returned (.bool (sigOk ss)) ∧ w = w' := by
  have hl := hs.len
  have H := Lib.hid (sigOk_out (ss := ss) (by omega))
  have hm := hs.max
  have HW := Lib.hid (show witB (n : Int) 1 12 = false by
    unfold witB
    rcases h with h | h
    · rw [decide_eq_false (by omega : ¬ (1 : Int) ≤ n)]; rfl
    · rw [decide_eq_false (by omega : ¬ (n : Int) ≤ 12)]; simp)
  clear hl hs h
  go_enter Try.func13, Try.ntmps13
  go_wp2_with (go_at_call 41; ((with_reducible refine (within_any _ 1 12 _).mono ?_); rintro e w' ⟨rfl, rfl⟩; rw [HW.out]))
  go_ret
  exact ⟨ret_b H.out.symm, rfl⟩

set_option maxHeartbeats 400000 in
theorem refSign_head (b off n c : Nat) (nm : ByteArray) (ar : Int) (r : Sg) (w : World) (hs : SigIn w b off ((nm, ar) :: r)) (hn : 1 ≤ n) (hn2 : n ≤ 12) (h : ¬ ar = 2) :
    Calls Try.prog 13 #[.slice (some ⟨b, off, none⟩) n c] w fun e w' => e = .returned (.bool (sigOk ((nm, ar) :: r))) ∧ w = w' := by
  have H := Lib.hid (sigOk_head (ss := (nm, ar) :: r) (by simp [sigHead, h]))
  have c1 := hs.ar 0 (by simp)
  simp only [Nat.zero_mul, Nat.add_zero, List.getElem_cons_zero] at c1
  have HW := Lib.hid (show witB (n : Int) 1 12 = true by
    unfold witB
    rw [decide_eq_true (by omega : (1 : Int) ≤ n), decide_eq_true (by omega : (n : Int) ≤ 12)]; rfl)
  clear hs
  have h2 : (ar != 2) = true := by simpa using h
  go_enter Try.func13, Try.ntmps13
  go_wp2_with (go_at_call 41; ((with_reducible refine (within_any _ 1 12 _).mono ?_); rintro e w' ⟨rfl, rfl⟩; rw [HW.out]))
  go_ret
  exact ⟨ret_b H.out.symm, rfl⟩

set_option maxRecDepth 100000 in
set_option maxHeartbeats 1000000 in
theorem refSign_in (b off n c : Nat) (ss : Sg) (w : World) (hs : SigIn w b off ss) (hfit : ∀ x ∈ ss, x.1.size ≤ maxLen) (hl : ss.length = n) (hn : 1 ≤ n) (hn2 : n ≤ 12) (hh : sigHead ss = true) (c2 : w.cell? ⟨b, off + 1, none⟩ = some (.int .i64 2)) :
    Calls Try.prog 13 #[.slice (some ⟨b, off, none⟩) n c] w fun e w' => e = .returned (.bool (sigOk ss)) ∧ ∃ k, w' = w.drewN k := by
  have HH := Lib.hid hh
  have HL := Lib.hid hl
  have HS := Lib.hid hs
  have HFIT := Lib.hid hfit
  have HW := Lib.hid (show witB (n : Int) 1 12 = true by
    unfold witB
    rw [decide_eq_true (by omega : (1 : Int) ≤ n), decide_eq_true (by omega : (n : Int) ≤ 12)]; rfl)
  clear hh hl hs hfit
  go_enter Try.func13, Try.ntmps13
  go_wp2_with (go_at_call 41; ((with_reducible refine (within_any _ 1 12 _).mono ?_); rintro e w' ⟨rfl, rfl⟩; rw [HW.out]))
  clear c2
  go_loopw [3] (fun i wr => ∃ k : Nat, k ≤ n ∧ i = .int .i64 k ∧ Goes ss k ∧ ∃ m, wr = w.drewN m) (fun i _ => n - (intOf i).toNat)
  case atStart => exact ⟨0, Nat.zero_le _, rfl, Goes.zero ss, 0, rfl⟩
  case round =>
    obtain ⟨k, hk, rfl, hG, m, rfl⟩ := hrel
    by_cases hlt : k < n
    · have hk' : k < ss.length := by rw [HL.out]; exact hlt
      have hc0 := HS.out.name k hk'
      have hc1 := HS.out.ar k hk'
      have hf := HFIT.out ss[k] (List.getElem_mem hk')
      have hbad := hG.bad hk'
      have hgood := hG.succ hk'
      have hin := fun j hj hlt e => in_of_eq (ss := ss) (i := k) (j := j) hk' hj hlt e
      have hnot := fun h => Differ.not_in (ss := ss) (i := k) (hi := hk') h
      obtain ⟨nm, ar, hx⟩ : ∃ nm ar, ss[k] = (nm, ar) := ⟨_, _, rfl⟩
      have hdif : ∀ j, Differ ss k hk' j ↔ ∀ j' (h : j' < ss.length), j' < j → j' < k → ss[j'].1 ≠ nm := by intro j; unfold Differ; rw [hx]
      simp only [hx] at hc0 hc1 hf hbad hgood hin hnot
      have HDIF := Lib.hid hdif
      have HIN := Lib.hid hin
      have HNOT := Lib.hid hnot
      have HBAD := Lib.hid hbad
      have HGOOD := Lib.hid hgood
      clear hx hdif hin hnot hbad hgood hG
      cases e1 : nameOk nm.data.toList
      · have H := Lib.hid (HBAD.out (by simp [symOk, e1]))
        have E1 := Lib.hid e1
        clear e1
        go_wp2_with (go_at_call 42; refine (isName_any _ _ hf).mono ?_; rintro e w' ⟨rfl, rfl⟩; rw [E1.out])
        go_ret
        exact ⟨ret_b H.out.symm, _, rfl⟩
      · have E1 := Lib.hid e1
        cases e2 : witB ar 0 3
        · have H := Lib.hid (HBAD.out (by
            unfold witB at e2
            simp only [symOk, e2]; simp))
          have E2 := Lib.hid e2
          clear e1 e2
          go_wp2_with (first
            | (go_at_call 42; refine (isName_any _ _ hf).mono ?_; rintro e w' ⟨rfl, rfl⟩; rw [E1.out])
            | (go_at_call 41; ((with_reducible refine (within_any _ 0 3 _).mono ?_); rintro e w' ⟨rfl, rfl⟩; rw [E2.out])))
          go_ret
          exact ⟨ret_b H.out.symm, _, rfl⟩
        · have E2 := Lib.hid e2
          clear e1 e2
          go_wp2_with (first
            | (go_at_call 42; refine (isName_any _ _ hf).mono ?_; rintro e w' ⟨rfl, rfl⟩; rw [E1.out])
            | (go_at_call 41; ((with_reducible refine (within_any _ 0 3 _).mono ?_); rintro e w' ⟨rfl, rfl⟩; rw [E2.out])))
          have hE := Lib.hid (And.intro E1.out E2.out)
          go_loopw [4] (fun jj wq => ∃ q : Nat, q ≤ k ∧ jj = .int .i64 q ∧ (∀ j' (h : j' < ss.length), j' < q → j' < k → ss[j'].1 ≠ nm) ∧ ∃ m', wq = w.drewN m') (fun jj _ => k - (intOf jj).toNat)
          case atStart => exact ⟨0, Nat.zero_le _, rfl, fun _ _ h => absurd h (by omega), _, rfl⟩
          case round =>
            obtain ⟨q, hq, rfl, hD, m', rfl⟩ := hrel
            have HD := Lib.hid hD
            clear hD
            by_cases hqk : q < k
            · have hq' : q < ss.length := by omega
              have hd0 := HS.out.name q hq'
              have hin := HIN.out q hq' hqk
              obtain ⟨nm2, hx2⟩ : ∃ nm2, ss[q].1 = nm2 := ⟨_, rfl⟩
              rw [hx2] at hd0 hin
              have hq0 : (0 : Int) ≤ (q : Int) := by omega
              have hq1 : (q : Int) < (n : Int) := by omega
              have hk0 : (0 : Int) ≤ (k : Int) := by omega
              have hk1 : (k : Int) < (n : Int) := by omega
              by_cases e : nm2 = nm
              · have H := Lib.hid (HBAD.out (by simp only [symOk, hin e]; simp))
                have he : (nm2.toList == nm.toList) = true := by simp [e]
                clear hin hx2 e
                go_wp2_with fail
                go_quiet (fail)
                go_wp2
                go_ret
                exact ⟨ret_b H.out.symm, _, World.drewN_drewN ..⟩
              · have H : Hid (∀ j' (h : j' < ss.length), j' < q + 1 → j' < k → ss[j'].1 ≠ nm) := by
                  intro j' h hlt2 hlt3
                  by_cases hjq : j' < q
                  · exact HD.out j' h hjq hlt3
                  · obtain rfl : j' = q := by omega
                    rw [hx2]; exact e
                have he : (nm2.toList == nm.toList) = false := by
                  rw [beq_eq_false_iff_ne, ne_eq, ByteArray.toList_eq, ByteArray.toList_eq]
                  exact fun h => e (ByteArray.ext (Array.toList_inj.1 h))
                clear hin hx2 e
                go_wp2_with fail
                go_quiet (fail)
                go_wp2
                go_roundw
                case rel => exact ⟨q + 1, by omega, by go_num, H.out, _, rfl⟩
                case measure => simp [intOf]; omega
            · obtain rfl : q = k := by omega
              have H := Lib.hid (HGOOD.out (by
                have h1 := HNOT.out ((HDIF.out q).2 HD.out)
                have h2 := hE.out.2
                unfold witB at h2
                simp only [symOk, h1, h2, hE.out.1]; rfl))
              go_wp2
              go_roundw
              case rel => exact ⟨q + 1, by omega, by go_num, H.out, _, rfl⟩
              case measure => simp [intOf]; omega
    · obtain rfl : k = n := by omega
      have H := Lib.hid (Goes.good (by rw [HL.out]; exact hG) (by rw [HL.out]; exact hn) (by rw [HL.out]; exact hn2) HH.out)
      clear hG
      go_wp2
      go_ret
      exact ⟨ret_b H.out.symm, _, rfl⟩

theorem refSign_any (A : Option Addr) (n c : Nat) (ss : Sg) (w : World) (B : Nat) (hs : SigAt w B A n ss) :
    Calls Try.prog 13 #[.slice A n c] w fun e w' => e = .returned (.bool (sigOk ss)) ∧ ∃ k, w' = w.drewN k := by
  by_cases h : n < 1 ∨ 12 < n
  · exact (refSign_out A n c ss w _ hs h).mono fun e w' ⟨h1, h2⟩ => ⟨h1, 0, h2.symm⟩
  · obtain ⟨b, off, rfl, hb, hc⟩ := hs.mem (by omega)
    have hl := hs.len
    cases ss with
    | nil => simp at hl; omega
    | cons x r =>
      obtain ⟨nm, ar⟩ := x
      by_cases h2 : ar = 2
      · subst h2
        have c1 := hc.ar 0 (by simp)
        simp only [Nat.zero_mul, Nat.add_zero, List.getElem_cons_zero] at c1
        exact refSign_in b off n c _ w hc hs.fit hl.symm (by omega) (by omega) (by simp [sigHead]) c1
      · exact (refSign_head b off n c nm ar r w hc (by omega) (by omega) h2).mono fun e w' ⟨h1, h2⟩ => ⟨h1, 0, h2.symm⟩

end Go.Proofs.Ytmccdmpemlmkkaa
