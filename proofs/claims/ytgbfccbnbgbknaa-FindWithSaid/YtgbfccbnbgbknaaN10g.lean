/- Contract: the reference's Renaming. -/
import Derived.Test.YtgbfccbnbgbknaaN7g
import Derived.Test.YtgbfccbnbgbknaaN8g
/- Contracts: the reference's Of, Solved, Renaming; few. -/
namespace Go.Proofs.Ytgbfccbnbgbknaa
open Go.RowKit

/-- A list of numbers handed back. -/
def RetL (w : World) (zs : List Int) : Ending → World → Prop := fun e w' => ∃ A n c, e = .returned (.slice A n c) ∧ IntsAt w' w'.heap.size A n zs ∧ Below w.heap.size w w'

set_option maxRecDepth 100000 in
set_option maxHeartbeats 1000000 in
theorem refOf_any (Ab : Option Addr) (n c : Nat) (v : Int) (ls : List Hd) (bb : List Bd) (w : World) (hb : BindsAt w w.heap.size Ab n ls bb) (hn : n ≤ 1000000) (h1 : -1000000 ≤ v) (h2 : v ≤ 1000000) :
    Calls Try.prog 114 #[.slice Ab n c, .int .i64 v] w (RetL w (ofB bb v)) := by
  have HT := Lib.hid hb
  have HLT := Lib.hid hb.len
  have CV := Lib.hid (refVar_any v w h1 h2)
  have HIV := Lib.hid (ints_var w (-v - 1))
  clear hb
  go_enter Try.func114, Try.ntmps114
  go_wp2
  go_loop [5] (fun i => ∃ k : Nat, k ≤ n ∧ i = .int .i64 k ∧ ∀ j (h : j < bb.length), j < k → bb[j].1 ≠ v) (fun i => n - (intOf i).toNat)
  case atStart => exact ⟨0, Nat.zero_le _, rfl, fun _ _ h => by omega⟩
  case round =>
    obtain ⟨k, hk, rfl, hno⟩ := hrel
    by_cases hlt : k < n
    · obtain ⟨b, off, v', t, A', n', c', rfl, hb, q1, q2, e1, e2, hI⟩ := HT.out.cellAt hlt
      have hk0 : (0 : Int) ≤ (k : Int) := by omega
      have hk1 : (k : Int) < (n : Int) := by omega
      obtain ⟨hkb, e3⟩ := List.getElem?_eq_some_iff.1 e1
      by_cases hv : v' = v
      · have H := Lib.hid (show ofB bb v = t by rw [ofB_at hkb hno (by rw [e3]; exact hv), e3])
        have HI := Lib.hid hI
        have hq : (v' == v) = true := by simpa using hv
        clear hno e1 e2 e3 hI hv
        go_wp2
        go_ret
        exact ⟨A', n', c', rfl, by rw [H.out]; exact HI.out, Below.refl _ _⟩
      · have H : Hid (∀ j (h : j < bb.length), j < k + 1 → bb[j].1 ≠ v) := by
          refine Lib.hid fun j hj hjk => ?_
          by_cases hjk' : j < k
          · exact hno j hj hjk'
          · obtain rfl : j = k := by omega
            rw [e3]; exact hv
        have hq : (v' == v) = false := by simpa using hv
        clear hno e1 e2 e3 hI hv
        go_wp2
        go_round
        case rel => exact ⟨k + 1, by omega, by go_num, H.out⟩
        case measure => simp [intOf]; omega
    · obtain rfl : k = n := by omega
      have H := Lib.hid (show ofB bb v = [-v - 1] from ofB_none fun x hx => by
        obtain ⟨j, hj, rfl⟩ := List.mem_iff_getElem.1 hx
        exact hno j hj (by rw [HLT.out]; exact hj))
      clear hno
      go_wp2_with (go_at_call 110; refine CV.out.mono ?_; rintro e w1 ⟨rfl, rfl⟩)
      go_ret
      exact ⟨_, _, _, rfl, by rw [H.out]; exact HIV.out, bel_al (Below.refl _ _) _⟩

set_option maxRecDepth 100000 in
set_option maxHeartbeats 2000000 in
theorem refSolved_any (As Ab : Option Addr) (ns cs n c : Nat) (ss : Sg) (ls : List Hd) (bb : List Bd) (w : World) (hs : SigAt w w.heap.size As ns ss) (hb : BindsAt w w.heap.size Ab n ls bb) (hn : n ≤ 1000000) :
    Calls Try.prog 32 #[.slice As ns cs, .slice Ab n c] w fun e w' => e = .returned (.bool (solvedB ss bb)) ∧ Below w.heap.size w w' := by
  have CB := Lib.hid (refBinds_any As Ab ns cs n c ss ls bb w hs hb hn)
  obtain ⟨R, hR⟩ : ∃ R, solvedB ss bb = R := ⟨_, rfl⟩
  rw [hR]
  have HR := Lib.hid hR
  have HT := Lib.hid hb
  have HLT := Lib.hid hb.len
  cases hok : bindsOk ss bb
  · rw [hok] at CB
    have H := Lib.hid (show R = false by rw [← HR.out]; exact solved_inv hok)
    clear hs hb hR hok
    go_enter Try.func32, Try.ntmps32
    go_wp2_with (go_at_call 30; refine CB.out.mono ?_; rintro e w1 ⟨rfl, hB1⟩; have HB1 := Lib.hid hB1; clear hB1)
    go_ret
    exact ⟨ret_b (by rw [H.out]), HB1.out⟩
  · rw [hok] at CB
    have HOK := Lib.hid hok
    have HRNG := Lib.hid (fun x (hx : x ∈ bb) => And.intro (bindsTo_above hok x hx) (bindsOk_each hok x hx).1)
    clear hs hb hR hok
    go_enter Try.func32, Try.ntmps32
    go_wp2_with (go_at_call 30; refine CB.out.mono ?_; rintro e w1 ⟨rfl, hB1⟩; have HB1 := Lib.hid hB1; clear hB1)
    go_loopw [5] (fun i wr => ∃ k : Nat, k ≤ n ∧ i = .int .i64 k ∧ NoneTo bb k ∧ Below w.heap.size w wr) (fun i _ => n - (intOf i).toNat)
    case atStart => exact ⟨0, Nat.zero_le _, rfl, NoneTo.zero _, HB1.out⟩
    case round =>
      obtain ⟨k, hk, rfl, hno, hB⟩ := hrel
      have HB := Lib.hid hB
      by_cases hlt : k < n
      · obtain ⟨b, off, v, t, A', n', c', rfl, hb, q1, q2, e1, e2, hI⟩ := HT.out.cellAt hlt
        have hk0 : (0 : Int) ≤ (k : Int) := by omega
        have hk1 : (k : Int) < (n : Int) := by omega
        obtain ⟨hv0, hv1⟩ := HRNG.out _ (List.mem_of_getElem? e1)
        simp only at hv0 hv1
        have HE1 := Lib.hid e1
        have HNO := Lib.hid hno
        have HQ1 := Lib.hid q1
        clear e1 e2 hI hno hB q1 q2
        obtain ⟨wa, hwa⟩ : ∃ wa, wa = wr := ⟨_, rfl⟩
        subst hwa
        go_wp2_with fail
        go_loopw [6] (fun i wr => ∃ j : Nat, j ≤ n ∧ i = .int .i64 j ∧ NoneAt bb v j ∧ Below w.heap.size w wr) (fun i _ => n - (intOf i).toNat)
        case atStart => exact ⟨0, Nat.zero_le _, rfl, NoneAt.zero _ _, HB.out⟩
        case round =>
          obtain ⟨j, hj, rfl, hna, hB2⟩ := hrel
          by_cases hltj : j < n
          · obtain ⟨b', off', v', t', A2, n2, c2, hA, hb', q1, q2, e1, e2, hI⟩ := HT.out.cellAt hltj
            cases hA
            have s0 := (hB2.cell (p := ⟨b, off + k * 2, none⟩) hb).trans HQ1.out
            have s2 := (hB2.cell (p := ⟨b, off + j * 2 + 1, none⟩) hb).trans q2
            have hj0 : (0 : Int) ≤ (j : Int) := by omega
            have hj1 : (j : Int) < (n : Int) := by omega
            have CC := Lib.hid (fun nq => has_any A2 n2 c2 t' (-v - 1) (wr.drewN nq) _ ((hI.up hB2).keep fun _ _ => rfl))
            obtain ⟨qb, hqb⟩ : ∃ qb, t'.contains (-v - 1) = qb := ⟨_, rfl⟩
            rw [hqb] at CC
            have HB2 := Lib.hid hB2
            have HH : Hid ((qb = true → R = false) ∧ (qb = false → NoneAt bb v (j + 1))) := ⟨fun e => by rw [← HR.out]; exact solved_bad HE1.out e1 (by rw [hqb]; exact e), fun e => hna.succ e1 (by rw [hqb]; exact e)⟩
            clear hna hB2 q1 q2 e1 e2 hI hqb
            cases qb
            · have H := Lib.hid (HH.out.2 rfl)
              go_wp2_with fail
              go_quiet ((go_at_call 74; with_reducible exact quiet_same2 (CC.out _)))
              go_wp2
              go_roundw
              case rel => exact ⟨j + 1, by omega, by go_num, H.out, below_drewN HB2.out _⟩
              case measure => simp [intOf]; omega
            · have H := Lib.hid (HH.out.1 rfl)
              go_wp2_with fail
              go_quiet ((go_at_call 74; with_reducible exact quiet_same2 (CC.out _)))
              go_wp2
              go_ret
              exact ⟨ret_b (by rw [H.out]), below_drewN HB2.out _⟩
          · obtain rfl : j = n := by omega
            have H := Lib.hid (HNO.out.succ HE1.out hna (by rw [← HLT.out]; exact Nat.le_refl _))
            have HB2 := Lib.hid hB2
            clear hna hB2
            go_wp2
            go_roundw
            case rel => exact ⟨k + 1, by omega, by go_num, H.out, HB2.out⟩
            case measure => simp [intOf]; omega
      · obtain rfl : k = n := by omega
        have H := Lib.hid (show R = true by rw [← HR.out]; exact solved_good HOK.out hno (by rw [← HLT.out]; exact Nat.le_refl _))
        clear hno hB
        go_wp2
        go_ret
        exact ⟨ret_b (by rw [H.out]), HB.out⟩

/-- Whether binds, by their headers, are few. -/
def fewOk (ls : List Hd) : Bool := ls.all (fun h => decide (h.2.1 ≤ 200)) && decide (ls.length ≤ 30)
set_option maxRecDepth 100000 in
set_option maxHeartbeats 1000000 in
theorem few_any (Ab : Option Addr) (n c : Nat) (ls : List Hd) (bb : List Bd) (w : World) (B : Nat) (hb : BindsAt w B Ab n ls bb) :
    Calls Try.prog 27 #[.slice Ab n c] w fun e w' => e = .returned (.bool (fewOk ls)) ∧ w = w' := by
  have HT := Lib.hid hb
  have HLL := Lib.hid hb.ll
  have hmx := hb.max
  obtain ⟨R, hR⟩ : ∃ R, fewOk ls = R := ⟨_, rfl⟩
  rw [hR]
  have HR := Lib.hid hR
  clear hb hR
  go_enter Try.func27, Try.ntmps27
  go_wp2
  go_loop [3] (fun i => ∃ k : Nat, k ≤ n ∧ i = .int .i64 k ∧ ∀ j (h : j < ls.length), j < k → ls[j].2.1 ≤ 200) (fun i => n - (intOf i).toNat)
  case atStart => exact ⟨0, Nat.zero_le _, rfl, fun _ _ h => by omega⟩
  case round =>
    obtain ⟨k, hk, rfl, hno⟩ := hrel
    by_cases hlt : k < n
    · obtain ⟨b, off, v', t, A', n', c', rfl, hb, q1, q2, e1, e2, hI⟩ := HT.out.cellAt hlt
      have hk0 : (0 : Int) ≤ (k : Int) := by omega
      have hk1 : (k : Int) < (n : Int) := by omega
      obtain ⟨hkb, e3⟩ := List.getElem?_eq_some_iff.1 e2
      have hnm := hI.max
      by_cases hv : n' ≤ 200
      · have H : Hid (∀ j (h : j < ls.length), j < k + 1 → ls[j].2.1 ≤ 200) := by
          refine Lib.hid fun j hj hjk => ?_
          by_cases hjk' : j < k
          · exact hno j hj hjk'
          · obtain rfl : j = k := by omega
            rw [e3]; exact hv
        have hq : ¬ (200 : Int) < (n' : Int) := by omega
        clear hno e1 e2 e3 hI hv
        go_wp2
        go_round
        case rel => exact ⟨k + 1, by omega, by go_num, H.out⟩
        case measure => simp [intOf]; omega
      · have H := Lib.hid (show R = false by
          rw [← HR.out]
          unfold fewOk
          rw [Bool.and_eq_false_iff]
          left
          rw [List.all_eq_false]
          exact ⟨_, List.getElem_mem hkb, by rw [e3]; simpa using hv⟩)
        have hq : (200 : Int) < (n' : Int) := by omega
        clear hno e1 e2 e3 hI hv
        go_wp2
        go_ret
        exact ⟨ret_b (by rw [H.out]), rfl⟩
    · obtain rfl : k = n := by omega
      have HA := Lib.hid (show ls.all (fun h => decide (h.2.1 ≤ 200)) = true by
        rw [List.all_eq_true]
        intro x hx
        obtain ⟨j, hj, rfl⟩ := List.mem_iff_getElem.1 hx
        exact decide_eq_true (hno j hj (by rw [HLL.out]; exact hj)))
      clear hno
      by_cases h30 : k ≤ 30
      · have H := Lib.hid (show R = true by rw [← HR.out]; unfold fewOk; rw [HA.out, Bool.true_and]; exact decide_eq_true (by rw [← HLL.out]; exact h30))
        have hq : (k : Int) ≤ 30 := by omega
        go_wp2
        go_ret
        exact ⟨ret_b (by rw [H.out]), rfl⟩
      · have H := Lib.hid (show R = false by rw [← HR.out]; unfold fewOk; rw [HA.out, Bool.true_and]; exact decide_eq_false (by rw [← HLL.out]; exact h30))
        have hq : ¬ (k : Int) ≤ 30 := by omega
        go_wp2
        go_ret
        exact ⟨ret_b (by rw [H.out]), rfl⟩

end Go.Proofs.Ytgbfccbnbgbknaa

namespace Go.Proofs.Ytgbfccbnbgbknaa
open Go.RowKit

theorem row_blw {w w' : World} {base n size : Nat} {e : TypeId} {v : Value} {xs : List Value} (h : w.ownsRow base e size v n xs) (hb : Below w.heap.size w w') : w'.ownsRow base e size v n xs := by
  refine h.kept (grown_of_below hb) ?_
  cases hv : v.ownBlock with
  | none => exact .inl rfl
  | some g => exact .inr (by simp)
/-- What the first k variables become, by its first number. -/
def headsB (bb : List Bd) (k : Nat) : List Int := (List.range k).map fun i : Nat => (ofB bb (i : Int)).headD 0
theorem headsB_succ (bb : List Bd) (k : Nat) : headsB bb (k + 1) = headsB bb k ++ [(ofB bb (k : Int)).headD 0] := by simp [headsB, List.range_succ]
theorem headsB_len (bb : List Bd) (k : Nat) : (headsB bb k).length = k := by simp [headsB]
theorem headsB_true {bb : List Bd} {k : Nat} {z : Int} (h : (headsB bb k).contains z = true) : ∃ i : Nat, i < k ∧ (ofB bb (i : Int)).headD 0 = z := by
  rw [List.contains_iff_mem] at h
  obtain ⟨i, hi, e⟩ := List.mem_map.1 h
  exact ⟨i, List.mem_range.1 hi, e⟩
theorem headsB_false {bb : List Bd} {k i : Nat} {z : Int} (h : (headsB bb k).contains z = false) (hi : i < k) : (ofB bb (i : Int)).headD 0 ≠ z := by
  intro e
  have : z ∈ headsB bb k := List.mem_map.2 ⟨i, List.mem_range.2 hi, e⟩
  rw [← List.contains_iff_mem, h] at this
  cases this

set_option maxRecDepth 100000 in
set_option maxHeartbeats 2000000 in
theorem refRenaming_any (As Ab : Option Addr) (ns cs n c : Nat) (ss : Sg) (ls : List Hd) (bb : List Bd) (w : World) (hs : SigAt w w.heap.size As ns ss) (hb : BindsAt w w.heap.size Ab n ls bb) (hn : n ≤ 1000000) :
    Calls Try.prog 34 #[.slice As ns cs, .slice Ab n c] w fun e w' => e = .returned (.bool (renB ss bb)) ∧ Below w.heap.size w w' := by
  obtain ⟨i0, hi, hz0, hz1, hz2⟩ := info_parts info_int
  have CB := Lib.hid (refBinds_any As Ab ns cs n c ss ls bb w hs hb hn)
  have HT := Lib.hid hb
  obtain ⟨R, hR⟩ : ∃ R, renB ss bb = R := ⟨_, rfl⟩
  rw [hR]
  cases hok : bindsOk ss bb
  · rw [hok] at CB
    have H := Lib.hid (show R = false by rw [← hR]; simp [renB, hok])
    clear hs hb hR hok
    go_enter Try.func34, Try.ntmps34
    go_wp2_with (go_at_call 30; refine CB.out.mono ?_; rintro e w1 ⟨rfl, hB1⟩; have HB1 := Lib.hid hB1; clear hB1)
    go_ret
    exact ⟨ret_b (by rw [H.out]), HB1.out⟩
  · rw [hok] at CB
    have HOK := Lib.hid hok
    have HR : Hid (RenTo bb 12 → R = true) := Lib.hid (fun h => by rw [← hR]; simp [renB, hok, h])
    have HF : Hid (¬ RenTo bb 12 → R = false) := Lib.hid (fun h => by rw [← hR]; simp [renB, hok, h])
    clear hs hb hR hok
    go_enter Try.func34, Try.ntmps34
    go_wp2_with (go_at_call 30; refine CB.out.mono ?_; rintro e w1 ⟨rfl, hB1⟩; have HB1 := Lib.hid hB1; clear hB1)
    go_loopw [5, 6] (fun m i wr => ∃ (k : Nat) (Av : Option Addr) (cv : Nat), k ≤ 12 ∧ i = .int .i64 k ∧ m = .slice Av k cv ∧ wr.ownsRow w.heap.size 3 1 (.slice Av k cv) k ((headsB bb k).map (Value.int .i64)) ∧ RenTo bb k ∧ Below w.heap.size w wr) (fun _ i _ => 12 - (intOf i).toNat)
    case atStart => exact ⟨0, none, 0, Nat.zero_le _, rfl, rfl, World.ownsRow_nil _ _ _ _, RenTo.zero _, HB1.out⟩
    case round =>
      obtain ⟨k, Av, cv, hk, rfl, rfl, hown, hren, hB⟩ := hrel
      by_cases hlt : k < 12
      · have CO := Lib.hid (refOf_any Ab n c (k : Int) ls bb wr (HT.out.up hB) hn (by omega) (by omega))
        have hvl := ofB_len HOK.out (v := (k : Int)) (by omega) (by omega)
        have hnums := ofB_nums HOK.out (v := (k : Int)) (by omega) (by omega)
        obtain ⟨z, r0, hzr⟩ : ∃ z r, ofB bb (k : Int) = z :: r := by
          cases h : ofB bb (k : Int) with
          | nil => rw [h] at hvl; simp at hvl
          | cons z r => exact ⟨z, r, rfl⟩
        have hz := hnums z (by rw [hzr]; simp)
        have hhd : (ofB bb (k : Int)).headD 0 = z := by rw [hzr]; rfl
        have CO2 : Hid (Calls Try.prog 114 #[.slice Ab n c, .int .i64 (k : Int)] wr fun e w' => ∃ b off n' c', e = .returned (.slice (some ⟨b, off, none⟩) n' c') ∧ 1 ≤ n' ∧ n' ≤ 9223372036854775807 ∧ w'.cell? ⟨b, off, none⟩ = some (.int .i64 z) ∧ w'.ownsRow w.heap.size 3 1 (.slice Av k cv) k ((headsB bb k).map (Value.int .i64)) ∧ (∃ Ar cr, Value.slice Av k cv = .slice Ar k cr ∧ IntsAt w' w'.heap.size Ar k (headsB bb k)) ∧ Below w.heap.size w w') := by
          refine Lib.hid (CO.out.mono ?_)
          rintro e w' ⟨A', n', c', rfl, hI, hb'⟩
          have hlen := hI.len
          rw [hzr] at hI hlen
          simp only [List.length_cons] at hlen
          obtain ⟨b, off, z', rfl, c0, k1, e1⟩ := hI.cellAt (show 0 < n' by omega)
          simp only [List.getElem_cons_zero] at e1
          subst e1
          rw [Nat.add_zero] at c0
          have hrow := row_blw hown hb'
          exact ⟨b, off, n', c', rfl, by omega, hI.max, c0, hrow, row_ints (zs := headsB bb k) hrow (by omega), below_then hB hb'⟩
        have HBAD : Hid (0 ≤ z ∨ (headsB bb k).contains z = true → R = false) := Lib.hid (fun h => HF.out (fun hr => by
          rcases h with h | h
          · have := hr.1 k hlt
            omega
          · obtain ⟨i, hi, e⟩ := headsB_true h
            exact hr.2 i k hi hlt (by rw [e, hhd])))
        have HGOOD : Hid (z < 0 → (headsB bb k).contains z = false → RenTo bb (k + 1)) := Lib.hid (fun h1 h2 => hren.succ (by rw [hhd]; exact h1) (fun i hi => by rw [hhd]; exact headsB_false h2 hi))
        have HHS := Lib.hid (show headsB bb (k + 1) = headsB bb k ++ [z] by rw [headsB_succ, hhd])
        clear hown hren hB hvl hnums hzr hhd CO
        by_cases hz0' : 0 ≤ z
        · have H := Lib.hid (HBAD.out (.inl hz0'))
          go_wp2_with (go_at_call 114; refine CO2.out.mono ?_; rintro e w2 ⟨b, off, n', c', rfl, hn1, hn2, c0, hrow, hints, hB2⟩; have HB2 := Lib.hid hB2; clear hB2 hrow hints)
          go_ret
          exact ⟨ret_b (by rw [H.out]), HB2.out⟩
        · cases hcon : (headsB bb k).contains z
          · have H := Lib.hid (HGOOD.out (by omega) hcon)
            have HCON := Lib.hid hcon
            clear hcon
            go_wp2_with (first
              | (go_at_call 114; refine CO2.out.mono ?_; rintro e w2 ⟨b, off, n', c', rfl, hn1, hn2, c0, hrow, ⟨Ar, cr, her, hr⟩, hB2⟩; cases her; have HB2 := Lib.hid hB2; have HROW := Lib.hid hrow; have HHS2 := Lib.hid (has_any _ _ cv _ z w2 _ hr); clear hB2 hrow hr)
              | (go_at_call 74; refine HHS2.out.mono ?_; rintro e w3 ⟨rfl, rfl⟩; rw [HCON.out])
              | (at_builtin
                 refine wpList_append_own_at _ rfl _ _ 24 rfl w.heap.size 3 i0 _ 1 8 Try.underlying24 hi hz0 hz1 hz2 rfl (by omega) _ _ _ rfl (HROW.out.alloc _) ⟨w2.heap.size, 0, none⟩ 1 1 [.int .i64 z] rfl rfl
                   (World.news_of_block (cs := #[.int .i64 z]) (t := 3) (fr := (0, 0)) (heap_alloc_new w2 _)) (by simp [Value.oneCell']) (by unfold maxLen; omega) (by omega) (by have := HB2.out.size; simp; omega) ?_
                 intro v1 w1' hown1 hg1 _ _
                 have HB4 := Lib.hid ((HB2.out.alloc HB2.out.size _).grown hg1 (by have := HB2.out.size; simp; omega) (fun j e => (HROW.out.lt j e).1))
                 obtain ⟨g1, cap1, hv1, _⟩ := hown1.form (by omega)
                 subst hv1
                 have HOWN1 := Lib.hid hown1
                 clear hown1 hg1))
            go_roundw
            case rel => exact ⟨k + 1, some ⟨g1, 0, none⟩, cap1, by omega, by go_num, rfl, by rw [HHS.out, List.map_append]; exact HOWN1.out, H.out, HB4.out⟩
            case measure => simp [intOf]; omega
          · have H := Lib.hid (HBAD.out (.inr hcon))
            have HCON := Lib.hid hcon
            clear hcon
            go_wp2_with (first
              | (go_at_call 114; refine CO2.out.mono ?_; rintro e w2 ⟨b, off, n', c', rfl, hn1, hn2, c0, hrow, ⟨Ar, cr, her, hr⟩, hB2⟩; cases her; have HB2 := Lib.hid hB2; have HHS2 := Lib.hid (has_any _ _ cv _ z w2 _ hr); clear hB2 hrow hr)
              | (go_at_call 74; refine HHS2.out.mono ?_; rintro e w3 ⟨rfl, rfl⟩; rw [HCON.out]))
            go_ret
            exact ⟨ret_b (by rw [H.out]), HB2.out⟩
      · obtain rfl : k = 12 := by omega
        have H := Lib.hid (HR.out hren)
        have HB := Lib.hid hB
        clear hown hren hB
        go_wp2
        go_ret
        exact ⟨ret_b (by rw [H.out]), HB.out⟩

end Go.Proofs.Ytgbfccbnbgbknaa
