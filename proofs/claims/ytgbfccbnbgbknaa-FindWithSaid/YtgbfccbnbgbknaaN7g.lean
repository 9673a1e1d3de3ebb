/- Contract: Renaming. -/
import Derived.Test.YtgbfccbnbgbknaaN4g
import Derived.Test.YtgbfccbnbgbknaaN5g
import Derived.RangeFuncLeaves
import Derived.RangeFuncCalls
import Derived.RangeFuncBound
import Derived.Shelf.Abstract
import Derived.Shelf.RegionOpen
import Derived.OwnWalkIn
import Derived.TacticsInMore
/- Contracts: slices.Index, slices.Contains at Term; comes, Solved. -/
namespace Go.Proofs.Ytgbfccbnbgbknaa
open Go.RowKit

set_option maxHeartbeats 1000000 in
theorem indexT_any (A : Option Addr) (n c : Nat) (xs : List Int) (z : Int) (w : World) (B : Nat) (hx : IntsAt w B A n xs) :
    Calls Try.prog 195 #[.slice A n c, .int .i64 z] w fun e w' => (∃ i : Int, e = .returned (.int .i64 i) ∧ decide ((0 : Int) ≤ i) = xs.contains z) ∧ w = w' := by
  have HLX := Lib.hid hx.len
  have hmx := hx.max
  have HX := Lib.hid hx
  obtain ⟨qb, hqb⟩ : ∃ qb, xs.contains z = qb := ⟨_, rfl⟩
  rw [hqb]
  have HQ := Lib.hid hqb
  clear hx hqb
  go_enter Try.func195, Try.ntmps195
  go_wp2
  go_loop [8] (fun i => ∃ k : Nat, k ≤ n ∧ i = .int .i64 k ∧ NotIn xs z k) (fun i => n - (intOf i).toNat)
  case atStart => exact ⟨0, Nat.zero_le _, rfl, fun _ _ h => absurd h (by omega)⟩
  case round =>
    obtain ⟨k, hk, rfl, hA⟩ := hrel
    by_cases hlt : k < n
    · obtain ⟨b, off, y, rfl, c1, k1, e1⟩ := HX.out.cellAt hlt
      by_cases e : y = z
      · have H := Lib.hid (show qb = true by rw [← HQ.out, List.contains_iff_mem, ← e, ← e1]; exact List.getElem_mem k1)
        have he : (z == y) = true := by simp [e]
        clear e e1 hA
        go_wp2
        go_ret
        exact ⟨⟨(k : Int), rfl, by rw [H.out]; exact decide_eq_true (by omega)⟩, rfl⟩
      · have H : Hid (NotIn xs z (k + 1)) := by
          intro j hj hlt2
          by_cases hjk : j < k
          · exact hA j hj hjk
          · obtain rfl : j = k := by omega
            rw [e1]; exact e
        have he : (z == y) = false := by simp; exact fun h => e h.symm
        clear e e1 hA
        go_wp2
        go_round
        case rel => exact ⟨k + 1, by omega, by go_num, H.out⟩
        case measure => simp [intOf]; omega
    · obtain rfl : k = n := by omega
      have H := Lib.hid (show qb = false by rw [← HQ.out]; exact NotIn.all (by rw [← HLX.out]; exact hA))
      clear hA
      go_wp2
      go_ret
      exact ⟨⟨-1, rfl, by rw [H.out]; rfl⟩, rfl⟩

set_option maxHeartbeats 400000 in
theorem containsT_any (A : Option Addr) (n c : Nat) (xs : List Int) (z : Int) (w : World) (B : Nat) (hx : IntsAt w B A n xs) :
    Calls Try.prog 146 #[.slice A n c, .int .i64 z] w fun e w' => e = .returned (.bool (xs.contains z)) ∧ w = w' := by
  have C := Lib.hid (indexT_any A n c xs z w B hx)
  obtain ⟨qb, hqb⟩ : ∃ qb, xs.contains z = qb := ⟨_, rfl⟩
  rw [hqb] at C ⊢
  clear hx hqb
  go_enter Try.func146, Try.ntmps146
  go_wp2_with (go_at_call 195; refine C.out.mono ?_; rintro e w' ⟨⟨i, rfl, hi⟩, rfl⟩; have HI := Lib.hid hi; clear hi)
  go_ret
  exact ⟨ret_b HI.out, rfl⟩

set_option maxHeartbeats 400000 in
theorem comes_any (v : Int) (A : Option Addr) (n c : Nat) (zs : List Int) (w : World) (B : Nat) (hx : IntsAt w B A n zs) (h0 : -1000000 ≤ v) (h1 : v ≤ 1000000) :
    Calls Try.prog 111 #[.int .i64 v, .slice A n c] w fun e w' => e = .returned (.bool (zs.contains (-v - 1))) ∧ w = w' := by
  have C := Lib.hid (containsT_any A n c zs (-v - 1) w B hx)
  obtain ⟨qb, hqb⟩ : ∃ qb, zs.contains (-v - 1) = qb := ⟨_, rfl⟩
  rw [hqb] at C ⊢
  clear hx hqb
  go_enter Try.func111, Try.ntmps111
  go_wp2_with (go_at_call 146; refine C.out.mono ?_; rintro e w' ⟨rfl, rfl⟩)
  go_ret
  exact ⟨rfl, rfl⟩

/-- No variable of the first k binds comes in what is put in; nor that of bind k in the first j. -/
def NoneTo (bb : List Bd) (k : Nat) : Prop := ∀ i (h : i < bb.length) j (h' : j < bb.length), i < k → bb[j].2.contains (-bb[i].1 - 1) = false
def NoneAt (bb : List Bd) (v : Int) (j : Nat) : Prop := ∀ i (h : i < bb.length), i < j → bb[i].2.contains (-v - 1) = false
section
variable {ss : Sg} {bb : List Bd} {k j : Nat} {v v' : Int} {t t' : List Int}
theorem NoneTo.zero (bb : List Bd) : NoneTo bb 0 := fun _ _ _ _ h => by omega
theorem NoneAt.zero (bb : List Bd) (v : Int) : NoneAt bb v 0 := fun _ _ h => by omega
theorem NoneAt.succ (h : NoneAt bb v j) (hj : bb[j]? = some (v', t)) (e : t.contains (-v - 1) = false) : NoneAt bb v (j + 1) := by
  obtain ⟨hj, e1⟩ := List.getElem?_eq_some_iff.1 hj
  intro i hi hij
  by_cases h1 : i < j
  · exact h i hi h1
  · obtain rfl : i = j := by omega
    rw [e1]; exact e
theorem NoneTo.succ (h : NoneTo bb k) (hk : bb[k]? = some (v, t)) (ha : NoneAt bb v j) (hj : bb.length ≤ j) : NoneTo bb (k + 1) := by
  obtain ⟨hk, e1⟩ := List.getElem?_eq_some_iff.1 hk
  intro i hi j' hj' hik
  by_cases h1 : i < k
  · exact h i hi j' hj' h1
  · obtain rfl : i = k := by omega
    rw [e1]; exact ha j' hj' (by omega)
theorem solved_bad (hk : bb[k]? = some (v, t)) (hj : bb[j]? = some (v', t')) (e : t'.contains (-v - 1) = true) : solvedB ss bb = false := by
  unfold solvedB
  rw [Bool.and_eq_false_iff]
  right
  rw [List.all_eq_false]
  refine ⟨_, List.mem_of_getElem? hk, ?_⟩
  rw [Bool.not_eq_true, List.all_eq_false]
  exact ⟨_, List.mem_of_getElem? hj, by simpa using e⟩
theorem solved_good (hb : bindsOk ss bb = true) (h : NoneTo bb k) (hk : bb.length ≤ k) : solvedB ss bb = true := by
  unfold solvedB
  rw [hb, Bool.true_and, List.all_eq_true]
  intro x hx
  rw [List.all_eq_true]
  intro y hy
  obtain ⟨i, hi, rfl⟩ := List.mem_iff_getElem.1 hx
  obtain ⟨j, hj, rfl⟩ := List.mem_iff_getElem.1 hy
  rw [h i hi j hj (by omega)]; rfl
theorem solved_inv (hb : bindsOk ss bb = false) : solvedB ss bb = false := by unfold solvedB; rw [hb]; rfl
end

set_option maxRecDepth 100000 in
set_option maxHeartbeats 2000000 in
theorem solved_any (As Ab : Option Addr) (ns cs n c : Nat) (ss : Sg) (ls : List Hd) (bb : List Bd) (w : World) (hs : SigAt w w.heap.size As ns ss) (hb : BindsAt w w.heap.size Ab n ls bb) (hn : n ≤ 1000000) :
    Calls Try.prog 31 #[.slice As ns cs, .slice Ab n c] w fun e w' => e = .returned (.bool (solvedB ss bb)) ∧ Below w.heap.size w w' := by
  have CB := Lib.hid (validBinds_any As Ab ns cs n c ss ls bb w hs hb hn)
  obtain ⟨R, hR⟩ : ∃ R, solvedB ss bb = R := ⟨_, rfl⟩
  rw [hR]
  have HR := Lib.hid hR
  have HT := Lib.hid hb
  have HLT := Lib.hid hb.len
  cases hok : bindsOk ss bb
  · rw [hok] at CB
    have H := Lib.hid (show R = false by rw [← HR.out]; exact solved_inv hok)
    clear hs hb hR hok
    go_enter Try.func31, Try.ntmps31
    go_wp2_with (go_at_call 29; refine CB.out.mono ?_; rintro e w1 ⟨rfl, hB1⟩; have HB1 := Lib.hid hB1; clear hB1)
    go_ret
    exact ⟨ret_b (by rw [H.out]), HB1.out⟩
  · rw [hok] at CB
    have HOK := Lib.hid hok
    have HRNG := Lib.hid (fun x (hx : x ∈ bb) => And.intro (bindsTo_above hok x hx) (bindsOk_each hok x hx).1)
    clear hs hb hR hok
    go_enter Try.func31, Try.ntmps31
    go_wp2_with (go_at_call 29; refine CB.out.mono ?_; rintro e w1 ⟨rfl, hB1⟩; have HB1 := Lib.hid hB1; clear hB1)
    go_loopw [15] (fun i wr => ∃ k : Nat, k ≤ n ∧ i = .int .i64 k ∧ NoneTo bb k ∧ Below w.heap.size w wr) (fun i _ => n - (intOf i).toNat)
    case atStart => exact ⟨0, Nat.zero_le _, rfl, NoneTo.zero _, HB1.out⟩
    case round =>
      obtain ⟨k, hk, rfl, hno, hB⟩ := hrel
      have HB := Lib.hid hB
      by_cases hlt : k < n
      · obtain ⟨b, off, v, t, A', n', c', rfl, hb, q1, q2, e1, e2, hI⟩ := HT.out.cellAt hlt
        have r1 := (hB.cell (p := ⟨b, off + k * 2, none⟩) hb).trans q1
        have r2 := (hB.cell (p := ⟨b, off + k * 2 + 1, none⟩) hb).trans q2
        have hk0 : (0 : Int) ≤ (k : Int) := by omega
        have hk1 : (k : Int) < (n : Int) := by omega
        obtain ⟨hv0, hv1⟩ := HRNG.out _ (List.mem_of_getElem? e1)
        simp only at hv0 hv1
        have HE1 := Lib.hid e1
        have HNO := Lib.hid hno
        obtain ⟨W1, hW1⟩ : ∃ W1, wr.alloc (.cells #[.int .i64 v, .slice A' n' c'] 81) = W1 := ⟨_, rfl⟩
        have hBW : Below wr.heap.size wr W1 := by rw [← hW1]; exact bel_al (Below.refl _ wr) _
        have c0W : W1.cell? ⟨wr.heap.size, 0, none⟩ = some (.int .i64 v) := by rw [← hW1]; simp
        have hltW : wr.heap.size < W1.heap.size := by rw [← hW1]; simp
        have HBW := Lib.hid (below_then hB hBW)
        have HC0 := Lib.hid c0W
        have HLW := Lib.hid hltW
        have HW1 := Lib.hid hW1
        clear e1 e2 hI hno hB q1 q2 hBW c0W hltW hW1
        obtain ⟨wa, hwa⟩ : ∃ wa, wa = wr := ⟨_, rfl⟩
        subst hwa
        go_wp2_with fail
        rw [HW1.out]
        go_loopw [21] (fun i wr => ∃ j : Nat, j ≤ n ∧ i = .int .i64 j ∧ NoneAt bb v j ∧ Below w.heap.size w wr ∧ Below W1.heap.size W1 wr) (fun i _ => n - (intOf i).toNat)
        case atStart => exact ⟨0, Nat.zero_le _, rfl, NoneAt.zero _ _, HBW.out, Below.refl _ _⟩
        case round =>
          obtain ⟨j, hj, rfl, hna, hB2, hB3⟩ := hrel
          by_cases hltj : j < n
          · obtain ⟨b', off', v', t', A2, n2, c2, hA, hb', q1, q2, e1, e2, hI⟩ := HT.out.cellAt hltj
            cases hA
            have s1 := (hB2.cell (p := ⟨b, off + j * 2, none⟩) hb).trans q1
            have s2 := (hB2.cell (p := ⟨b, off + j * 2 + 1, none⟩) hb).trans q2
            have c0 := (hB3.cell (p := ⟨wa.heap.size, 0, none⟩) HLW.out).trans HC0.out
            have hj0 : (0 : Int) ≤ (j : Int) := by omega
            have hj1 : (j : Int) < (n : Int) := by omega
            have CC := Lib.hid (comes_any v A2 n2 c2 t' (wr.alloc (.cells #[.int .i64 v', .slice A2 n2 c2] 81)) _ ((hI.up hB2).alloc _) (by omega) (by omega))
            have cc0 := (Below.refl wr.heap.size wr |>.alloc (Nat.le_refl _) (.cells #[.int .i64 v', .slice A2 n2 c2] 81) |>.cell (p := ⟨wa.heap.size, 0, none⟩) (Nat.lt_of_lt_of_le HLW.out hB3.size)).trans c0
            obtain ⟨qb, hqb⟩ : ∃ qb, t'.contains (-v - 1) = qb := ⟨_, rfl⟩
            rw [hqb] at CC
            have HB2 := Lib.hid (hB2.alloc hB2.size (.cells #[.int .i64 v', .slice A2 n2 c2] 81))
            have HB3 := Lib.hid (bel_al hB3 (.cells #[.int .i64 v', .slice A2 n2 c2] 81))
            have HH : Hid ((qb = true → R = false) ∧ (qb = false → NoneAt bb v (j + 1))) := ⟨fun e => by rw [← HR.out]; exact solved_bad HE1.out e1 (by rw [hqb]; exact e), fun e => hna.succ e1 (by rw [hqb]; exact e)⟩
            clear hna hB2 hB3 q1 q2 e1 e2 hI hqb c0
            cases qb
            · have H := Lib.hid (HH.out.2 rfl)
              go_wp2_with (go_at_call 111; refine CC.out.mono ?_; rintro e w4 ⟨rfl, rfl⟩)
              go_roundw
              case rel => exact ⟨j + 1, by omega, by go_num, H.out, HB2.out, HB3.out⟩
              case measure => simp [intOf]; omega
            · have H := Lib.hid (HH.out.1 rfl)
              go_wp2_with (go_at_call 111; refine CC.out.mono ?_; rintro e w4 ⟨rfl, rfl⟩)
              go_ret
              exact ⟨ret_b (by rw [H.out]), HB2.out⟩
          · obtain rfl : j = n := by omega
            have H := Lib.hid (HNO.out.succ HE1.out hna (by rw [← HLT.out]; exact Nat.le_refl _))
            have HB2 := Lib.hid hB2
            clear hna hB2 hB3
            go_wp2
            go_roundw
            case rel => exact ⟨k + 1, by omega, by go_num, H.out, HB2.out⟩
            case measure => simp [intOf]; omega
      · obtain rfl : k = n := by omega
        have H := Lib.hid (show R = true by rw [← HR.out]; exact solved_good HOK.out hno (by rw [← HLT.out]; exact Nat.le_refl _))
        clear hno hB
        go_wp2
        go_ret
        exact ⟨ret_b (by rw [H.out]), HB.out⟩

end Go.Proofs.Ytgbfccbnbgbknaa

namespace Go.Proofs.Ytgbfccbnbgbknaa
open Go.RowKit Go.Shelf
attribute [local go_sem] Oper.semAt_some

theorem results_cell1 {fn : Func} {p : Tmp} {ty : TypeId} (h : fn.results = #[.cell p ty]) (tmps : Array Value) (P : Program) (w : World) :
    (results fn tmps).run P w = ((asAddr (tmps.getD p undef)).run P w).andThen fun a w₁ => (loadVar ty a).run P w₁ := by
  simp only [results, h]
  simp [Sem.run_bind]

/-- Whether one of the first k variables becomes variable j. -/
def metB (bb : List Bd) (k j : Nat) : Bool := (List.range k).any fun i : Nat => (ofB bb (i : Int)).headD 0 == -(j : Int) - 1
theorem metB_zero (bb : List Bd) (j : Nat) : metB bb 0 j = false := rfl
theorem metB_succ (bb : List Bd) (k j : Nat) : metB bb (k + 1) j = (metB bb k j || (ofB bb (k : Int)).headD 0 == -(j : Int) - 1) := by
  unfold metB
  rw [List.range_succ, List.any_append]
  simp
theorem metB_true {bb : List Bd} {k m : Nat} (h : metB bb k m = true) : ∃ i : Nat, i < k ∧ (ofB bb (i : Int)).headD 0 = -(m : Int) - 1 := by
  unfold metB at h
  rw [List.any_eq_true] at h
  obtain ⟨i, hi, e⟩ := h
  exact ⟨i, List.mem_range.1 hi, by simpa using e⟩
theorem metB_false {bb : List Bd} {k m i : Nat} (h : metB bb k m = false) (hi : i < k) : (ofB bb (i : Int)).headD 0 ≠ -(m : Int) - 1 := by
  unfold metB at h
  rw [List.any_eq_false] at h
  have := h i (List.mem_range.2 hi)
  simpa using this
/-- What the rounds of Renaming keep. -/
def IRen (w : World) (d : Nat) (Ab : Option Addr) (n c : Nat) (bb : List Bd) (k : Nat) (W : World) : Prop :=
  ∃ cs : Array Value, Blk W d 86 cs ∧ cs.size = 12 ∧ (∀ j : Nat, j < 12 → cs[j]? = some (.bool (metB bb k j))) ∧ Blk W w.heap.size 4 #[.bool false] ∧ Blk W (d + 1) 34 #[.slice Ab n c] ∧ RenTo bb k ∧ Below w.heap.size w W
theorem below_grown {w W W' : World} {row : Option Nat} {B : Nat} (h : Below w.heap.size w W) (hg : W.grownBy W' row) (hr : ∀ r, row = some r → B ≤ r ∧ ∃ o : Obj, W.heap[r]? = some o ∧ o.isCells = false) (hB : w.heap.size ≤ B) : Below w.heap.size w W' :=
  h.grown hg h.size (fun k e => by have := (hr k e).1; omega)
theorem IRen.own {w : World} {d B n c : Nat} {Ab : Option Addr} {bb : List Bd} (hB : w.heap.size ≤ B) : OwnFrom B (IRen w d Ab n c bb) := by
  rintro k W W' row ⟨cs, h1, h2, h3, h4, h5, h6, h7⟩ hg hr
  have hr' := fun r e => (hr r e).2
  exact ⟨cs, (grownBy_keeps_cells hg hr' h1 rfl).trans h1, h2, h3, (grownBy_keeps_cells hg hr' h4 rfl).trans h4, (grownBy_keeps_cells hg hr' h5 rfl).trans h5, h6, below_grown h7 hg hr hB⟩
/-- What lies behind a round that leaves. -/
def XRen (w : World) (R : Bool) (W : World) : Prop := R = false ∧ Blk W w.heap.size 4 #[.bool false] ∧ Below w.heap.size w W
theorem XRen.own {w : World} {B : Nat} {R : Bool} (hB : w.heap.size ≤ B) : OwnFrom B (fun (_ : Unit) W => XRen w R W) := by
  rintro _ W W' row ⟨h0, h4, h7⟩ hg hr
  exact ⟨h0, (grownBy_keeps_cells hg (fun r e => (hr r e).2) h4 rfl).trans h4, below_grown h7 hg hr hB⟩

set_option maxRecDepth 100000 in
set_option maxHeartbeats 2000000 in
theorem renaming_bad (As Ab : Option Addr) (ns cs n c : Nat) (ss : Sg) (ls : List Hd) (bb : List Bd) (w : World) (hs : SigAt w w.heap.size As ns ss) (hb : BindsAt w w.heap.size Ab n ls bb) (hn : n ≤ 1000000) (hok : bindsOk ss bb = false) :
    Calls Try.prog 33 #[.slice As ns cs, .slice Ab n c] w fun e w' => e = .returned (.bool (renB ss bb)) ∧ Below w.heap.size w w' := by
  have hB0 : Below w.heap.size w (w.alloc (.cells #[.bool false] 4)) := bel_al (Below.refl _ w) _
  have CB := Lib.hid (validBinds_any As Ab ns cs n c ss ls bb _ (hs.up hB0) (hb.up hB0) hn)
  have HB0 := Lib.hid hB0
  have H : Hid (renB ss bb = false) := Lib.hid (by unfold renB; rw [hok]; rfl)
  have hk0 := Blk.new w 4 #[.bool false]
  have HC0 := Lib.hid (fun V (h : Below (w.alloc (.cells #[.bool false] 4)).heap.size (w.alloc (.cells #[.bool false] 4)) V) => hk0.below h (by simp))
  rw [hok] at CB
  clear hs hb hok hB0 hk0
  rw [H.out]
  go_enter Try.func33, Try.ntmps33
  go_wp2_with (go_at_call 29; refine CB.out.mono ?_; rintro e w1 ⟨rfl, hB1⟩; have hk1 := HC0.out _ hB1; have c0 := hk1.cell 0; have f0 := hk1.frozen 0; simp only [Array.getElem?_singleton, if_true] at c0; have HB1 := Lib.hid (below_then HB0.out hB1); clear hB1 hk1)
  refine bodyPost_ret (v := .bool false) (by rw [results_cell1 rfl]; go_simp) rfl ?_
  exact ⟨rfl, HB1.out.setCell (p := ⟨w.heap.size, 0, none⟩) (Nat.le_refl _) _⟩

set_option maxRecDepth 100000 in
set_option maxHeartbeats 2000000 in
theorem renaming_ok (As Ab : Option Addr) (ns cs n c : Nat) (ss : Sg) (ls : List Hd) (bb : List Bd) (w : World) (hs : SigAt w w.heap.size As ns ss) (hb : BindsAt w w.heap.size Ab n ls bb) (hn : n ≤ 1000000) (hok : bindsOk ss bb = true) :
    Calls Try.prog 33 #[.slice As ns cs, .slice Ab n c] w fun e w' => e = .returned (.bool (renB ss bb)) ∧ Below w.heap.size w w' := by
  have hB0 : Below w.heap.size w (w.alloc (.cells #[.bool false] 4)) := bel_al (Below.refl _ w) _
  have CB := Lib.hid (validBinds_any As Ab ns cs n c ss ls bb _ (hs.up hB0) (hb.up hB0) hn)
  have HB0 := Lib.hid hB0
  have HS := Lib.hid hs
  have HT := Lib.hid hb
  obtain ⟨R, hR⟩ : ∃ R, renB ss bb = R := ⟨_, rfl⟩
  rw [hR]
  have HR : Hid (RenTo bb 12 → R = true) := Lib.hid (fun h => by rw [← hR]; simp [renB, hok, h])
  have HF : Hid (¬ RenTo bb 12 → R = false) := Lib.hid (fun h => by rw [← hR]; simp [renB, hok, h])
  have hk0 := Blk.new w 4 #[.bool false]
  have HC0 := Lib.hid (fun V (h : Below (w.alloc (.cells #[.bool false] 4)).heap.size (w.alloc (.cells #[.bool false] 4)) V) => hk0.below h (by simp))
  rw [hok] at CB
  have HOK := Lib.hid hok
  clear hs hb hok hB0 hk0 hR
  refine callsIn_wide (n := 5) |>.1 ?_
  refine callsIn_of_wp_marks Try.func33 rfl trivial ?_ rfl
  simp only [Try.ntmps33, List.size_toArray, List.length_cons, List.length_nil, Nat.reduceAdd, Nat.reduceSub, Array.replicate_succ, Array.replicate_zero, List.push_toArray, List.append_toArray, List.nil_append, List.cons_append]
  gi_wp2_with (first
    | (refine ⟨trivial, ?_⟩; gi_at_call 29; refine (callsIn_wide.2 CB.out).mono ?_; rintro e w1 ⟨rfl, hB1⟩; have hk1 := HC0.out _ hB1; have HK1 := Lib.hid hk1; have HB1 := Lib.hid (below_then HB0.out hB1); clear hB1 hk1)
    | (refine ⟨trivial, ?_⟩; gi_at_call 112; refine (callsIn_wide.2 (outcomes_any _ _ _ _)).mono ?_; rintro e w2 ⟨rfl, rfl⟩))
  obtain ⟨d, hd⟩ : ∃ d, w1.heap.size = d := ⟨_, rfl⟩
  obtain ⟨W9, hW9⟩ : ∃ W9, (w1.alloc (.cells #[.bool false, .bool false, .bool false, .bool false, .bool false, .bool false, .bool false, .bool false, .bool false, .bool false, .bool false, .bool false] 86)).alloc (.cells #[.slice Ab n c] 34) = W9 := ⟨_, rfl⟩
  rw [hW9]
  have hwd : w.heap.size < d := by rw [← hd]; exact HK1.out.lt
  have sz : W9.heap.size = d + 2 := by rw [← hW9]; simp [hd]
  have hB9 : Below w.heap.size w W9 := by rw [← hW9]; exact bel_al (bel_al HB1.out _) _
  have b1 : Blk W9 d 86 #[.bool false, .bool false, .bool false, .bool false, .bool false, .bool false, .bool false, .bool false, .bool false, .bool false, .bool false, .bool false] := by
    rw [← hW9, ← hd]; exact (Blk.new w1 _ _).alloc _
  have b2 : Blk W9 (d + 1) 34 #[.slice Ab n c] := by
    rw [← hW9, ← hd]
    have := Blk.new (w1.alloc (.cells #[.bool false, .bool false, .bool false, .bool false, .bool false, .bool false, .bool false, .bool false, .bool false, .bool false, .bool false, .bool false] 86)) 34 #[.slice Ab n c]
    rw [World.size_alloc] at this
    exact this
  have b0 : Blk W9 w.heap.size 4 #[.bool false] := by rw [← hW9]; exact (HK1.out.alloc _).alloc _
  have i0 : IRen w d Ab n c bb 0 W9 := ⟨_, b1, rfl, fun j hj => by
    rw [metB_zero]
    rcases j with _ | _ | _ | _ | _ | _ | _ | _ | _ | _ | _ | _ | j <;> first | rfl | omega, b0, b2, RenTo.zero _, hB9⟩
  rw [hd]
  clear hW9 b1 b2 b0 hB9
  refine range_k (gf := 174) (lb := #[.pointer (some ⟨d + 1, 0, none⟩)]) rfl (enters_of Try.func174 (by kernel_rfl) rfl) (encs := encO) (fun _ _ => rfl)
    (HxO bb) 12 (IRen w d Ab n c bb) (XRen w R) (IRen.own (by omega)) (XRen.own (by omega)) (fun k x W l o o' hx hl ho hc => hx.putObj ho hc) i0
    ?seq (fun k x => { tmps := #[.slice As ns cs, .slice Ab n c, undef, undef, .pointer (some ⟨w.heap.size, 0, none⟩), .pointer (some ⟨d, 0, none⟩), undef, .slice x.1 x.2.1 x.2.2, .slice As ns cs, .slice Ab n c, .bool true, .bool false, .slice Ab n c, .func (.func 174) #[] #[.pointer (some ⟨d + 1, 0, none⟩)], .int .i64 (k : Int), .slice x.1 x.2.1 x.2.2, undef, undef, undef, undef, undef, undef, undef, undef, undef, undef, undef, undef, undef, undef, undef, undef, undef, undef], defers := [] }) ?assign ?body ?done ?stop
  case seq =>
    intro l J JL V hV hJ hJL hJI hY hJ0
    exact outC_in l 4 (d + 1) n c Ab ls bb ss J JL HOK.out hn hJ hJL (fun k A hA => by
      obtain ⟨cs', h1, h2, h3, h4, h5, h6, h7⟩ := hJI k A hA
      exact ⟨h5, HT.out.up h7⟩) hY V hJ0
  case assign =>
    intro l m k x W K hK
    unfold encO
    gi_wp2
    exact hK
  case body =>
    rintro l m k ⟨A', n', c'⟩ W ⟨cs, h1, h2, h3, h4, h5, h6, h7⟩ hx hk
    have hvl := ofB_len HOK.out (v := (k : Int)) (by omega) (by omega)
    have hnums := ofB_nums HOK.out (v := (k : Int)) (by omega) (by omega)
    have hxl := hx.len
    obtain ⟨b, off, z, e0, cz, k1, e1⟩ := IntsAt.cellAt hx (show 0 < n' by simp only at hxl; omega)
    simp only at e0
    subst e0
    have hz := hnums z (by rw [← e1]; exact List.getElem_mem k1)
    have hhd : (ofB bb (k : Int)).headD 0 = z := by
      cases hh : ofB bb (k : Int) with
      | nil => rw [hh] at k1; simp at k1
      | cons y r => simp only [hh] at e1; exact e1
    have CIV := Lib.hid (isVariable_any (some ⟨b, off, none⟩) n' c' (ofB bb (k : Int)) W _ hx (by simp only at hxl; omega))
    rw [hhd] at CIV
    rw [Nat.add_zero] at cz
    have c4 := h4.cell 0
    have f4 := h4.frozen 0
    simp only [Array.getElem?_singleton, if_true] at c4
    have hn1 : 1 ≤ n' := by simp only at hxl; omega
    have H4 := Lib.hid h4
    have H7 := Lib.hid h7
    have HX := Lib.hid hx
    by_cases hneg : z < 0
    · obtain ⟨j, hj⟩ : ∃ j : Nat, -z - 1 = (j : Int) := ⟨(-z - 1).toNat, by omega⟩
      have hj12 : j < 12 := by omega
      have cj := (h1.cell j).trans (h3 j hj12)
      have fj := h1.frozen j
      have hq : decide (z < 0) = true := decide_eq_true hneg
      rw [hq] at CIV
      have w1' : IntKind.i64.wrap (-z) = -z := by rw [IntKind.wrap_i64]; omega
      have w2' : IntKind.i64.wrap (-z - 1) = (j : Int) := by rw [IntKind.wrap_i64]; omega
      have hj0 : (0 : Int) ≤ (j : Int) := by omega
      have hj1 : (j : Int) < 12 := by omega
      have H1 := Lib.hid h1
      have H5 := Lib.hid h5
      have H6 := Lib.hid h6
      have H3 := Lib.hid h3
      have H2 := Lib.hid h2
      have HHD := Lib.hid hhd
      have HJ := Lib.hid hj
      have hne : d ≠ w.heap.size := by omega
      cases hmet : metB bb k j
      · rw [hmet] at cj
        have HMET := Lib.hid hmet
        clear hvl hnums hxl k1 e1 hz hhd hq h1 h2 h3 h4 h5 h6 h7 hx hmet hj
        gi_wp2_with ((first | refine ⟨trivial, fun h => (by cases h), ?_⟩ | refine ⟨trivial, ?_⟩); gi_at_call 113; refine (CallsIn.inRound l (callsIn_wide.2 CIV.out)).mono ?_; rintro e W1 ⟨rfl, rfl⟩)
        refine ⟨(KeepsOthers.setCell _ _ _).from _, cs.setIfInBounds j (.bool true), H1.out.set_ j _, by simp [H2.out], fun i hi => ?_, H4.out.far (by show w.heap.size ≠ d; omega) _, H5.out.far (by show d + 1 ≠ d; omega) _, H6.out.succ (by rw [HHD.out]; exact hneg) (fun i hi => ?_), H7.out.setCell (p := ⟨d, j, none⟩) (by show w.heap.size ≤ d; omega) _⟩
        · rw [metB_succ, Array.getElem?_setIfInBounds, HHD.out]
          by_cases e : j = i
          · subst e
            have h2 := H2.out
            have h3 := HJ.out
            have e2 : (z == -(j : Int) - 1) = true := by simp; omega
            rw [if_pos rfl, if_pos (by omega), e2, Bool.or_true]
          · have h3 := HJ.out
            have e2 : (z == -(i : Int) - 1) = false := by simp; omega
            rw [if_neg e, H3.out i hi, e2, Bool.or_false]
        · have := metB_false HMET.out hi
          rw [HHD.out]
          have h3 := HJ.out
          omega
      · rw [hmet] at cj
        have H := Lib.hid (show R = false from HF.out (fun hr => by
          obtain ⟨i, hi, e⟩ := metB_true hmet
          exact hr.2 i k hi hk (by rw [e, hhd]; omega)))
        clear hvl hnums hxl k1 e1 hz hhd hq h1 h2 h3 h4 h5 h6 h7 hx hmet hj
        gi_wp2_with ((first | refine ⟨trivial, fun h => (by cases h), ?_⟩ | refine ⟨trivial, ?_⟩); gi_at_call 113; refine (CallsIn.inRound l (callsIn_wide.2 CIV.out)).mono ?_; rintro e W1 ⟨rfl, rfl⟩)
        exact ⟨(KeepsOthers.setCell _ _ _).from _, H.out, H4.out.set_ 0 _, H7.out.setCell (p := ⟨w.heap.size, 0, none⟩) (Nat.le_refl _) _⟩
    · have hq : decide (z < 0) = false := decide_eq_false hneg
      rw [hq] at CIV
      have H := Lib.hid (show R = false from HF.out (fun hr => hneg (by rw [← hhd]; exact hr.1 k hk)))
      clear hvl hnums hxl k1 e1 hz hhd hq h1 h2 h3 h4 h5 h6 h7 hx
      gi_wp2_with ((first | refine ⟨trivial, fun h => (by cases h), ?_⟩ | refine ⟨trivial, ?_⟩); gi_at_call 113; refine (CallsIn.inRound l (callsIn_wide.2 CIV.out)).mono ?_; rintro e W1 ⟨rfl, rfl⟩)
      exact ⟨(KeepsOthers.setCell _ _ _).from _, H.out, H4.out.set_ 0 _, H7.out.setCell (p := ⟨w.heap.size, 0, none⟩) (Nat.le_refl _) _⟩
  case done =>
    rintro D W hD ⟨cs, h1, h2, h3, h4, h5, h6, h7⟩ hK
    have H := Lib.hid (HR.out h6)
    have c4 := h4.cell 0
    have f4 := h4.frozen 0
    simp only [Array.getElem?_singleton, if_true] at c4
    have H7 := Lib.hid h7
    have H4 := Lib.hid h4
    clear h1 h2 h3 h4 h5 h6 h7
    gi_wp2
    have hK2 : (W.setCell ⟨w.heap.size, 0, none⟩ (.bool true)).heap[D]? = some (.deferred (some [])) := (Below.heap_setCell W ⟨w.heap.size, 0, none⟩ _ D (by show D ≠ w.heap.size; omega)).trans hK
    have c5 : ((W.setCell ⟨w.heap.size, 0, none⟩ (.bool true)).putObj D (.deferred none)).cell? ⟨w.heap.size, 0, none⟩ = some (.bool true) := cell_kept (by simpa using (H4.out.set_ 0 (.bool true)).cell 0) (grownBy_putObj' _ D _) (fun r e => by cases e; exact ⟨_, hK2, rfl⟩)
    refine ⟨by simp, .inl ⟨_, _, rfl, run_takeDeferred hK2, ?_⟩⟩
    refine ⟨.bool true, (by rw [results_cell1 rfl]; go_simp), ?_, ?_⟩
    · rw [H.out]
    · exact (H7.out.setCell (p := ⟨w.heap.size, 0, none⟩) (Nat.le_refl _) _).trans (belowK_b (w := W9) (by omega) _ D _ _ (by omega) hK2 rfl rfl)
  case stop =>
    rintro D W hD ⟨h1, h2, h3⟩ hK
    have c4 := h2.cell 0
    have f4 := h2.frozen 0
    simp only [Array.getElem?_singleton, if_true] at c4
    have H2 := Lib.hid h2
    gi_wp2
    have hK2 : (W).heap[D]? = some (.deferred (some [])) := hK
    have c5 : ((W).putObj D (.deferred none)).cell? ⟨w.heap.size, 0, none⟩ = some (.bool false) := cell_kept c4 (grownBy_putObj' _ D _) (fun r e => by cases e; exact ⟨_, hK2, rfl⟩)
    refine ⟨by simp, .inl ⟨_, _, rfl, run_takeDeferred hK2, ?_⟩⟩
    refine ⟨.bool false, (by rw [results_cell1 rfl]; go_simp), ?_, ?_⟩
    · rw [h1]
    · exact (h3).trans (belowK_b (w := W9) (by omega) _ D _ _ (by omega) hK2 rfl rfl)

theorem renaming_any (As Ab : Option Addr) (ns cs n c : Nat) (ss : Sg) (ls : List Hd) (bb : List Bd) (w : World) (hs : SigAt w w.heap.size As ns ss) (hb : BindsAt w w.heap.size Ab n ls bb) (hn : n ≤ 1000000) :
    Calls Try.prog 33 #[.slice As ns cs, .slice Ab n c] w fun e w' => e = .returned (.bool (renB ss bb)) ∧ Below w.heap.size w w' := by
  cases h : bindsOk ss bb
  · exact renaming_bad As Ab ns cs n c ss ls bb w hs hb hn h
  · exact renaming_ok As Ab ns cs n c ss ls bb w hs hb hn h

end Go.Proofs.Ytgbfccbnbgbknaa
