/- Joined: what it hands back, and what joined proofs say (pure): KernelJoins's mathematics. -/
import Derived.Test.YtippmpcaongolaaPFg
import Derived.Test.YtippmpcaongolaaPJg
import Derived.Test.YtippmpcaongolaaN8g
import Derived.Test.YtippmpcaongolaaPNg
import Derived.Test.YtippmpcaongolaaW0g
import Derived.Test.YtippmpcaongolaaN35g
import Derived.Test.YtippmpcaongolaaPYg
/- Contracts: planted, Untree. -/
namespace Go.Proofs.Ytippmpcaongolaa
open Go.RowKit

theorem results_cellK {fn : Func} {p q : Tmp} {ty : TypeId} (h : fn.results = #[.cell p ty, .tmp q]) (tmps : Array Value) (P : Program) (w : World) :
    (results fn tmps).run P w = ((asAddr (tmps.getD p undef)).run P w).andThen fun a w₁ => ((loadVar ty a).run P w₁).andThen fun v w₂ => .ok (.tuple #[v, tmps.getD q undef]) w₂ := by
  simp only [results, h]
  simp [Sem.run_bind, Result.andThen]

set_option maxRecDepth 100000 in
set_option maxHeartbeats 4000000 in
theorem planted_any (g : Int) (r : ByteArray) (w : World) (hr : r.size ≤ 100000) (R : Rd) (hR : plant g (r.size + 1) [] r.data.toList = R) :
    Calls Try.prog 106 #[.int .i64 g, .string r] w fun e w' => ∃ A n c, e = .returned (.tuple #[.slice A n c, .bool (R.1.isSome && R.2.2.isEmpty)]) ∧ StepsAt w' w'.heap.size A n R.2.1 ∧ Below w.heap.size w w' := by
  obtain ⟨N, hN0⟩ : ∃ N, w.heap.size = N := ⟨_, rfl⟩
  have hmm := @run_makeMap Try.prog
  let cl : Value := .func (.func 150) #[] #[.pointer (some ⟨N + 4, 0, none⟩), .pointer (some ⟨N + 5, 0, none⟩), .pointer (some ⟨N, 0, none⟩), .pointer (some ⟨N + 3, 0, none⟩), .pointer (some ⟨N + 1, 0, none⟩)]
  let W1 := w.alloc (.cells #[.int .i64 g] 3)
  let W2 := W1.alloc (.cells #[.slice none 0 0] 50)
  let W3 := W2.alloc (.map #[] 0)
  let W4 := W3.alloc (.cells #[.map (some (N + 2))] 138)
  let W5 := W4.alloc (.cells #[.string r] 9)
  let W6 := W5.alloc (.cells #[cl] 183)
  have z1 : W1.heap.size = N + 1 := by simp [W1, hN0]
  have z2 : W2.heap.size = N + 2 := by simp [W2, z1]
  have z3 : W3.heap.size = N + 3 := by simp [W3, z2]
  have z4 : W4.heap.size = N + 4 := by simp [W4, z3]
  have z5 : W5.heap.size = N + 5 := by simp [W5, z4]
  have z6 : W6.heap.size = N + 6 := by simp [W6, z5]
  have b1 : Blk W1 N 3 #[.int .i64 g] := by have := Blk.new w 3 #[.int .i64 g]; rw [hN0] at this; exact this
  have b2 : Blk W2 (N + 1) 50 #[.slice none 0 0] := by have := Blk.new W1 50 #[.slice none 0 0]; rw [z1] at this; exact this
  have m3 : StepMap W3 (N + 2) [] := by have := StepMap.made W2; rw [z2] at this; exact this
  have b4 : Blk W4 (N + 3) 138 #[.map (some (N + 2))] := by have := Blk.new W3 138 #[.map (some (N + 2))]; rw [z3] at this; exact this
  have b5 : Blk W5 (N + 4) 9 #[.string r] := by have := Blk.new W4 9 #[.string r]; rw [z4] at this; exact this
  have b6 : Blk W6 (N + 5) 183 #[cl] := by have := Blk.new W5 183 #[cl]; rw [z5] at this; exact this
  have u2 : Below W1.heap.size W1 W2 := bel_al0 _ _
  have u3 : Below W2.heap.size W2 W3 := bel_al0 _ _
  have u4 : Below W3.heap.size W3 W4 := bel_al0 _ _
  have u5 : Below W4.heap.size W4 W5 := bel_al0 _ _
  have u6 : Below W5.heap.size W5 W6 := bel_al0 _ _
  have u46 : Below W4.heap.size W4 W6 := below_then u5 u6
  have u36 : Below W3.heap.size W3 W6 := below_then u4 u46
  have u26 : Below W2.heap.size W2 W6 := below_then u3 u36
  have uw : Below w.heap.size w W6 := below_then (below_then (bel_al0 w _) u2) u26
  have k1 : Blk W6 N 3 #[.int .i64 g] := b1.below (below_then u2 u26) (by omega)
  have k2 : Blk W6 (N + 1) 50 #[.slice none 0 0] := b2.below u26 (by omega)
  have k4 : Blk W6 (N + 3) 138 #[.map (some (N + 2))] := b4.below u46 (by omega)
  have k5 : Blk W6 (N + 4) 9 #[.string r] := b5.below u6 (by omega)
  have hbox : PBox (N + 4) (N + 5) N (N + 3) (N + 1) (N + 2) (N + 6) := ⟨by omega, by omega, by omega, by omega⟩
  have hM : PlantAt W6 (N + 4) (N + 5) N (N + 3) (N + 1) (N + 2) (N + 6) g (.slice none 0 0) [] [] r :=
    ⟨k5.cell 0, b6.cell 0, k1.cell 0, k4.cell 0, k2.cell 0, k5.frozen 0, k2.frozen 0, m3.same (u36.block _ (by omega)), World.ownsRow_nil _ _ _ _⟩
  have hcall := plant_any g (N + 4) (N + 5) N (N + 3) (N + 1) (N + 2) (N + 6) hbox (r.size + 1) [] r (.slice none 0 0) W6 R hR (by omega) (by simp; omega) (by omega) hM
  have hP6 : R.2.1.length ≤ 1000000 := by have := (plant_le g (r.size + 1) [] r.data.toList).sum; rw [hR] at this; simp at this; omega
  have HC : Hid (Calls Try.prog 150 #[.pointer (some ⟨N + 1 + 1 + 1 + 1, 0, none⟩), .pointer (some ⟨N + 1 + 1 + 1 + 1 + 1, 0, none⟩), .pointer (some ⟨N, 0, none⟩), .pointer (some ⟨N + 1 + 1 + 1, 0, none⟩), .pointer (some ⟨N + 1, 0, none⟩)] W6
      (fun e w' => ∃ v' r', e = .returned (.tuple #[.int .i64 (R.1.getD 0 : Nat), .bool R.1.isSome]) ∧ (w'.cell? ⟨N + 1, 0, none⟩ = some v' ∧ w'.frozen? ⟨N + 1, 0, none⟩ = false ∧ w'.cell? ⟨N + 1 + 1 + 1 + 1, 0, none⟩ = some (.string r')) ∧ Hid (r'.data.toList = R.2.2 ∧ w'.ownsRow (N + 6) 123 3 v' R.2.1.length (flatS R.2.1) ∧ Below w.heap.size w w'))) :=
    Lib.hid (hcall.mono (R' := _) (fun e w' ⟨v', r', q1, q2, q3, q4⟩ => ⟨v', r', q1, ⟨q2.cp, q2.fp, q2.cr⟩, Lib.hid ⟨q3, q2.row, uw.trans (q4.below (by omega) (by omega) (fun k e => by cases e))⟩⟩))
  have HCN : Hid (W6.cell? ⟨N + 1 + 1 + 1 + 1 + 1, 0, none⟩ = some (.func (.func 150) #[] #[.pointer (some ⟨N + 1 + 1 + 1 + 1, 0, none⟩), .pointer (some ⟨N + 1 + 1 + 1 + 1 + 1, 0, none⟩), .pointer (some ⟨N, 0, none⟩), .pointer (some ⟨N + 1 + 1 + 1, 0, none⟩), .pointer (some ⟨N + 1, 0, none⟩)])) := Lib.hid (b6.cell 0)
  have HNB := Lib.hid hN0
  have HP6 := Lib.hid hP6
  obtain ⟨WX, hWX⟩ : ∃ WX, W6 = WX := ⟨_, rfl⟩
  have HWX := Lib.hid hWX
  rw [hWX] at HC HCN
  obtain ⟨fd, hfd⟩ : ∃ fd, R.1.isSome = fd := ⟨_, rfl⟩
  obtain ⟨i5, hi5⟩ : ∃ i5 : Int, ((R.1.getD 0 : Nat) : Int) = i5 := ⟨_, rfl⟩
  rw [hfd, hi5] at HC
  rw [hfd]
  clear hcall uw u46 u36 u26 u6 u5 u4 u3 u2 k1 k2 k4 k5 b1 b2 b4 b5 b6 m3 hM hbox z1 z2 z3 z4 z5 z6 hWX hR hP6 hfd hi5
  cases fd with
  | true =>
    go_enter Try.func106, Try.ntmps106
    go_upto_region 5 with fail
    clear hmm
    have HW' := HWX.out
    change Code.wp _ _ _ _ W6
    rw [HW']
    clear HW'
    have hcn := HCN.out
    go_upto_region 6 with (first
      | (go_at_call 150
         refine HC.out.mono ?_
         rintro e w5 ⟨v5, r5, rfl, ⟨c1, f1, c4⟩, H5⟩
         obtain ⟨A5, cc5, hv5⟩ := row_formK H5.out.2.1
         subst hv5))
    obtain ⟨L5, hL5⟩ : ∃ L5, R.2.1.length = L5 := ⟨_, rfl⟩
    rw [hL5] at c1 H5
    have HL5 := Lib.hid hL5
    clear hL5
    refine wp_region_held_drew (S := fun w' => w'.cell? ⟨N + 1, 0, none⟩ = some (.slice A5 L5 cc5) ∧ w'.frozen? ⟨N + 1, 0, none⟩ = false ∧ w'.cell? ⟨N + 1 + 1 + 1 + 1, 0, none⟩ = some (.string r5)) (by kernel_rfl) ?_ (fun hHeld => ?_)
    · exact ⟨c1, f1, c4⟩
    refine wpAnyH_take (i := 0) (v := ?_) rfl (by kernel_rfl) (by kernel_rfl) (by kernel_rfl) (fun _ _ _ h => h) (Or.inl ⟨by rfl, ?_⟩) (by assumption) ?_
    rotate_left
    · intro w hSw; (try dsimp only at hSw); obtain ⟨q1, q2, q3⟩ := hSw; go_simp <;> with_reducible rfl
    try simp only [List.getElem_toArray, List.getElem_cons_zero, Act.put, List.setIfInBounds_toArray, List.set_cons_zero, List.set_cons_succ]
    refine wpAnyH_take (i := 1) (v := ?_) rfl (by kernel_rfl) (by kernel_rfl) (by kernel_rfl) (fun _ _ _ h => h) (Or.inl ⟨by rfl, ?_⟩) (by assumption) ?_
    rotate_left
    · intro w hSw; (try dsimp only at hSw); obtain ⟨q1, q2, q3⟩ := hSw; go_simp <;> with_reducible rfl
    try simp only [List.getElem_toArray, List.getElem_cons_succ, List.getElem_cons_zero, Act.put, List.setIfInBounds_toArray, List.set_cons_zero, List.set_cons_succ]
    refine wpAnyH_take (i := 2) (v := ?_) rfl (by kernel_rfl) (by kernel_rfl) (by kernel_rfl) (fun _ _ _ h => h) (Or.inl ⟨by rfl, ?_⟩) (by assumption) ?_
    rotate_left
    · intro w hSw; (try dsimp only at hSw); obtain ⟨q1, q2, q3⟩ := hSw; go_simp <;> with_reducible rfl
    try simp only [List.getElem_toArray, List.getElem_cons_succ, List.getElem_cons_zero, Act.put, List.setIfInBounds_toArray, List.set_cons_zero, List.set_cons_succ]
    refine wpAnyH_take (i := 3) (v := ?_) rfl (by kernel_rfl) (by kernel_rfl) (by kernel_rfl) (fun _ _ _ h => h) (Or.inl ⟨by rfl, ?_⟩) (by assumption) ?_
    rotate_left
    · intro w hSw; (try dsimp only at hSw); obtain ⟨q1, q2, q3⟩ := hSw; go_simp <;> with_reducible rfl
    try simp only [List.getElem_toArray, List.getElem_cons_succ, List.getElem_cons_zero, Act.put, List.setIfInBounds_toArray, List.set_cons_zero, List.set_cons_succ]
    refine wpAnyH_take (i := 4) (v := ?_) rfl (by kernel_rfl) (by kernel_rfl) (by kernel_rfl) (fun _ _ _ h => h) (Or.inl ⟨by rfl, ?_⟩) (by assumption) ?_
    rotate_left
    · intro w hSw; (try dsimp only at hSw); obtain ⟨q1, q2, q3⟩ := hSw; go_simp <;> with_reducible rfl
    try simp only [List.getElem_toArray, List.getElem_cons_succ, List.getElem_cons_zero, Act.put, List.setIfInBounds_toArray, List.set_cons_zero, List.set_cons_succ]
    refine wpAnyH_take (i := 5) (v := ?_) rfl (by kernel_rfl) (by kernel_rfl) (by kernel_rfl) (fun _ _ _ h => h) (Or.inl ⟨by rfl, ?_⟩) (by assumption) ?_
    rotate_left
    · intro w hSw; (try dsimp only at hSw); obtain ⟨q1, q2, q3⟩ := hSw; go_simp <;> with_reducible rfl
    try simp only [List.getElem_toArray, List.getElem_cons_succ, List.getElem_cons_zero, Act.put, List.setIfInBounds_toArray, List.set_cons_zero, List.set_cons_succ]
    refine wpAnyH_ready (rs := [6]) (by kernel_rfl) (by simp) (AllReadyH.cons rfl (fun K hK => ?_) AllReadyH.nil)
    go_simp
    try go_wp2_with fail
    refine hK.out _ _ ?_ (fun hHeld => ?_)
    · refine ⟨?_, ?_, ?_⟩
      · show (w5.setCell ⟨N + 1, 0, none⟩ (.slice A5 L5 cc5)).cell? ⟨N + 1, 0, none⟩ = _
        exact World.cell?_setCell_same' _ _ _ (by rw [c1]; rfl)
      · show (w5.setCell ⟨N + 1, 0, none⟩ (.slice A5 L5 cc5)).frozen? ⟨N + 1, 0, none⟩ = _
        rw [World.frozen?_setCell]
        exact f1
      · show (w5.setCell ⟨N + 1, 0, none⟩ (.slice A5 L5 cc5)).cell? ⟨N + 1 + 1 + 1 + 1, 0, none⟩ = _
        exact (World.cell?_setCell_other _ ⟨N + 1, 0, none⟩ ⟨N + 1 + 1 + 1 + 1, 0, none⟩ _ (by simp)).trans c4
    clear hK K
    try simp only [List.getElem_toArray, List.getElem_cons_succ, List.getElem_cons_zero, Act.put, List.setIfInBounds_toArray, List.set_cons_zero, List.set_cons_succ]
    refine wpAnyH_take (i := 7) (v := ?_) rfl (by kernel_rfl) (by kernel_rfl) (by kernel_rfl) (fun _ _ _ h => h) (Or.inl ⟨by rfl, ?_⟩) (by assumption) ?_
    rotate_left
    · intro w hSw; (try dsimp only at hSw); obtain ⟨q1, q2, q3⟩ := hSw; go_simp <;> with_reducible rfl
    try simp only [List.getElem_toArray, List.getElem_cons_succ, List.getElem_cons_zero, Act.put, List.setIfInBounds_toArray, List.set_cons_zero, List.set_cons_succ]
    refine wpAnyH_done (by kernel_rfl) ?_ _
    have cz : ((w5.setCell ⟨N + 1, 0, none⟩ (.slice A5 L5 cc5)).drew).cell? ⟨N + 1, 0, none⟩ = some (.slice A5 L5 cc5) := World.cell?_setCell_same' w5 _ _ (by rw [c1]; rfl)
    have fz : ((w5.setCell ⟨N + 1, 0, none⟩ (.slice A5 L5 cc5)).drew).frozen? ⟨N + 1, 0, none⟩ = false := by
      show (w5.setCell ⟨N + 1, 0, none⟩ (.slice A5 L5 cc5)).frozen? ⟨N + 1, 0, none⟩ = false
      rw [World.frozen?_setCell]
      exact f1
    go_wp2_with fail
    refine bodyPost_ret (v := .tuple #[.slice A5 L5 cc5, .bool r5.toList.isEmpty]) (by rw [results_cellK rfl]; go_simp) rfl ?_
    obtain ⟨h1, h2, h3⟩ := H5.out
    have hrow : w5.ownsRow (N + 6) 123 3 (.slice A5 L5 cc5) L5 (flatS R.2.1) := h2
    have hrow2 : ((w5.setCell ⟨N + 1, 0, none⟩ (.slice A5 L5 cc5)).drew).ownsRow (N + 6) 123 3 (.slice A5 L5 cc5) L5 (flatS R.2.1) := ownsRow_movedK hrow fun k e => heap_setCell_other w5 ⟨N + 1, 0, none⟩ k _ (by have := (hrow.lt k e).1; show k ≠ N + 1; omega)
    obtain ⟨A9, c9, e9, hS9, _⟩ := row_steps hrow2 (by have := HP6.out; have := HL5.out; omega)
    cases e9
    exact ⟨_, _, _, by rw [ByteArray.toList_eq, h1]; rfl, hS9, (h3.setCell (p := ⟨N + 1, 0, none⟩) (by show w.heap.size ≤ N + 1; rw [HNB.out]; omega) _).drew⟩
  | false =>
    go_enter Try.func106, Try.ntmps106
    go_upto_region 5 with fail
    clear hmm
    have HW' := HWX.out
    change Code.wp _ _ _ _ W6
    rw [HW']
    clear HW'
    have hcn := HCN.out
    go_upto_region 6 with (first
      | (go_at_call 150
         refine HC.out.mono ?_
         rintro e w5 ⟨v5, r5, rfl, ⟨c1, f1, c4⟩, H5⟩
         obtain ⟨A5, cc5, hv5⟩ := row_formK H5.out.2.1
         subst hv5))
    obtain ⟨L5, hL5⟩ : ∃ L5, R.2.1.length = L5 := ⟨_, rfl⟩
    rw [hL5] at c1 H5
    have HL5 := Lib.hid hL5
    clear hL5
    refine wp_region_held_drew (S := fun w' => w'.cell? ⟨N + 1, 0, none⟩ = some (.slice A5 L5 cc5) ∧ w'.frozen? ⟨N + 1, 0, none⟩ = false ∧ w'.cell? ⟨N + 1 + 1 + 1 + 1, 0, none⟩ = some (.string r5)) (by kernel_rfl) ?_ (fun hHeld => ?_)
    · exact ⟨c1, f1, c4⟩
    refine wpAnyH_take (i := 0) (v := ?_) rfl (by kernel_rfl) (by kernel_rfl) (by kernel_rfl) (fun _ _ _ h => h) (Or.inl ⟨by rfl, ?_⟩) (by assumption) ?_
    rotate_left
    · intro w hSw; (try dsimp only at hSw); obtain ⟨q1, q2, q3⟩ := hSw; go_simp <;> with_reducible rfl
    try simp only [List.getElem_toArray, List.getElem_cons_zero, Act.put, List.setIfInBounds_toArray, List.set_cons_zero, List.set_cons_succ]
    refine wpAnyH_take (i := 1) (v := ?_) rfl (by kernel_rfl) (by kernel_rfl) (by kernel_rfl) (fun _ _ _ h => h) (Or.inl ⟨by rfl, ?_⟩) (by assumption) ?_
    rotate_left
    · intro w hSw; (try dsimp only at hSw); obtain ⟨q1, q2, q3⟩ := hSw; go_simp <;> with_reducible rfl
    try simp only [List.getElem_toArray, List.getElem_cons_succ, List.getElem_cons_zero, Act.put, List.setIfInBounds_toArray, List.set_cons_zero, List.set_cons_succ]
    refine wpAnyH_take (i := 2) (v := ?_) rfl (by kernel_rfl) (by kernel_rfl) (by kernel_rfl) (fun _ _ _ h => h) (Or.inl ⟨by rfl, ?_⟩) (by assumption) ?_
    rotate_left
    · intro w hSw; (try dsimp only at hSw); obtain ⟨q1, q2, q3⟩ := hSw; go_simp <;> with_reducible rfl
    try simp only [List.getElem_toArray, List.getElem_cons_succ, List.getElem_cons_zero, Act.put, List.setIfInBounds_toArray, List.set_cons_zero, List.set_cons_succ]
    refine wpAnyH_take (i := 3) rfl (by kernel_rfl) (by kernel_rfl) (by kernel_rfl) (fun _ _ _ h => h) (Or.inr ⟨by rfl, rfl⟩) (by assumption) ?_
    simp only [List.getElem_toArray, List.getElem_cons_succ, List.getElem_cons_zero, Act.put, List.setIfInBounds_toArray, List.set_cons_zero, List.set_cons_succ]
    refine wpAnyH_take (i := 4) rfl (by kernel_rfl) (by kernel_rfl) (by kernel_rfl) (fun _ _ _ h => h) (Or.inr ⟨by rfl, rfl⟩) (by assumption) ?_
    simp only [List.getElem_toArray, List.getElem_cons_succ, List.getElem_cons_zero, Act.put, List.setIfInBounds_toArray, List.set_cons_zero, List.set_cons_succ]
    refine wpAnyH_take (i := 5) (v := ?_) rfl (by kernel_rfl) (by kernel_rfl) (by kernel_rfl) (fun _ _ _ h => h) (Or.inl ⟨by rfl, ?_⟩) (by assumption) ?_
    rotate_left
    · intro w hSw; (try dsimp only at hSw); obtain ⟨q1, q2, q3⟩ := hSw; go_simp <;> with_reducible rfl
    try simp only [List.getElem_toArray, List.getElem_cons_succ, List.getElem_cons_zero, Act.put, List.setIfInBounds_toArray, List.set_cons_zero, List.set_cons_succ]
    refine wpAnyH_ready (rs := [6]) (by kernel_rfl) (by simp) (AllReadyH.cons rfl (fun K hK => ?_) AllReadyH.nil)
    go_simp
    try go_wp2_with fail
    refine hK.out _ _ ?_ (fun hHeld => ?_)
    · refine ⟨?_, ?_, ?_⟩
      · show (w5.setCell ⟨N + 1, 0, none⟩ (.slice A5 L5 cc5)).cell? ⟨N + 1, 0, none⟩ = _
        exact World.cell?_setCell_same' _ _ _ (by rw [c1]; rfl)
      · show (w5.setCell ⟨N + 1, 0, none⟩ (.slice A5 L5 cc5)).frozen? ⟨N + 1, 0, none⟩ = _
        rw [World.frozen?_setCell]
        exact f1
      · show (w5.setCell ⟨N + 1, 0, none⟩ (.slice A5 L5 cc5)).cell? ⟨N + 1 + 1 + 1 + 1, 0, none⟩ = _
        exact (World.cell?_setCell_other _ ⟨N + 1, 0, none⟩ ⟨N + 1 + 1 + 1 + 1, 0, none⟩ _ (by simp)).trans c4
    clear hK K
    try simp only [List.getElem_toArray, List.getElem_cons_succ, List.getElem_cons_zero, Act.put, List.setIfInBounds_toArray, List.set_cons_zero, List.set_cons_succ]
    refine wpAnyH_take (i := 7) (v := ?_) rfl (by kernel_rfl) (by kernel_rfl) (by kernel_rfl) (fun _ _ _ h => h) (Or.inl ⟨by rfl, ?_⟩) (by assumption) ?_
    rotate_left
    · intro w hSw; (try dsimp only at hSw); obtain ⟨q1, q2, q3⟩ := hSw; go_simp <;> with_reducible rfl
    try simp only [List.getElem_toArray, List.getElem_cons_succ, List.getElem_cons_zero, Act.put, List.setIfInBounds_toArray, List.set_cons_zero, List.set_cons_succ]
    refine wpAnyH_done (by kernel_rfl) ?_ _
    have cz : ((w5.setCell ⟨N + 1, 0, none⟩ (.slice A5 L5 cc5)).drew).cell? ⟨N + 1, 0, none⟩ = some (.slice A5 L5 cc5) := World.cell?_setCell_same' w5 _ _ (by rw [c1]; rfl)
    have fz : ((w5.setCell ⟨N + 1, 0, none⟩ (.slice A5 L5 cc5)).drew).frozen? ⟨N + 1, 0, none⟩ = false := by
      show (w5.setCell ⟨N + 1, 0, none⟩ (.slice A5 L5 cc5)).frozen? ⟨N + 1, 0, none⟩ = false
      rw [World.frozen?_setCell]
      exact f1
    go_wp2_with fail
    refine bodyPost_ret (v := .tuple #[.slice A5 L5 cc5, .bool false]) (by rw [results_cellK rfl]; go_simp) rfl ?_
    obtain ⟨h1, h2, h3⟩ := H5.out
    have hrow : w5.ownsRow (N + 6) 123 3 (.slice A5 L5 cc5) L5 (flatS R.2.1) := h2
    have hrow2 : ((w5.setCell ⟨N + 1, 0, none⟩ (.slice A5 L5 cc5)).drew).ownsRow (N + 6) 123 3 (.slice A5 L5 cc5) L5 (flatS R.2.1) := ownsRow_movedK hrow fun k e => heap_setCell_other w5 ⟨N + 1, 0, none⟩ k _ (by have := (hrow.lt k e).1; show k ≠ N + 1; omega)
    obtain ⟨A9, c9, e9, hS9, _⟩ := row_steps hrow2 (by have := HP6.out; have := HL5.out; omega)
    cases e9
    exact ⟨_, _, _, rfl, hS9, (h3.setCell (p := ⟨N + 1, 0, none⟩) (by show w.heap.size ≤ N + 1; rw [HNB.out]; omega) _).drew⟩

end Go.Proofs.Ytippmpcaongolaa

/- Contract: Untree. -/
namespace Go.Proofs.Ytippmpcaongolaa
open Go.RowKit

set_option maxRecDepth 100000 in
set_option maxHeartbeats 1000000 in
theorem untree_any (g : Int) (r : ByteArray) (w : World) (hr : r.size ≤ maxLen) :
    Calls Try.prog 53 #[.int .i64 g, .string r] w (RetS w (untreeZ g r.data.toList).1 (untreeZ g r.data.toList).2) := by
  have CN := Lib.hid (validNumber_any g)
  have hl : r.data.toList.length = r.size := by simp
  unfold maxLen at hr
  by_cases h1 : 0 ≤ g ∧ g ≤ 60
  · rw [decide_eq_true h1] at CN
    by_cases h2 : 65536 < r.size
    · have hz : untreeZ g r.data.toList = ([], 3) := by unfold untreeZ; rw [if_neg (fun h => h h1), if_pos (by omega)]
      rw [hz]
      clear hz hl h1
      have h2' : (65536 : Int) < (r.size : Int) := by omega
      go_enter Try.func53, Try.ntmps53
      go_wp2_with (go_at_call 94; refine (CN.out _).mono ?_; rintro e w1 ⟨rfl, rfl⟩)
      go_ret2
      exact ⟨none, 0, 0, rfl, StepsAt.nil _ _ _, Below.refl _ _⟩
    · obtain ⟨R, hR⟩ : ∃ R, plant g (r.size + 1) [] r.data.toList = R := ⟨_, rfl⟩
      have CP := Lib.hid (fun V => planted_any g r V (by omega) R hR)
      have h2' : ¬ (65536 : Int) < (r.size : Int) := by omega
      have hz : untreeZ g r.data.toList = if (R.1.isSome && R.2.2.isEmpty) = false then ([], 2) else if 60 < R.2.1.length then ([], 4) else (R.2.1, 0) := by
        unfold untreeZ
        rw [if_neg (fun h => h h1), if_neg (by omega), hl, hR]
      rw [hz]
      obtain ⟨q, hq⟩ : ∃ q, (R.1.isSome && R.2.2.isEmpty) = q := ⟨_, rfl⟩
      rw [hq] at CP ⊢
      obtain ⟨P, hP⟩ : ∃ P, R.2.1 = P := ⟨_, rfl⟩
      rw [hP] at CP ⊢
      clear hz hl h1 hR hq hP h2
      cases q with
      | false =>
        rw [if_pos rfl]
        go_enter Try.func53, Try.ntmps53
        go_wp2_with (first
          | (go_at_call 94; refine (CN.out _).mono ?_; rintro e w1 ⟨rfl, rfl⟩)
          | (go_at_call 106; refine (CP.out _).mono ?_; rintro e w1 ⟨A, n, c, rfl, hS, hB⟩; have HS := Lib.hid hS; have HB := Lib.hid hB; clear hS hB))
        go_ret2
        exact ⟨none, 0, 0, rfl, StepsAt.nil _ _ _, HB.out⟩
      | true =>
        rw [if_neg (by simp)]
        by_cases h60 : 60 < P.length
        · rw [if_pos h60]
          have CP2 := Lib.hid (fun V => (CP.out V).mono (R' := fun e w' => ∃ A c, ∃ n : Nat, e = .returned (.tuple #[.slice A n c, .bool true]) ∧ (60 : Int) < (n : Int) ∧ Below V.heap.size V w') fun e w' ⟨A, n, c, h1, h2, h3⟩ => ⟨A, c, n, h1, by have := h2.len; omega, h3⟩)
          clear h60 CP
          go_enter Try.func53, Try.ntmps53
          go_wp2_with (first
            | (go_at_call 94; refine (CN.out _).mono ?_; rintro e w1 ⟨rfl, rfl⟩)
            | (go_at_call 106; refine (CP2.out _).mono ?_; rintro e w1 ⟨A, c, n, rfl, hn, hB⟩; have HB := Lib.hid hB; clear hB))
          go_ret2
          exact ⟨none, 0, 0, rfl, StepsAt.nil _ _ _, HB.out⟩
        · rw [if_neg h60]
          have CP2 := Lib.hid (fun V => (CP.out V).mono (R' := fun e w' => ∃ A c, ∃ n : Nat, e = .returned (.tuple #[.slice A n c, .bool true]) ∧ ¬ (60 : Int) < (n : Int) ∧ StepsAt w' w'.heap.size A n P ∧ Below V.heap.size V w') fun e w' ⟨A, n, c, h1, h2, h3⟩ => ⟨A, c, n, h1, by have := h2.len; omega, h2, h3⟩)
          clear h60 CP
          go_enter Try.func53, Try.ntmps53
          go_wp2_with (first
            | (go_at_call 94; refine (CN.out _).mono ?_; rintro e w1 ⟨rfl, rfl⟩)
            | (go_at_call 106; refine (CP2.out _).mono ?_; rintro e w1 ⟨A, c, n, rfl, hn, hS, hB⟩; have HS := Lib.hid hS; have HB := Lib.hid hB; clear hB hS))
          go_ret2
          exact ⟨_, _, _, rfl, HS.out, HB.out⟩
  · rw [decide_eq_false h1] at CN
    have hz : untreeZ g r.data.toList = ([], 1) := by unfold untreeZ; rw [if_pos h1]
    rw [hz]
    clear hz hl h1
    go_enter Try.func53, Try.ntmps53
    go_wp2_with (go_at_call 94; refine (CN.out _).mono ?_; rintro e w1 ⟨rfl, rfl⟩)
    go_ret2
    exact ⟨none, 0, 0, rfl, StepsAt.nil _ _ _, Below.refl _ _⟩

end Go.Proofs.Ytippmpcaongolaa

/- Contracts: Says; the statements' own 'awake' of layer 4. -/
namespace Go.Proofs.Ytippmpcaongolaa
open Go.RowKit

/-- What Says hands back. -/
noncomputable def sayZ (ss : Sg) (gg : List (List Int)) (pp : List Stp) : List Int × Int :=
  if (runZ ss gg pp).2.2 = 0 then ((runZ ss gg pp).1.getD ((runZ ss gg pp).1.length - 1) [], 0) else ([], (runZ ss gg pp).2.2)
theorem runF_all {ss : Sg} {gg : List (List Int)} {pp : List Stp} : ∀ f k, (runF ss gg pp f k).2.2 = 0 → (runF ss gg pp f k).1 = sayL ss gg pp (k + f) ∧ (runF ss gg pp f k).2.1 = -1
  | 0, k, _ => ⟨rfl, rfl⟩
  | f + 1, k, h => by
    rw [runF] at h ⊢
    split at h
    · rename_i h0
      rw [if_pos h0]
      have := runF_all f (k + 1) h
      rw [show k + (f + 1) = k + 1 + f by omega]
      exact this
    · rename_i h0
      exact absurd h h0
theorem runZ_ok {ss : Sg} {gg : List (List Int)} {pp : List Stp} (h : (runZ ss gg pp).2.2 = 0) : givOk ss gg = true ∧ proofOk (gg.length : Int) pp = true ∧ (runZ ss gg pp).1 = sayL ss gg pp pp.length ∧ (runZ ss gg pp).2.1 = -1 := by
  unfold runZ at h ⊢
  cases e : (givOk ss gg && proofOk (gg.length : Int) pp)
  · rw [e, if_neg (by simp)] at h
    cases h
  · rw [e, if_pos rfl] at h
    rw [if_pos rfl]
    rw [Bool.and_eq_true] at e
    have := runF_all _ _ h
    rw [Nat.zero_add] at this
    exact ⟨e.1, e.2, this⟩

set_option maxRecDepth 100000 in
set_option maxHeartbeats 1000000 in
theorem says_any (As Ag Ap : Option Addr) (ns cs ng cg np cp : Nat) (ss : Sg) (lg : List Hd) (gg : List (List Int)) (pp : List Stp) (w : World) (hs : SigAt w w.heap.size As ns ss) (hg : TermsAt w w.heap.size Ag ng lg gg) (hp : StepsAt w w.heap.size Ap np pp) (hn : ng ≤ 1000000) :
    Calls Try.prog 49 #[.slice As ns cs, .slice Ag ng cg, .slice Ap np cp] w (RetK w (sayZ ss gg pp).1 (sayZ ss gg pp).2) := by
  have CR := run_any As Ag Ap ns cs ng cg np cp ss lg gg pp w hs hg hp hn
  unfold sayZ
  by_cases he : (runZ ss gg pp).2.2 = 0
  · rw [if_pos he]
    obtain ⟨_, h2, h3, h4⟩ := runZ_ok he
    have hl : (runZ ss gg pp).1.length = pp.length := by rw [h3, sayL_len]
    have hp1 := (proofOk_to h2).2.1
    unfold RetRun at CR
    rw [he] at CR
    obtain ⟨T, hT⟩ : ∃ T, (runZ ss gg pp).1 = T := ⟨_, rfl⟩
    rw [hT] at CR hl ⊢
    have C := Lib.hid (CR.mono (R' := fun e w' => ∃ b off, ∃ n c A' n' c', ∃ i : Int, e = .returned (.tuple #[.slice (some ⟨b, off, none⟩) n c, .int .i64 i, .int .i64 0]) ∧ w'.cell? ⟨b, off + (n - 1), none⟩ = some (.slice A' n' c') ∧ (1 ≤ n ∧ n ≤ 60) ∧ IntsAt w' w'.heap.size A' n' (T.getD (T.length - 1) []) ∧ (n' ≤ c' ∧ c' ≤ 9223372036854775807) ∧ Below w.heap.size w w') (fun e w' ⟨A, n, c, ls, q1, q2, q3, q4⟩ => by
      have hn := q2.len
      have hll := q2.hds.len
      obtain ⟨b, off, e1, hb, hc⟩ := q2.hds.mem (by omega)
      subst e1
      have hj : n - 1 < ls.length := by omega
      have hj' : n - 1 < T.length := by omega
      have hI := q2.each (n - 1) hj hj'
      refine ⟨b, off, n, c, _, _, _, _, q1, hc (n - 1) hj, by omega, ?_, q4 _ (List.getElem_mem hj), q3⟩
      rw [List.getD_eq_getElem?_getD, show T.length - 1 = n - 1 by omega, List.getElem?_eq_getElem hj']
      exact hI))
    obtain ⟨L, hL⟩ : ∃ L, T.getD (T.length - 1) [] = L := ⟨_, rfl⟩
    rw [hL] at C ⊢
    clear hs hg hp CR hT hl hL h2 h3 h4 he hp1
    go_enter Try.func49, Try.ntmps49
    go_wp2_with (go_at_call 44
                 refine C.out.mono ?_
                 rintro e w1 ⟨b, off, n, c, A', n', c', i, rfl, hc, hn1, hI, hk, hB⟩
                 obtain ⟨k, hk1⟩ : ∃ k, n = k + 1 := ⟨n - 1, by omega⟩
                 subst hk1
                 rw [Nat.add_sub_cancel] at hc
                 have hk0 : (0 : Int) ≤ (k : Int) := by omega
                 have hkk : (k : Int) < ((k + 1 : Nat) : Int) := by omega
                 have HI := Lib.hid hI
                 have HK := Lib.hid hk
                 have HB := Lib.hid hB
                 clear hI hk hB)
    go_ret2
    exact ⟨_, _, _, rfl, HI.out, HK.out, HB.out⟩
  · rw [if_neg he]
    unfold RetRun at CR
    obtain ⟨E, hE⟩ : ∃ E, (runZ ss gg pp).2.2 = E := ⟨_, rfl⟩
    rw [hE] at CR he ⊢
    have C := Lib.hid (CR.mono (R' := fun e w' => ∃ A n c, ∃ i : Int, e = .returned (.tuple #[.slice A n c, .int .i64 i, .int .i64 E]) ∧ Below w.heap.size w w') (fun e w' ⟨A, n, c, ls, q1, q2, q3, q4⟩ => ⟨A, n, c, _, q1, q3⟩))
    have hne : (E != 0) = true := by simpa using he
    clear hs hg hp CR hE he
    go_enter Try.func49, Try.ntmps49
    go_wp2_with (go_at_call 44; refine C.out.mono ?_; rintro e w1 ⟨A, n, c, i, rfl, hB⟩; have HB := Lib.hid hB; clear hB)
    go_ret2
    exact ⟨none, 0, 0, rfl, IntsAt.nil _ _ 0, by omega, HB.out⟩

/-- A detachment that can be reckoned. -/
theorem det_calc {ss : Sg} {zm zn : List Int} (vm : valOk ss zm = true) (vn : valOk ss zn = true) (hh : zm.head? = some 0) (hhas : hasZ ss 12 (prt ss zm 1) zn = true) {F : Nat} {raw : List Int} (hw : wrK ss (nmK zm zn) (kbF ss (nmK zm zn)) (kpK ss zm zn) F (bhd ss (nmK zm zn) 1) [] = some (true, raw)) : detZ ss zm zn = (canon raw, 0) := by
  obtain ⟨B, sh⟩ := shot_of vm vn hh
  obtain ⟨σ0, g0, s0⟩ := sh.meets.1 hhas
  have hF := sh.fit g0 s0
  have hl := sh.lens
  have hfin := hF.fin (bhd ss (nmK zm zn) 1) (by rw [sh.bh]; omega)
  obtain ⟨h1, _⟩ := wr_nu hF.rts hF.len _ _ _ _ _ hw hfin
  have e := h1 rfl
  rw [List.nil_append] at e
  have hok := wrK_ok _ _ _ _ hw ⟨by simp, by simp [seenA]⟩
  have e' : raw = nuK ss zm zn (bhd ss (nmK zm zn) 1) := e
  rw [e'] at hok ⊢
  unfold detZ
  rw [if_pos (by rw [vm, vn]; rfl), if_pos hh, if_pos hhas, if_pos hok]

/-- The sign, the givens and the proof of the chapter. -/
def sgC : Sg := [(⟨#[67]⟩, 2)]
def gvK : List Int := [0, -1, 0, -2, -1]
def gvS : List Int := [0, 0, -1, 0, -2, -3, 0, 0, -1, -2, 0, -1, -3]
def pfI : List Stp := [(1, 1, 0), (1, 0, 0), (2, 0, 1), (2, 2, 1)]
theorem untree_I : untreeZ 2 [68, 68, 103, 48, 49, 103, 48, 48, 103, 48, 48] = (pfI, 0) := by decide +kernel
theorem det_SK : detZ sgC gvS gvK = ([0, 0, -1, -2, 0, -1, -1], 0) := by
  rw [det_calc (F := 40) (raw := [0, 0, -3, -2, 0, -3, -3]) (by decide +kernel) (by decide +kernel) (by decide +kernel) (by decide +kernel) (by decide +kernel)]
  exact congrArg (fun x => (x, (0 : Int))) (by decide +kernel)
theorem det_TK : detZ sgC [0, 0, -1, -2, 0, -1, -1] gvK = ([0, -1, -1], 0) := by
  rw [det_calc (F := 40) (raw := [0, -1, -1]) (by decide +kernel) (by decide +kernel) (by decide +kernel) (by decide +kernel) (by decide +kernel)]
  exact congrArg (fun x => (x, (0 : Int))) (by decide +kernel)
theorem say_0 : saysZ sgC [gvK, gvS] [] (1, 1, 0) = (gvS, 0) := by
  unfold saysZ
  rw [if_pos rfl]
  exact congrArg (fun x => (x, (0 : Int))) (by decide +kernel)
theorem say_1 : saysZ sgC [gvK, gvS] [gvS] (1, 0, 0) = (gvK, 0) := by
  unfold saysZ
  rw [if_pos rfl]
  exact congrArg (fun x => (x, (0 : Int))) (by decide +kernel)
theorem say_2 : saysZ sgC [gvK, gvS] [gvS, gvK] (2, 0, 1) = ([0, 0, -1, -2, 0, -1, -1], 0) := by
  unfold saysZ
  rw [if_neg (by decide)]
  exact det_SK
theorem say_3 : saysZ sgC [gvK, gvS] [gvS, gvK, [0, 0, -1, -2, 0, -1, -1]] (2, 2, 1) = ([0, -1, -1], 0) := by
  unfold saysZ
  rw [if_neg (by decide)]
  exact det_TK
theorem sayL_1 : sayL sgC [gvK, gvS] pfI 1 = [gvS] := by
  show [] ++ [(saysZ sgC [gvK, gvS] [] (1, 1, 0)).1] = _
  rw [say_0]; rfl
theorem sayL_2 : sayL sgC [gvK, gvS] pfI 2 = [gvS, gvK] := by
  show sayL sgC [gvK, gvS] pfI 1 ++ [(saysZ sgC [gvK, gvS] (sayL sgC [gvK, gvS] pfI 1) (1, 0, 0)).1] = _
  rw [sayL_1, say_1]; rfl
theorem sayL_3 : sayL sgC [gvK, gvS] pfI 3 = [gvS, gvK, [0, 0, -1, -2, 0, -1, -1]] := by
  show sayL sgC [gvK, gvS] pfI 2 ++ [(saysZ sgC [gvK, gvS] (sayL sgC [gvK, gvS] pfI 2) (2, 0, 1)).1] = _
  rw [sayL_2, say_2]; rfl
theorem sayL_4 : sayL sgC [gvK, gvS] pfI 4 = [gvS, gvK, [0, 0, -1, -2, 0, -1, -1], [0, -1, -1]] := by
  show sayL sgC [gvK, gvS] pfI 3 ++ [(saysZ sgC [gvK, gvS] (sayL sgC [gvK, gvS] pfI 3) (2, 2, 1)).1] = _
  rw [sayL_3, say_3]; rfl
theorem sayTo_I : sayTo sgC [gvK, gvS] pfI 4 := by
  intro j hj
  unfold sayE
  rcases j with _ | _ | _ | _ | j
  · show (saysZ sgC [gvK, gvS] [] (1, 1, 0)).2 = 0
    rw [say_0]
  · show (saysZ sgC [gvK, gvS] (sayL sgC [gvK, gvS] pfI 1) (1, 0, 0)).2 = 0
    rw [sayL_1, say_1]
  · show (saysZ sgC [gvK, gvS] (sayL sgC [gvK, gvS] pfI 2) (2, 0, 1)).2 = 0
    rw [sayL_2, say_2]
  · show (saysZ sgC [gvK, gvS] (sayL sgC [gvK, gvS] pfI 3) (2, 2, 1)).2 = 0
    rw [sayL_3, say_3]
  · omega
theorem sayZ_I : sayZ sgC [gvK, gvS] pfI = ([0, -1, -1], 0) := by
  have h : runZ sgC [gvK, gvS] pfI = ([gvS, gvK, [0, 0, -1, -2, 0, -1, -1], [0, -1, -1]], -1, 0) := by
    unfold runZ
    rw [if_pos (by decide +kernel)]
    show runF sgC [gvK, gvS] pfI 4 0 = _
    rw [runF_to 4 4 (Nat.le_refl _) sayTo_I, Nat.sub_self, runF, sayL_4]
  unfold sayZ
  rw [h]
  rfl

theorem sig_C {W : World} {b : Nat} (h : Blk W b 81 #[.string ⟨#[67]⟩, .int .i64 2]) : SigAt W W.heap.size (some ⟨b, 0, none⟩) 1 sgC :=
  ⟨rfl, by decide, by omega, fun _ => ⟨b, 0, rfl, h.lt, fun j hj => by
      have : j = 0 := by simp [sgC] at hj; omega
      subst this
      exact h.cell 0, fun j hj => by
      have : j = 0 := by simp [sgC] at hj; omega
      subst this
      exact h.cell 1⟩⟩
theorem givens_C {W : World} {b k s : Nat} (h : Blk W b 25 #[.slice (some ⟨k, 0, none⟩) 5 5, .slice (some ⟨s, 0, none⟩) 13 13]) (hk : Blk W k 3 (gvK.map (Value.int .i64)).toArray) (hs : Blk W s 3 (gvS.map (Value.int .i64)).toArray) : TermsAt W W.heap.size (some ⟨b, 0, none⟩) 2 [(some ⟨k, 0, none⟩, 5, 5), (some ⟨s, 0, none⟩, 13, 13)] [gvK, gvS] := by
  refine ⟨⟨rfl, by omega, fun _ => ⟨b, 0, rfl, h.lt, fun j hj => ?_⟩⟩, rfl, fun j hj hj' => ?_⟩
  · rcases j with _ | _ | j
    · exact h.cell 0
    · exact h.cell 1
    · exact absurd hj (by show ¬ j + 1 + 1 < 2; omega)
  · rcases j with _ | _ | j
    · exact IntsAt.of_blk (zs := gvK) hk rfl (by decide)
    · exact IntsAt.of_blk (zs := gvS) hs rfl (by decide)
    · exact absurd hj (by show ¬ j + 1 + 1 < 2; omega)

set_option maxRecDepth 100000 in
set_option maxHeartbeats 1000000 in
theorem awake4_any (w : World) : Calls Try.prog 35 #[] w fun e w' => e = .returned (.bool true) ∧ Below w.heap.size w w' := by
  obtain ⟨N, hN⟩ : ∃ N, w.heap.size = N := ⟨_, rfl⟩
  let W1 := w.alloc (.cells #[.string ⟨#[67]⟩, .int .i64 2] 81)
  let W2 := W1.alloc (.cells (gvK.map (Value.int .i64)).toArray 3)
  let W3 := W2.alloc (.cells (gvS.map (Value.int .i64)).toArray 3)
  let W4 := W3.alloc (.cells #[.slice (some ⟨N + 1, 0, none⟩) 5 5, .slice (some ⟨N + 2, 0, none⟩) 13 13] 25)
  have z1 : W1.heap.size = N + 1 := by simp [W1, hN]
  have z2 : W2.heap.size = N + 2 := by simp [W2, z1]
  have z3 : W3.heap.size = N + 3 := by simp [W3, z2]
  have b1 : Blk W1 N 81 #[.string ⟨#[67]⟩, .int .i64 2] := by have := Blk.new w 81 #[.string ⟨#[67]⟩, .int .i64 2]; rw [hN] at this; exact this
  have b2 : Blk W2 (N + 1) 3 (gvK.map (Value.int .i64)).toArray := by have := Blk.new W1 3 (gvK.map (Value.int .i64)).toArray; rw [z1] at this; exact this
  have b3 : Blk W3 (N + 2) 3 (gvS.map (Value.int .i64)).toArray := by have := Blk.new W2 3 (gvS.map (Value.int .i64)).toArray; rw [z2] at this; exact this
  have b4 : Blk W4 (N + 3) 25 #[.slice (some ⟨N + 1, 0, none⟩) 5 5, .slice (some ⟨N + 2, 0, none⟩) 13 13] := by have := Blk.new W3 25 #[.slice (some ⟨N + 1, 0, none⟩) 5 5, .slice (some ⟨N + 2, 0, none⟩) 13 13]; rw [z3] at this; exact this
  have uw : Below w.heap.size w W4 := bel_al (bel_al (bel_al (bel_al (Below.refl _ w) _) _) _) _
  have hsg : SigAt W4 W4.heap.size (some ⟨N, 0, none⟩) 1 sgC := sig_C (((b1.alloc _).alloc _).alloc _)
  have hgv : TermsAt W4 W4.heap.size (some ⟨N + 3, 0, none⟩) 2 _ [gvK, gvS] := givens_C b4 ((b2.alloc _).alloc _) (b3.alloc _)
  have CU := untree_any 2 ⟨#[68, 68, 103, 48, 49, 103, 48, 48, 103, 48, 48]⟩ W4 (by decide)
  rw [show untreeZ 2 (⟨#[68, 68, 103, 48, 49, 103, 48, 48, 103, 48, 48]⟩ : ByteArray).data.toList = (pfI, 0) from untree_I] at CU
  have HCU := Lib.hid (show Calls Try.prog 53 #[.int .i64 2, .string ⟨#[68, 68, 103, 48, 49, 103, 48, 48, 103, 48, 48]⟩] W4 (RetS W4 pfI 0) from CU)
  have HCS := Lib.hid (fun (V : World) (A : Option Addr) (n c : Nat) (h : Below W4.heap.size W4 V) (hp : StepsAt V V.heap.size A n pfI) => show Calls Try.prog 49 #[.slice (some ⟨N, 0, none⟩) 1 1, .slice (some ⟨N + 3, 0, none⟩) 2 2, .slice A n c] V (RetK V [0, -1, -1] 0) from by
    have := says_any (some ⟨N, 0, none⟩) (some ⟨N + 3, 0, none⟩) A 1 1 2 2 n c sgC _ [gvK, gvS] pfI V (hsg.up h) (hgv.up h) hp (by omega)
    rw [sayZ_I] at this
    exact this)
  have HUW := Lib.hid uw
  obtain ⟨WX, hWX⟩ : ∃ WX, W4 = WX := ⟨_, rfl⟩
  have HWX := Lib.hid hWX
  rw [hWX] at HCU HCS HUW
  clear hsg hgv CU uw b1 b2 b3 b4 z1 z2 z3 hWX
  go_enter Try.func35, Try.ntmps35
  go_upto_region 3 with fail
  have HW' := HWX.out
  change Code.wp _ _ _ _ W4
  rw [HW']
  clear HW'
  go_wp2_with (first
    | (go_at_call 53; refine HCU.out.mono ?_; rintro e w1 ⟨A1, n1, c1, rfl, hS1, hB1⟩; have HS1 := Lib.hid hS1; have HB1 := Lib.hid hB1; clear hS1 hB1)
    | (go_at_call 49; refine (HCS.out _ _ _ _ HB1.out HS1.out).mono ?_; rintro e w2 ⟨A2, n2, c2, rfl, hI2, _, hB2⟩; have HI2 := Lib.hid hI2; have HB2 := Lib.hid (below_then HB1.out hB2); clear hI2 hB2)
    | (go_at_call 24; refine (same_any _ _ n2 c2 3 3 [0, -1, -1] [0, -1, -1] _ _ (HI2.out.alloc _) (ints_of_blk [0, -1, -1] 3 _ rfl (Blk.new _ _ _) rfl (by decide))).mono ?_; rintro e w5 ⟨rfl, k, rfl⟩; rw [show decide (([0, -1, -1] : List Int) = [0, -1, -1]) = true from rfl]))
  go_ret
  exact ⟨rfl, below_drewN (bel_al (below_then HUW.out HB2.out) _) _⟩

end Go.Proofs.Ytippmpcaongolaa

namespace Go.Proofs.Ytippmpcaongolaa
open Go.RowKit

end Go.Proofs.Ytippmpcaongolaa
