/- Contract: the seventh reference's Dropped. -/
import Derived.Test.YtojofbmpknpggaaVXg
import Derived.Test.YtojofbmpknpggaaPUg
import Derived.Test.YtojofbmpknpggaaQVg
import Derived.Test.YtojofbmpknpggaaB4g
import Derived.Laws.StructEq
import Derived.Deep.RegionHeld3
import Derived.Test.YtojofbmpknpggaaPJg
import Derived.Shelf.Abstract
import Derived.Test.YtojofbmpknpggaaTEg
import Derived.Test.YtojofbmpknpggaaVJg
import Derived.Test.YtojofbmpknpggaaVHg
/- Contracts: slices.Index and Contains at steps; whether a proof cites a given; chosen; Unused. -/
namespace Go.Proofs.Ytojofbmpknpggaa
open Go.RowKit Go.Shelf

theorem eql_step (W : World) (x y z a b c : Int) : (binOp .eql 33 (.agg #[.int .i64 x, .int .i64 y, .int .i64 z]) (.agg #[.int .i64 a, .int .i64 b, .int .i64 c])).run Try.prog W = .ok (.bool (decide (x = a) && (decide (y = b) && decide (z = c)))) W := by
  rw [run_eql_struct]
  go_simp
  by_cases h1 : x = a <;> by_cases h2 : y = b <;> by_cases h3 : z = c <;> simp [h1, h2, h3]
/-- None of the first k steps is x. -/
def NoStp (pp : List Stp) (x : Stp) (k : Nat) : Prop := ∀ j (y : Stp), j < k → pp[j]? = some y → y ≠ x

set_option maxRecDepth 100000 in
set_option maxHeartbeats 1000000 in
theorem indexS_any (A : Option Addr) (n c : Nat) (pp : List Stp) (x1 x2 x3 : Int) (w : World) (hx : StepsAt w w.heap.size A n pp) :
    Calls Try.prog 55 #[.slice A n c, .agg #[.int .i64 x1, .int .i64 x2, .int .i64 x3]] w fun e w' => (∃ i : Int, e = .returned (.int .i64 i) ∧ decide ((0 : Int) ≤ i) = pp.contains (x1, x2, x3)) ∧ Below w.heap.size w w' := by
  have HLX := Lib.hid hx.len
  have hmx := hx.max
  have HX := Lib.hid hx
  obtain ⟨qb, hqb⟩ : ∃ qb, pp.contains (x1, x2, x3) = qb := ⟨_, rfl⟩
  rw [hqb]
  have HQ := Lib.hid hqb
  obtain ⟨W1, hW1⟩ : ∃ W1, w.alloc (.cells #[.int .i64 x1, .int .i64 x2, .int .i64 x3] 33) = W1 := ⟨_, rfl⟩
  have hB1 : Below w.heap.size w W1 := by rw [← hW1]; exact bel_al0 _ _
  have hbx : Blk W1 w.heap.size 33 #[.int .i64 x1, .int .i64 x2, .int .i64 x3] := by rw [← hW1]; exact Blk.new _ _ _
  have HB1 := Lib.hid hB1
  have HBX := Lib.hid hbx
  clear hx hqb hB1 hbx
  go_enter Try.func55, Try.ntmps55
  go_wp2_with fail
  go_loopw [8] (fun i wr => ∃ k : Nat, k ≤ n ∧ i = .int .i64 k ∧ NoStp pp (x1, x2, x3) k ∧ ∃ m, wr = W1.drewN m) (fun i _ => n - (intOf i).toNat)
  case atStart => exact ⟨0, Nat.zero_le _, rfl, fun _ _ h => absurd h (by omega), 0, rfl⟩
  case round =>
    obtain ⟨k, hk, rfl, hA, m, rfl⟩ := hrel
    by_cases hlt : k < n
    · obtain ⟨b, off, y1, y2, y3, rfl, hb, q1, q2, q3, q4⟩ := HX.out.cellAt hlt
      have r1 := (HB1.out.cell (p := ⟨b, off + k * 3, none⟩) hb).trans q1
      have r2 := (HB1.out.cell (p := ⟨b, off + k * 3 + 1, none⟩) hb).trans q2
      have r3 := (HB1.out.cell (p := ⟨b, off + k * 3 + 2, none⟩) hb).trans q3
      have t1 : W1.cell? ⟨w.heap.size, 0, none⟩ = some (.int .i64 x1) := HBX.out.cell 0
      have t2 : W1.cell? ⟨w.heap.size, 1, none⟩ = some (.int .i64 x2) := HBX.out.cell 1
      have t3 : W1.cell? ⟨w.heap.size, 2, none⟩ = some (.int .i64 x3) := HBX.out.cell 2
      have hk0 : (0 : Int) ≤ (k : Int) := by omega
      have hk1 : (k : Int) < (n : Int) := by omega
      obtain ⟨q, hq⟩ : ∃ q, (decide (x1 = y1) && (decide (x2 = y2) && decide (x3 = y3))) = q := ⟨_, rfl⟩
      have ne : ∀ W : World, (binOp .eql 33 (.agg #[.int .i64 x1, .int .i64 x2, .int .i64 x3]) (.agg #[.int .i64 y1, .int .i64 y2, .int .i64 y3])).run Try.prog W = .ok (.bool q) W := fun W => by rw [eql_step, hq]
      cases q
      · have H := Lib.hid (show NoStp pp (x1, x2, x3) (k + 1) from fun j y hj hy => by
          by_cases hjk : j < k
          · exact hA j y hjk hy
          · obtain rfl : j = k := by omega
            rw [q4] at hy
            cases hy
            rintro e
            cases e
            simp at hq)
        clear q1 q2 q3 q4 hA hq
        go_wp2_with fail
        go_quiet (fail)
        go_wp2_with fail
        go_roundw
        case rel => exact ⟨k + 1, by omega, by go_num, H.out, _, rfl⟩
        case measure => simp [intOf]; omega
      · have H := Lib.hid (show qb = true by
          rw [← HQ.out, List.contains_iff_mem]
          simp only [Bool.and_eq_true, decide_eq_true_iff] at hq
          obtain ⟨rfl, rfl, rfl⟩ := hq
          exact List.mem_of_getElem? q4)
        clear q1 q2 q3 q4 hA hq
        go_wp2_with fail
        go_quiet (fail)
        go_wp2_with fail
        go_ret
        exact ⟨⟨(k : Int), rfl, by rw [H.out]; exact decide_eq_true (by omega)⟩, below_drewN (below_drewN HB1.out _) _⟩
    · obtain rfl : k = n := by omega
      have H := Lib.hid (show qb = false by
        rw [← HQ.out, Bool.eq_false_iff]
        intro h
        obtain ⟨j, hj, e⟩ := List.getElem_of_mem (List.contains_iff_mem.1 h)
        exact hA j pp[j] (by have := HLX.out; omega) (List.getElem?_eq_getElem hj) e)
      clear hA
      go_wp2
      go_ret
      exact ⟨⟨-1, rfl, by rw [H.out]; rfl⟩, below_drewN HB1.out _⟩

set_option maxRecDepth 100000 in
theorem containsS_any (A : Option Addr) (n c : Nat) (pp : List Stp) (x1 x2 x3 : Int) (w : World) (hx : StepsAt w w.heap.size A n pp) :
    Calls Try.prog 36 #[.slice A n c, .agg #[.int .i64 x1, .int .i64 x2, .int .i64 x3]] w fun e w' => e = .returned (.bool (pp.contains (x1, x2, x3))) ∧ Below w.heap.size w w' := by
  obtain ⟨W1, hW1⟩ : ∃ W1, w.alloc (.cells #[.int .i64 x1, .int .i64 x2, .int .i64 x3] 33) = W1 := ⟨_, rfl⟩
  have hB1 : Below w.heap.size w W1 := by rw [← hW1]; exact bel_al0 _ _
  have hbx : Blk W1 w.heap.size 33 #[.int .i64 x1, .int .i64 x2, .int .i64 x3] := by rw [← hW1]; exact Blk.new _ _ _
  have C := Lib.hid (indexS_any A n c pp x1 x2 x3 W1 (hx.up hB1))
  have t1 : W1.cell? ⟨w.heap.size, 0, none⟩ = some (.int .i64 x1) := hbx.cell 0
  have t2 : W1.cell? ⟨w.heap.size, 1, none⟩ = some (.int .i64 x2) := hbx.cell 1
  have t3 : W1.cell? ⟨w.heap.size, 2, none⟩ = some (.int .i64 x3) := hbx.cell 2
  have HB1 := Lib.hid hB1
  obtain ⟨qb, hqb⟩ : ∃ qb, pp.contains (x1, x2, x3) = qb := ⟨_, rfl⟩
  rw [hqb] at C ⊢
  clear hx hqb hB1 hbx
  go_enter Try.func36, Try.ntmps36
  go_wp2_with (go_at_call 55; refine C.out.mono ?_; rintro e w' ⟨⟨i, rfl, hi⟩, hB2⟩; have HI := Lib.hid hi; have HB2 := Lib.hid (below_then HB1.out hB2); clear hi hB2)
  go_ret
  exact ⟨ret_b HI.out, HB2.out⟩

set_option maxRecDepth 100000 in
set_option maxHeartbeats 1000000 in
theorem dropFn_any (i : Int) (Bx : Nat) (A : Option Addr) (n c : Nat) (pp : List Stp) (V : World) (hx : StepsAt V V.heap.size A n pp) (hlt : Bx < V.heap.size) (hb : V.cell? ⟨Bx, 0, none⟩ = some (.slice A n c)) :
    Calls Try.prog 39 (#[.int .i64 i] ++ #[.pointer (some ⟨Bx, 0, none⟩)]) V fun e w' => e = .returned (.bool (pp.contains (1, i, 0))) ∧ Below V.heap.size V w' := by
  have CC := Lib.hid (fun (U : World) (hU : Below V.heap.size V U) => containsS_any A n c pp 1 i 0 U (hx.up hU))
  have HCB := Lib.hid (fun (U : World) (hU : Below V.heap.size V U) => (hU.cell (p := ⟨Bx, 0, none⟩) hlt).trans hb)
  obtain ⟨qb, hqb⟩ : ∃ qb, pp.contains (1, i, 0) = qb := ⟨_, rfl⟩
  rw [hqb]
  simp only [hqb] at CC
  clear hx hqb hlt
  show Calls _ _ #[.int .i64 i, .pointer (some ⟨Bx, 0, none⟩)] _ _
  go_enter Try.func39, Try.ntmps39
  go_wp2_with fail
  go_region_held3 (fun w' => w'.cell? ⟨Bx, 0, none⟩ = some (.slice A n c))
    (first | go_keep | assumption | exact HK5.out | exact HK6.out)
    (first
      | (go_at_call 37; refine (scite_any i _).mono ?_; rintro e w5 ⟨rfl, hB5⟩; have hB6 : Below V.heap.size V w5 := ((Below.refl _ V).drew).trans hB5; have HK5 := Lib.hid (HCB.out w5 hB6); have HB5 := Lib.hid hB6; clear hB5 hB6)
      | (go_at_call 36; refine (CC.out _ HB5.out).mono ?_; rintro e w6 ⟨rfl, hB6⟩; have hB7 := below_then HB5.out hB6; have HK6 := Lib.hid (HCB.out w6 hB7); have HB6 := Lib.hid hB7; clear hB6 hB7))
  all_goals
    go_wp2_with fail
    go_ret
    exact ⟨rfl, HB6.out⟩

set_option maxRecDepth 100000 in
set_option maxHeartbeats 1000000 in
theorem unusFn_any (i : Int) (Bx : Nat) (A : Option Addr) (n c : Nat) (pp : List Stp) (V : World) (hx : StepsAt V V.heap.size A n pp) (hlt : Bx < V.heap.size) (hb : V.cell? ⟨Bx, 0, none⟩ = some (.slice A n c)) :
    Calls Try.prog 35 (#[.int .i64 i] ++ #[.pointer (some ⟨Bx, 0, none⟩)]) V fun e w' => e = .returned (.bool (!pp.contains (1, i, 0))) ∧ Below V.heap.size V w' := by
  have CC := Lib.hid (fun (U : World) (hU : Below V.heap.size V U) => containsS_any A n c pp 1 i 0 U (hx.up hU))
  have HCB := Lib.hid (fun (U : World) (hU : Below V.heap.size V U) => (hU.cell (p := ⟨Bx, 0, none⟩) hlt).trans hb)
  obtain ⟨qb, hqb⟩ : ∃ qb, pp.contains (1, i, 0) = qb := ⟨_, rfl⟩
  rw [hqb]
  simp only [hqb] at CC
  clear hx hqb hlt
  show Calls _ _ #[.int .i64 i, .pointer (some ⟨Bx, 0, none⟩)] _ _
  go_enter Try.func35, Try.ntmps35
  go_wp2_with fail
  go_region_held3 (fun w' => w'.cell? ⟨Bx, 0, none⟩ = some (.slice A n c))
    (first | go_keep | assumption | exact HK5.out | exact HK6.out)
    (first
      | (go_at_call 37; refine (scite_any i _).mono ?_; rintro e w5 ⟨rfl, hB5⟩; have hB6 : Below V.heap.size V w5 := ((Below.refl _ V).drew).trans hB5; have HK5 := Lib.hid (HCB.out w5 hB6); have HB5 := Lib.hid hB6; clear hB5 hB6)
      | (go_at_call 36; refine (CC.out _ HB5.out).mono ?_; rintro e w6 ⟨rfl, hB6⟩; have hB7 := below_then HB5.out hB6; have HK6 := Lib.hid (HCB.out w6 hB7); have HB6 := Lib.hid hB7; clear hB6 hB7))
  all_goals
    go_wp2_with fail
    go_ret
    exact ⟨rfl, HB6.out⟩

end Go.Proofs.Ytojofbmpknpggaa

/- Contracts: chosen, Unused. -/
namespace Go.Proofs.Ytojofbmpknpggaa
open Go.RowKit Go.Shelf

/-- The numbers below k that are chosen. -/
def chF7 (q : Nat → Bool) : Nat → List Int
  | 0 => []
  | k + 1 => chF7 q k ++ (if q k = true then [(k : Int)] else [])
theorem chF7_len (q : Nat → Bool) : ∀ k, (chF7 q k).length ≤ k
  | 0 => Nat.le_refl _
  | k + 1 => by
    rw [chF7, List.length_append]
    have := chF7_len q k
    split <;> simp <;> omega

set_option maxRecDepth 100000 in
set_option maxHeartbeats 2000000 in
theorem schosen_any (g : Nat) (gA : Nat) (lbA : Array Value) (eg : ∀ args w, (callFunc gA args).run Try.prog w = .ok (.enter gA args) w) (q : Nat → Bool) (w : World) (hg : g ≤ 1000)
    (hA : ∀ (V : World) (i : Nat), Below w.heap.size w V → i < g → Calls Try.prog gA (#[.int .i64 (i : Int)] ++ lbA) V fun e w' => e = .returned (.bool (q i)) ∧ Below V.heap.size V w') :
    Calls Try.prog 34 #[.int .i64 (g : Int), .func (.func gA) #[] lbA] w fun e w' => ∃ A n c, e = .returned (.slice A n c) ∧ IntsAt w' w'.heap.size A n (chF7 q g) ∧ n ≤ c ∧ c ≤ 9223372036854775807 ∧ Below w.heap.size w w' := by
  obtain ⟨i0, hi, hz0, hz1, hz2⟩ := info_parts info_int
  have HA := Lib.hid hA
  clear hA
  go_enter Try.func34, Try.ntmps34
  go_wp2_with fail
  have HB0 := Lib.hid (bel_al0 w (.cells #[] 3))
  have HR0 := Lib.hid (World.ownsRow_lit (e := 3) (size := 1) w #[] 0 (Nat.le_refl w.heap.size) (by unfold maxLen; omega) rfl)
  go_loopw [5, 9] (fun v i wr => ∃ (k m : Nat) (Av : Option Addr) (cv : Nat), k ≤ g ∧ i = .int .i64 k ∧ m ≤ k ∧ v = .slice Av m cv ∧ wr.ownsRow w.heap.size 3 1 (.slice Av m cv) m ((chF7 q k).map (Value.int .i64)) ∧ Below w.heap.size w wr) (fun _ i _ => g - (intOf i).toNat)
  case atStart => exact ⟨0, 0, some ⟨w.heap.size, 0, none⟩, 0, Nat.zero_le _, by go_num, Nat.le_refl _, rfl, HR0.out, HB0.out⟩
  case round =>
    obtain ⟨k, m, Av, cv, hk, rfl, hmk, rfl, hrow, hB⟩ := hrel
    have HB := Lib.hid hB
    have HR := Lib.hid hrow
    by_cases hlt : k < g
    · have hk0 : (0 : Int) ≤ (k : Int) := by omega
      have hk1 : (k : Int) < (g : Int) := by omega
      have CF := Lib.hid (HA.out wr k hB hlt)
      cases hq : q k
      · have HN := Lib.hid (show chF7 q (k + 1) = chF7 q k from by rw [chF7, hq, if_neg (by simp), List.append_nil])
        rw [hq] at CF
        clear hrow hB hq
        go_wp2_with (go_at_fn gA; ((with_reducible refine CF.out.mono ?_); rintro e w2 ⟨rfl, hB2⟩; have HR2 := Lib.hid (row_below HR.out hB2); have HB2 := Lib.hid (below_then HB.out hB2); clear hB2))
        go_roundw
        case rel => exact ⟨k + 1, m, _, _, by omega, by go_num, by omega, rfl, by rw [HN.out]; exact HR2.out, HB2.out⟩
        case measure => simp [intOf]; omega
      · have HN := Lib.hid (show chF7 q (k + 1) = chF7 q k ++ [(k : Int)] from by rw [chF7, hq, if_pos rfl])
        rw [hq] at CF
        clear hrow hB hq
        go_wp2_with (first
          | (go_at_fn gA; ((with_reducible refine CF.out.mono ?_); rintro e w2 ⟨rfl, hB2⟩; have HR2 := Lib.hid (row_below HR.out hB2); have HB2 := Lib.hid (below_then HB.out hB2); clear hB2))
          | (at_builtin
             refine wpList_append_own_at _ rfl _ _ 24 rfl w.heap.size 3 i0 _ 1 8 Try.underlying24 hi hz0 hz1 hz2 rfl (by omega) (.slice Av m cv) m ((chF7 q k).map (Value.int .i64)) rfl (row_below HR2.out (bel_al0 _ _)) ⟨w2.heap.size, 0, none⟩ 1 1 [.int .i64 (k : Int)] rfl rfl
               (World.news_of_block (cs := #[.int .i64 (k : Int)]) (t := 3) (fr := (0, 0)) (heap_alloc_new w2 _)) (by simp [Value.oneCell']) (by unfold maxLen; omega) (by omega) (by have := HB2.out.size; simp only [World.size_alloc]; omega) ?_
             intro v5 w5 hown5 hg5 _ _
             have HO5 := Lib.hid (row_int_snoc hown5)
             obtain ⟨g5, cap5, rfl, _⟩ := hown5.form (by omega)
             have HB5 := Lib.hid ((bel_al HB2.out _).grown hg5 (by have := HB2.out.size; simp only [World.size_alloc]; omega) (fun j e => (HR2.out.lt j e).1))
             clear hown5 hg5))
        go_roundw
        case rel => exact ⟨k + 1, m + 1, _, _, by omega, by go_num, by omega, rfl, by rw [HN.out]; exact HO5.out, HB5.out⟩
        case measure => simp [intOf]; omega
    · obtain rfl : g = k := by omega
      clear hrow hB
      go_wp2
      go_ret
      obtain ⟨A', c', e', hI, h1, h2⟩ := row_ints_c HR.out (by omega)
      cases e'
      exact ⟨_, _, _, rfl, hI, h1, h2, HB.out⟩
/-- Whether a proof cites a given. -/
def citQ (pp : List Stp) (i : Nat) : Bool := pp.contains (1, (i : Int), 0)
/-- What Unused hands back. -/
def unuZ (g : Int) (pp : List Stp) : List Int × Int := if proofOk g pp = true then (chF7 (fun i => !citQ pp i) g.toNat, 0) else ([], 1)
/-- A list of ints and an error in new memory, with a capacity. -/
def RetTk (w : World) (Z : List Int × Int) (e : Ending) (w' : World) : Prop :=
  ∃ A n c, e = .returned (.tuple #[.slice A n c, .int .i64 Z.2]) ∧ IntsAt w' w'.heap.size A n Z.1 ∧ n ≤ c ∧ c ≤ 9223372036854775807 ∧ Below w.heap.size w w'

set_option maxRecDepth 100000 in
set_option maxHeartbeats 2000000 in
theorem unused_any (g : Int) (A : Option Addr) (n c : Nat) (pp : List Stp) (w : World) (hp : StepsAt w w.heap.size A n pp) :
    Calls Try.prog 14 #[.int .i64 g, .slice A n c] w (RetTk w (unuZ g pp)) := by
  obtain ⟨W1, hW1⟩ : ∃ W1, w.alloc (.cells #[.slice A n c] 22) = W1 := ⟨_, rfl⟩
  have hB1 : Below w.heap.size w W1 := by rw [← hW1]; exact bel_al0 _ _
  have hbx : Blk W1 w.heap.size 22 #[.slice A n c] := by rw [← hW1]; exact Blk.new _ _ _
  have c0 : W1.cell? ⟨w.heap.size, 0, none⟩ = some (.slice A n c) := hbx.cell 0
  have CV := Lib.hid (validProof_any g A n c pp W1 (hp.up hB1))
  have HB1 := Lib.hid hB1
  cases hv : proofOk g pp
  · rw [hv] at CV
    rw [show unuZ g pp = ([], 1) from by unfold unuZ; rw [hv]; rfl]
    clear hv hp hB1 hbx
    go_enter Try.func14, Try.ntmps14
    go_wp2_with (go_at_call 24; ((with_reducible refine CV.out.mono ?_); rintro e w2 ⟨rfl, hB2⟩; have HB2 := Lib.hid (below_then HB1.out hB2); clear hB2))
    go_ret2
    exact ⟨none, 0, 0, rfl, IntsAt.nil _ _ 0, by omega, by omega, HB2.out⟩
  · rw [hv] at CV
    obtain ⟨hg0, hl60, hto⟩ := proofOk_to hv
    rw [show unuZ g pp = (chF7 (fun i => !citQ pp i) g.toNat, 0) from by unfold unuZ; rw [if_pos hv]]
    obtain ⟨gn, rfl⟩ := Int.eq_ofNat_of_zero_le hg0.1
    rw [Int.toNat_natCast]
    have CC := Lib.hid (fun (V : World) (hV : Below W1.heap.size W1 V) => schosen_any gn 35 #[.pointer (some ⟨w.heap.size, 0, none⟩)] (enters_of Try.func35 (by kernel_rfl) rfl) (fun i => !citQ pp i) V (by omega)
      (fun U i hU hi => by
        have hWU : Below W1.heap.size W1 U := below_then hV hU
        exact unusFn_any (i : Int) w.heap.size A n c pp U ((hp.up hB1).up hWU) (Nat.lt_of_lt_of_le hbx.lt hWU.size) ((hWU.cell (p := ⟨w.heap.size, 0, none⟩) hbx.lt).trans c0)))
    clear hv hp hg0 hl60 hto hB1 hbx
    go_enter Try.func14, Try.ntmps14
    go_wp2_with (first
      | (go_at_call 24; ((with_reducible refine CV.out.mono ?_); rintro e w2 ⟨rfl, hB2⟩; have HB12 := Lib.hid hB2; have HB2 := Lib.hid (below_then HB1.out hB2); clear hB2))
      | (go_at_call 34; ((with_reducible refine (CC.out _ HB12.out).mono ?_); rintro e w3 ⟨A3, n3, c3, rfl, hI3, h31, h32, hB3⟩; have HI3 := Lib.hid hI3; have HC3 := Lib.hid (And.intro h31 h32); have HB3 := Lib.hid (below_then HB2.out hB3); clear hI3 h31 h32 hB3)))
    go_ret2
    exact ⟨A3, n3, c3, rfl, HI3.out, HC3.out.1, HC3.out.2, HB3.out⟩

end Go.Proofs.Ytojofbmpknpggaa

/- Contract: Dropped. -/
namespace Go.Proofs.Ytojofbmpknpggaa
open Go.RowKit Go.Shelf

theorem chF7_yes {q : Nat → Bool} {k : Nat} (h : q k = true) : chF7 q (k + 1) = chF7 q k ++ [(k : Int)] := by rw [chF7, if_pos h]
theorem chF7_no {q : Nat → Bool} {k : Nat} (h : q k = false) : chF7 q (k + 1) = chF7 q k := by rw [chF7, h, if_neg (by simp), List.append_nil]
theorem chF7_mono (q : Nat → Bool) {j : Nat} : ∀ {k : Nat}, j ≤ k → (chF7 q j).length ≤ (chF7 q k).length
  | 0, h => by rw [Nat.le_zero.1 h]; exact Nat.le_refl _
  | k + 1, h => by
    by_cases e : j = k + 1
    · rw [e]; exact Nat.le_refl _
    · have := chF7_mono q (show j ≤ k by omega)
      rw [chF7, List.length_append]
      omega
theorem chF7_lt {q : Nat → Bool} {j k : Nat} (h : q j = true) (hk : j < k) : (chF7 q j).length < (chF7 q k).length := by
  have := chF7_mono q (show j + 1 ≤ k by omega)
  rw [chF7_yes h, List.length_append, List.length_singleton] at this
  omega
theorem chF7_at {q : Nat → Bool} {j : Nat} (h : q j = true) : ∀ {k : Nat}, j < k → (chF7 q k)[(chF7 q j).length]? = some (j : Int)
  | 0, hk => by omega
  | k + 1, hk => by
    by_cases e : j = k
    · subst e
      rw [chF7_yes h, List.getElem?_append_right (Nat.le_refl _), Nat.sub_self]
      rfl
    · rw [chF7, List.getElem?_append_left (chF7_lt h (by omega))]
      exact chF7_at h (by omega)
theorem chF7_in {q : Nat → Bool} : ∀ {k m : Nat} {z : Int}, (chF7 q k)[m]? = some z → ∃ j : Nat, z = (j : Int) ∧ j < k ∧ q j = true ∧ (chF7 q j).length = m
  | 0, m, z, h => by simp [chF7] at h
  | k + 1, m, z, h => by
    cases hq : q k
    · rw [chF7_no hq] at h
      obtain ⟨j, h1, h2, h3⟩ := chF7_in h
      exact ⟨j, h1, by omega, h3⟩
    · rw [chF7_yes hq] at h
      by_cases hm : m < (chF7 q k).length
      · rw [List.getElem?_append_left hm] at h
        obtain ⟨j, h1, h2, h3⟩ := chF7_in h
        exact ⟨j, h1, by omega, h3⟩
      · have hl := (List.getElem?_eq_some_iff.1 h).1
        rw [List.length_append, List.length_singleton] at hl
        have e : m = (chF7 q k).length := by omega
        rw [e, List.getElem?_append_right (Nat.le_refl _), Nat.sub_self] at h
        cases h
        exact ⟨k, rfl, by omega, hq, e.symm⟩
theorem chF7_both (q : Nat → Bool) : ∀ k, (chF7 q k).length + (chF7 (fun i => !q i) k).length = k
  | 0 => rfl
  | k + 1 => by
    have := chF7_both q k
    cases hq : q k
    · rw [chF7_no hq, chF7_yes (by simp [hq]), List.length_append, List.length_singleton]
      omega
    · rw [chF7_yes hq, chF7_no (by simp [hq]), List.length_append, List.length_singleton]
      omega
/-- Where givens go. -/
def toL (q : Nat → Bool) (g : Nat) : List Int := (List.range g).map fun j => if q j = true then ((chF7 q j).length : Int) else 0
theorem toL_len (q : Nat → Bool) (g : Nat) : (toL q g).length = g := by simp [toL]
theorem toL_at {q : Nat → Bool} {g j : Nat} (h : j < g) : (toL q g)[j]? = some (if q j = true then ((chF7 q j).length : Int) else 0) := by
  unfold toL
  rw [List.getElem?_map, List.getElem?_range h]
  rfl
/-- .. as cells, when k of those that stay are told. -/
def toC (q : Nat → Bool) (n k : Nat) : Array Value := ((List.range n).map fun j => Value.int .i64 (if q j = true ∧ (chF7 q j).length < k then ((chF7 q j).length : Int) else 0)).toArray
theorem toC_size (q : Nat → Bool) (n k : Nat) : (toC q n k).size = n := by simp [toC]
theorem toC_at {q : Nat → Bool} {n k j : Nat} (hj : j < n) : (toC q n k)[j]? = some (.int .i64 (if q j = true ∧ (chF7 q j).length < k then ((chF7 q j).length : Int) else 0)) := by
  unfold toC
  rw [List.getElem?_toArray, List.getElem?_map, List.getElem?_range hj]
  rfl
theorem toC_made (q : Nat → Bool) (n : Nat) : toC q n 0 = madeCells #[.int .i64 0] (n * 1) := by
  unfold toC madeCells
  apply Array.ext
  · simp
  · intro i h1 h2
    simp [Nat.mod_one]
theorem chF7_inj {q : Nat → Bool} {i j : Nat} (hi : q i = true) (hj : q j = true) (h : (chF7 q i).length = (chF7 q j).length) : i = j := by
  rcases Nat.lt_trichotomy i j with h1 | h1 | h1
  · have := chF7_lt hi h1; omega
  · exact h1
  · have := chF7_lt hj h1; omega
theorem toC_set {q : Nat → Bool} {n k i : Nat} (hi : i < n) (hs : q i = true) (hk : (chF7 q i).length = k) : (toC q n k).setIfInBounds i (.int .i64 (k : Int)) = toC q n (k + 1) := by
  apply Array.ext_getElem?
  intro j
  by_cases hj : j < n
  · by_cases e : i = j
    · subst e
      rw [Array.getElem?_setIfInBounds_self_of_lt (by rw [toC_size]; exact hi), toC_at hi, if_pos ⟨hs, by omega⟩, hk]
    · rw [Array.getElem?_setIfInBounds_ne e, toC_at hj, toC_at hj]
      congr 2
      by_cases hc : q j = true ∧ (chF7 q j).length < k
      · rw [if_pos hc, if_pos ⟨hc.1, by omega⟩]
      · rw [if_neg hc, if_neg (fun h => hc ⟨h.1, by
          have : (chF7 q j).length ≠ k := fun e2 => e (chF7_inj hs h.1 (hk.trans e2.symm))
          omega⟩)]
  · rw [Array.getElem?_eq_none (by rw [Array.size_setIfInBounds, toC_size]; omega), Array.getElem?_eq_none (by rw [toC_size]; omega)]
theorem toC_all (q : Nat → Bool) (n : Nat) : toC q n (chF7 q n).length = ((toL q n).map (Value.int .i64)).toArray := by
  unfold toC toL
  rw [List.map_map]
  congr 1
  refine List.map_congr_left fun j hj => ?_
  have hj := List.mem_range.1 hj
  show Value.int .i64 (if q j = true ∧ (chF7 q j).length < (chF7 q n).length then ((chF7 q j).length : Int) else 0) = Value.int .i64 (if q j = true then ((chF7 q j).length : Int) else 0)
  by_cases hq : q j = true
  · rw [if_pos ⟨hq, chF7_lt hq hj⟩, if_pos hq]
  · rw [if_neg (fun h => hq h.1), if_neg hq]
theorem citQ_step {pp : List Stp} {j y : Nat} (h : pp[j]? = some (1, (y : Int), 0)) : citQ pp y = true := by
  unfold citQ
  exact List.contains_iff_mem.2 (List.mem_of_getElem? h)
theorem stay_pos {g : Nat} {pp : List Stp} (hp : stepsTo (g : Int) pp pp.length) (hl : 1 ≤ pp.length) : 1 ≤ (chF7 (citQ pp) g).length := by
  rcases step_cases hp (show 0 < pp.length by omega) with ⟨y, e1, y1⟩ | ⟨a, b, _, a1, _⟩
  · have := chF7_lt (citQ_step e1) (show y < g by omega)
    omega
  · omega
/-- What Dropped hands back. -/
def droZ (g : Int) (pp : List Stp) : List Stp × List Int × Int :=
  if proofOk g pp = true then (pp.map (movAt (toL (citQ pp) g.toNat)), chF7 (citQ pp) g.toNat, 0) else ([], [], 1)
theorem mov_drop {g : Nat} {pp : List Stp} (h : proofOk (g : Int) pp = true) : movZ (g : Int) pp (toL (citQ pp) g) ((chF7 (citQ pp) g).length : Int) = (pp.map (movAt (toL (citQ pp) g)), 0) := by
  obtain ⟨hg0, hl60, hto⟩ := proofOk_to h
  have hpos := stay_pos hto (by omega)
  have hle := chF7_len (citQ pp) g
  unfold movZ
  rw [if_pos h, if_pos (by rw [toL_len]), if_pos]
  rw [decide_eq_true (show 0 ≤ ((chF7 (citQ pp) g).length : Int) ∧ ((chF7 (citQ pp) g).length : Int) ≤ 60 by omega), Bool.true_and, List.all_eq_true]
  intro z hz
  obtain ⟨j, hj, rfl⟩ := List.getElem_of_mem hz
  rw [toL_len] at hj
  have e := toL_at (q := citQ pp) hj
  rw [List.getElem?_eq_getElem (by rw [toL_len]; exact hj)] at e
  rw [Option.some.inj e]
  unfold btw
  split
  · rename_i hq
    have := chF7_lt hq hj
    simp; omega
  · simp; omega

def RetDr (w : World) (Z : List Stp × List Int × Int) (e : Ending) (w' : World) : Prop :=
  ∃ A n c A2 n2 c2, e = .returned (.tuple #[.slice A n c, .slice A2 n2 c2, .int .i64 Z.2.2]) ∧ StepsAt w' w'.heap.size A n Z.1 ∧ IntsAt w' w'.heap.size A2 n2 Z.2.1 ∧ Below w.heap.size w w'

set_option maxRecDepth 100000 in
set_option maxHeartbeats 4000000 in
theorem dropped_any (g : Int) (A : Option Addr) (n c : Nat) (pp : List Stp) (w : World) (hp : StepsAt w w.heap.size A n pp) :
    Calls Try.prog 16 #[.int .i64 g, .slice A n c] w (RetDr w (droZ g pp)) := by
  obtain ⟨W1, hW1⟩ : ∃ W1, w.alloc (.cells #[.slice A n c] 22) = W1 := ⟨_, rfl⟩
  have hB1 : Below w.heap.size w W1 := by rw [← hW1]; exact bel_al0 _ _
  have hbx : Blk W1 w.heap.size 22 #[.slice A n c] := by rw [← hW1]; exact Blk.new _ _ _
  have c0 : W1.cell? ⟨w.heap.size, 0, none⟩ = some (.slice A n c) := hbx.cell 0
  have CV := Lib.hid (validProof_any g A n c pp W1 (hp.up hB1))
  have HB1 := Lib.hid hB1
  have HBX := Lib.hid hbx
  cases hv : proofOk g pp
  · rw [hv] at CV
    rw [show droZ g pp = ([], [], 1) from by unfold droZ; rw [hv]; rfl]
    clear hv hp hB1 hbx
    go_enter Try.func16, Try.ntmps16
    go_wp2_with (go_at_call 24; ((with_reducible refine CV.out.mono ?_); rintro e w2 ⟨rfl, hB2⟩; have HB2 := Lib.hid (below_then HB1.out hB2); clear hB2))
    go_ret3
    exact ⟨none, 0, 0, none, 0, 0, rfl, StepsAt.nil _ _ _, IntsAt.nil _ _ 0, HB2.out⟩
  · rw [hv] at CV
    obtain ⟨hg0, hl60, hto⟩ := proofOk_to hv
    obtain ⟨gn, rfl⟩ := Int.eq_ofNat_of_zero_le hg0.1
    have hz := mov_drop hv
    rw [show droZ (gn : Int) pp = (pp.map (movAt (toL (citQ pp) gn)), chF7 (citQ pp) gn, 0) from by unfold droZ; rw [if_pos hv, Int.toNat_natCast]]
    obtain ⟨i0, hi, hz0, hz1, hz2⟩ := info_parts info_int
    have hgn : gn ≤ 60 := by omega
    have CC := Lib.hid (fun (V : World) (hV : Below W1.heap.size W1 V) => schosen_any gn 39 #[.pointer (some ⟨w.heap.size, 0, none⟩)] (enters_of Try.func39 (by kernel_rfl) rfl) (citQ pp) V (by omega)
      (fun U i hU hi => by
        have hWU : Below W1.heap.size W1 U := below_then hV hU
        exact dropFn_any (i : Int) w.heap.size A n c pp U ((hp.up hB1).up hWU) (Nat.lt_of_lt_of_le hbx.lt hWU.size) ((hWU.cell (p := ⟨w.heap.size, 0, none⟩) hbx.lt).trans c0)))
    have hmk : ∀ W : World, (Instr.makeSlice 24 (.int .i64 (gn : Int)) (.int .i64 (gn : Int))).run Try.prog W = .ok (.slice (some ⟨W.heap.size, 0, none⟩) gn gn) (W.alloc (.cells (toC (citQ pp) gn 0) 3)) := by
      intro W
      rw [toC_made]
      have := run_make_rowN (P := Try.prog) 24 3 i0 _ Try.underlying24 hi hz0 .i64 .i64 gn gn (Nat.le_refl _) (by rw [hz2]; omega) (by omega) W
      rw [hz1] at this
      exact this
    obtain ⟨q, hq⟩ : ∃ q, citQ pp = q := ⟨_, rfl⟩
    rw [hq] at CC hz hmk ⊢
    have CM := Lib.hid (fun (V : World) (Ax : Option Addr) (cx m : Nat) (hm : m = (chF7 q gn).length) (hV : Below w.heap.size w V) (hx : IntsAt V V.heap.size Ax gn (toL q gn)) => show Calls Try.prog 19 #[.int .i64 (gn : Int), .slice A n c, .slice Ax gn cx, .int .i64 (m : Int)] V (RetS V (pp.map (movAt (toL q gn))) 0) from by
      have := moved_any (gn : Int) (m : Int) A Ax n c gn cx pp (toL q gn) V (hp.up hV) hx (by omega)
      rw [hm, hz] at this
      rw [hm]
      exact this)
    clear hv hp hg0 hl60 hto hB1 hbx hz hq hi hz0 hz1 hz2
    go_enter Try.func16, Try.ntmps16
    go_wp2_with (first
      | (go_at_call 24; ((with_reducible refine CV.out.mono ?_); rintro e w2 ⟨rfl, hB2⟩; have HB12 := Lib.hid hB2; have HB2 := Lib.hid (below_then HB1.out hB2); clear hB2))
      | (go_at_call 34; ((with_reducible refine (CC.out _ HB12.out).mono ?_); rintro e w3 ⟨A3, n3, c3, rfl, hI3, _, _, hB3⟩; have HI3 := Lib.hid hI3; have HN3 := Lib.hid hI3.len; have HB13 := Lib.hid (below_then HB12.out hB3); have HB3 := Lib.hid (below_then HB2.out hB3); clear hI3 hB3)))
    clear hmk
    have HT0 := Lib.hid (Blk.new w3 3 (toC q gn 0))
    have HB0 := Lib.hid (bel_al0 w3 (.cells (toC q gn 0) 3))
    go_loopw [24] (fun i wr => ∃ k : Nat, k ≤ n3 ∧ i = .int .i64 k ∧ Blk wr w3.heap.size 3 (toC q gn k) ∧ Below w3.heap.size w3 wr) (fun i _ => n3 - (intOf i).toNat)
    case atStart => exact ⟨0, Nat.zero_le _, by go_num, HT0.out, HB0.out⟩
    case round =>
      obtain ⟨k, hk, rfl, hT, hB⟩ := hrel
      have HB := Lib.hid hB
      by_cases hlt : k < n3
      · obtain ⟨b, off, z, rfl, d1, k1, e1⟩ := HI3.out.cellAt hlt
        obtain ⟨b', off', he', hbl, _⟩ := HI3.out.mem (by omega)
        cases he'
        have dz := (hB.cell (p := ⟨b, off + k, none⟩) hbl).trans d1
        obtain ⟨j, rfl, hj, hqj, hpos⟩ := chF7_in (q := q) (k := gn) (m := k) (z := z) (by rw [List.getElem?_eq_getElem k1, e1])
        have hk0 : (0 : Int) ≤ (k : Int) := by omega
        have hk1 : (k : Int) < (n3 : Int) := by omega
        have hj0 : (0 : Int) ≤ (j : Int) := by omega
        have hj1 : (j : Int) < (gn : Int) := by omega
        have m0 : wr.cell? ⟨w3.heap.size, j, none⟩ = some (.int .i64 0) := by rw [hT.cell, toC_at hj, if_neg (by omega)]
        have m1 : wr.frozen? ⟨w3.heap.size, j, none⟩ = false := hT.frozen j
        have HN := Lib.hid (show Blk (wr.setCell ⟨w3.heap.size, j, none⟩ (.int .i64 (k : Int))) w3.heap.size 3 (toC q gn (k + 1)) from by have := hT.set_ j (.int .i64 (k : Int)); rw [toC_set hj hqj hpos] at this; exact this)
        have HBN := Lib.hid (hB.setCell (p := ⟨w3.heap.size, j, none⟩) (Nat.le_refl _) (.int .i64 (k : Int)))
        clear hT hB d1 e1 hqj hpos k1
        go_wp2_with fail
        go_roundw
        case rel => exact ⟨k + 1, by omega, by go_num, HN.out, HBN.out⟩
        case measure => simp [intOf]; omega
      · obtain rfl : n3 = k := by omega
        have c1 : wr.cell? ⟨w.heap.size, 0, none⟩ = some (.slice A n c) := ((below_then HB13.out hB).cell (p := ⟨w.heap.size, 0, none⟩) HBX.out.lt).trans (HBX.out.cell 0)
        have hTT := hT
        rw [HN3.out, toC_all] at hTT
        have HX := Lib.hid (ints_of_blk (toL q gn) gn _ rfl hTT (toL_len q gn).symm (by rw [toL_len]; omega))
        have HI9 := Lib.hid (HI3.out.up hB)
        have HBW := Lib.hid (below_then HB3.out hB)
        clear hT hB hTT
        go_wp2_with (go_at_call 19; ((with_reducible refine (CM.out _ _ _ _ HN3.out HBW.out HX.out).mono ?_); rintro e w9 ⟨A9, n9, c9, rfl, hS9, hB9⟩; have HS9 := Lib.hid hS9; have HI10 := Lib.hid (HI9.out.up hB9); have HB9 := Lib.hid (below_then HBW.out hB9); clear hS9 hB9))
        go_ret3
        exact ⟨A9, n9, c9, A3, n3, c3, rfl, HS9.out, HI10.out, HB9.out⟩

end Go.Proofs.Ytojofbmpknpggaa

/- Contracts: the seventh reference's valid, cites, Unused. -/
namespace Go.Proofs.Ytojofbmpknpggaa
open Go.RowKit Go.Shelf

theorem valid7_any (g : Int) (A : Option Addr) (n c : Nat) (pp : List Stp) (w : World) (hp : StepsAt w w.heap.size A n pp) :
    Calls Try.prog 27 #[.int .i64 g, .slice A n c] w fun e w' => e = .returned (.bool (proofOk g pp)) ∧ Below w.heap.size w w' := by
  have CV := Lib.hid (refValidProof_any g A n c pp w hp)
  by_cases h0 : 0 ≤ g
  · by_cases h1 : g ≤ 60
    · obtain ⟨q, hq⟩ : ∃ q, proofOk g pp = q := ⟨_, rfl⟩
      rw [hq] at CV ⊢
      clear hp hq
      go_enter Try.func27, Try.ntmps27
      go_wp2_with (go_at_call 52; ((with_reducible refine CV.out.mono ?_); rintro e w1 ⟨rfl, hB1⟩; have HB1 := Lib.hid hB1; clear hB1))
      go_ret
      exact ⟨rfl, HB1.out⟩
    · rw [show proofOk g pp = false from by
        rw [Bool.eq_false_iff]
        intro h
        have := (proofOk_to h).1
        omega]
      clear hp
      go_enter Try.func27, Try.ntmps27
      go_wp2_with fail
      go_ret
      exact ⟨rfl, Below.refl _ _⟩
  · rw [show proofOk g pp = false from by
      rw [Bool.eq_false_iff]
      intro h
      have := (proofOk_to h).1
      omega]
    clear hp
    go_enter Try.func27, Try.ntmps27
    go_wp2_with fail
    go_ret
    exact ⟨rfl, Below.refl _ _⟩

set_option maxRecDepth 100000 in
set_option maxHeartbeats 1000000 in
theorem cites7_any (g : Int) (A : Option Addr) (n c : Nat) (pp : List Stp) (i : Nat) (w : World) (B : Nat) (hp : StepsAt w B A n pp) (hto : stepsTo g pp pp.length) :
    Calls Try.prog 38 #[.slice A n c, .int .i64 (i : Int)] w fun e w' => e = .returned (.bool (citQ pp i)) ∧ w = w' := by
  have HLX := Lib.hid hp.len
  have hmx := hp.max
  have HX := Lib.hid hp
  have HTO := Lib.hid (fun k (hk : k < n) (x : Stp) (hx : pp[k]? = some x) => show (x.1 = 1 ∧ 0 ≤ x.2.1 ∧ x.2.1 < g ∧ x.2.2 = 0) ∨ (x.1 = 2 ∧ 0 ≤ x.2.1 ∧ x.2.1 < (k : Int) ∧ 0 ≤ x.2.2 ∧ x.2.2 < (k : Int)) from stepOk_num (hto k (by have := hp.len; omega) x hx))
  obtain ⟨qb, hqb⟩ : ∃ qb, citQ pp i = qb := ⟨_, rfl⟩
  rw [hqb]
  have HQ := Lib.hid hqb
  clear hp hqb hto
  go_enter Try.func38, Try.ntmps38
  go_wp2_with fail
  go_loopw [5] (fun v wr => ∃ k : Nat, k ≤ n ∧ v = .int .i64 k ∧ NoStp pp (1, (i : Int), 0) k ∧ wr = w) (fun v _ => n - (intOf v).toNat)
  case atStart => exact ⟨0, Nat.zero_le _, rfl, fun _ _ h => absurd h (by omega), rfl⟩
  case round =>
    obtain ⟨k, hk, rfl, hA, rfl⟩ := hrel
    by_cases hlt : k < n
    · obtain ⟨b, off, y1, y2, y3, rfl, hb, q1, q2, q3, q4⟩ := HX.out.cellAt hlt
      have hk0 : (0 : Int) ≤ (k : Int) := by omega
      have hk1 : (k : Int) < (n : Int) := by omega
      by_cases hy : y1 = 1 ∧ y2 = (i : Int)
      · obtain ⟨rfl, rfl⟩ := hy
        have H := Lib.hid (show qb = true by
          rw [← HQ.out]
          have h3 : y3 = 0 := by rcases HTO.out k hlt _ q4 with h | h <;> simp only at h <;> omega
          subst h3
          exact citQ_step q4)
        clear q3 q4 hA
        go_wp2_with fail
        go_ret
        exact ⟨by rw [H.out]; rfl, rfl⟩
      · have H := Lib.hid (show NoStp pp (1, (i : Int), 0) (k + 1) from fun j y hj hyj => by
          by_cases hjk : j < k
          · exact hA j y hjk hyj
          · obtain rfl : j = k := by omega
            rw [q4] at hyj
            cases hyj
            rintro e
            cases e
            exact hy ⟨rfl, rfl⟩)
        clear q3 q4 hA
        by_cases h1 : y1 = 1
        · have h2 : ¬ y2 = (i : Int) := fun e => hy ⟨h1, e⟩
          subst h1
          clear hy
          go_wp2_with fail
          go_roundw
          case rel => exact ⟨k + 1, by omega, by go_num, H.out, by trivial⟩
          case measure => simp [intOf]; omega
        · clear hy
          go_wp2_with fail
          go_roundw
          case rel => exact ⟨k + 1, by omega, by go_num, H.out, by trivial⟩
          case measure => simp [intOf]; omega
    · obtain rfl : n = k := by omega
      have H := Lib.hid (show qb = false by
        rw [← HQ.out, Bool.eq_false_iff]
        intro h
        obtain ⟨j, hj, e⟩ := List.getElem_of_mem (List.contains_iff_mem.1 h)
        exact hA j pp[j] (by have := HLX.out; omega) (List.getElem?_eq_getElem hj) e)
      clear hA
      go_wp2
      go_ret
      exact ⟨by rw [H.out]; rfl, rfl⟩

set_option maxRecDepth 100000 in
set_option maxHeartbeats 2000000 in
theorem refUnused_any (g : Int) (A : Option Addr) (n c : Nat) (pp : List Stp) (w : World) (hp : StepsAt w w.heap.size A n pp) :
    Calls Try.prog 15 #[.int .i64 g, .slice A n c] w (RetTk w (unuZ g pp)) := by
  have CV := Lib.hid (valid7_any g A n c pp w hp)
  cases hv : proofOk g pp
  · rw [hv] at CV
    rw [show unuZ g pp = ([], 1) from by unfold unuZ; rw [hv]; rfl]
    clear hv hp
    go_enter Try.func15, Try.ntmps15
    go_wp2_with (go_at_call 27; ((with_reducible refine CV.out.mono ?_); rintro e w1 ⟨rfl, hB1⟩; have HB1 := Lib.hid hB1; clear hB1))
    go_ret2
    exact ⟨none, 0, 0, rfl, IntsAt.nil _ _ 0, by omega, by omega, HB1.out⟩
  · rw [hv] at CV
    obtain ⟨hg0, hl60, hto⟩ := proofOk_to hv
    obtain ⟨gn, rfl⟩ := Int.eq_ofNat_of_zero_le hg0.1
    rw [show unuZ (gn : Int) pp = (chF7 (fun i => !citQ pp i) gn, 0) from by unfold unuZ; rw [if_pos hv, Int.toNat_natCast]]
    have hgn : gn ≤ 60 := by omega
    obtain ⟨i0, hi, hz0, hz1, hz2⟩ := info_parts info_int
    have HC := Lib.hid (fun (V : World) (i : Nat) (hV : Below w.heap.size w V) => cites7_any (gn : Int) A n c pp i V V.heap.size (hp.up hV) hto)
    obtain ⟨q, hq⟩ : ∃ q, citQ pp = q := ⟨_, rfl⟩
    simp only [hq] at HC ⊢
    clear hv hp hg0 hl60 hto hq
    go_enter Try.func15, Try.ntmps15
    go_wp2_with (go_at_call 27; ((with_reducible refine CV.out.mono ?_); rintro e w1 ⟨rfl, hB1⟩; have HB1 := Lib.hid hB1; clear hB1))
    go_loopw [6, 7] (fun v i wr => ∃ (k m : Nat) (Av : Option Addr) (cv : Nat), k ≤ gn ∧ i = .int .i64 k ∧ m ≤ k ∧ v = .slice Av m cv ∧ wr.ownsRow w.heap.size 3 1 (.slice Av m cv) m ((chF7 (fun i => !q i) k).map (Value.int .i64)) ∧ Below w.heap.size w wr) (fun _ i _ => gn - (intOf i).toNat)
    case atStart => exact ⟨0, 0, none, 0, Nat.zero_le _, by go_num, Nat.le_refl _, rfl, World.ownsRow_nil _ _ _ _, HB1.out⟩
    case round =>
      obtain ⟨k, m, Av, cv, hk, rfl, hmk, rfl, hrow, hB⟩ := hrel
      have HB := Lib.hid hB
      have HR := Lib.hid hrow
      by_cases hlt : k < gn
      · have hk0 : (0 : Int) ≤ (k : Int) := by omega
        have hk1 : (k : Int) < (gn : Int) := by omega
        have CF := Lib.hid (HC.out wr k hB)
        cases hq : q k
        · have HN := Lib.hid (show chF7 (fun i => !q i) (k + 1) = chF7 (fun i => !q i) k ++ [(k : Int)] from chF7_yes (by simp [hq]))
          rw [hq] at CF
          clear hrow hB hq
          go_wp2_with (first
            | (go_at_call 38; ((with_reducible refine CF.out.mono ?_); rintro e w2 ⟨rfl, rfl⟩))
            | (at_builtin
               refine wpList_append_own_at _ rfl _ _ 24 rfl w.heap.size 3 i0 _ 1 8 Try.underlying24 hi hz0 hz1 hz2 rfl (by omega) (.slice Av m cv) m ((chF7 (fun i => !q i) k).map (Value.int .i64)) rfl (row_below HR.out (bel_al0 _ _)) ⟨wr.heap.size, 0, none⟩ 1 1 [.int .i64 (k : Int)] rfl rfl
                 (World.news_of_block (cs := #[.int .i64 (k : Int)]) (t := 3) (fr := (0, 0)) (heap_alloc_new wr _)) (by simp [Value.oneCell']) (by unfold maxLen; omega) (by omega) (by have := HB.out.size; simp only [World.size_alloc]; omega) ?_
               intro v5 w5 hown5 hg5 _ _
               have HO5 := Lib.hid (row_int_snoc hown5)
               obtain ⟨g5, cap5, rfl, _⟩ := hown5.form (by omega)
               have HB5 := Lib.hid ((bel_al HB.out _).grown hg5 (by have := HB.out.size; simp only [World.size_alloc]; omega) (fun j e => (HR.out.lt j e).1))
               clear hown5 hg5))
          go_roundw
          case rel => exact ⟨k + 1, m + 1, _, _, by omega, by go_num, by omega, rfl, by rw [HN.out]; exact HO5.out, HB5.out⟩
          case measure => simp [intOf]; omega
        · have HN := Lib.hid (show chF7 (fun i => !q i) (k + 1) = chF7 (fun i => !q i) k from chF7_no (by simp [hq]))
          rw [hq] at CF
          clear hrow hB hq
          go_wp2_with (go_at_call 38; ((with_reducible refine CF.out.mono ?_); rintro e w2 ⟨rfl, rfl⟩))
          go_roundw
          case rel => exact ⟨k + 1, m, _, _, by omega, by go_num, by omega, rfl, by rw [HN.out]; exact HR.out, HB.out⟩
          case measure => simp [intOf]; omega
      · obtain rfl : gn = k := by omega
        clear hrow hB
        go_wp2
        go_ret2
        obtain ⟨A', c', e', hI, h1, h2⟩ := row_ints_c HR.out (by omega)
        cases e'
        exact ⟨_, _, _, rfl, hI, h1, h2, HB.out⟩

end Go.Proofs.Ytojofbmpknpggaa

namespace Go.Proofs.Ytojofbmpknpggaa
open Go.RowKit Go.Shelf

set_option maxRecDepth 100000 in
set_option maxHeartbeats 8000000 in
theorem refDropped_any (g : Int) (A : Option Addr) (n c : Nat) (pp : List Stp) (w : World) (hp : StepsAt w w.heap.size A n pp) :
    Calls Try.prog 17 #[.int .i64 g, .slice A n c] w (RetDr w (droZ g pp)) := by
  have CV := Lib.hid (valid7_any g A n c pp w hp)
  cases hv : proofOk g pp
  · rw [hv] at CV
    rw [show droZ g pp = ([], [], 1) from by unfold droZ; rw [hv]; rfl]
    clear hv hp
    go_enter Try.func17, Try.ntmps17
    go_wp2_with (go_at_call 27; ((with_reducible refine CV.out.mono ?_); rintro e w1 ⟨rfl, hB1⟩; have HB1 := Lib.hid hB1; clear hB1))
    go_ret3
    exact ⟨none, 0, 0, none, 0, 0, rfl, StepsAt.nil _ _ _, IntsAt.nil _ _ 0, HB1.out⟩
  · rw [hv] at CV
    obtain ⟨hg0, hl60, hto⟩ := proofOk_to hv
    obtain ⟨gn, rfl⟩ := Int.eq_ofNat_of_zero_le hg0.1
    have hlp := hp.len
    rw [show droZ (gn : Int) pp = (pp.map (movAt (toL (citQ pp) gn)), chF7 (citQ pp) gn, 0) from by unfold droZ; rw [if_pos hv, Int.toNat_natCast]]
    have hgn : gn ≤ 60 := by omega
    obtain ⟨i0, hi, hz0, hz1, hz2⟩ := info_parts info_int
    obtain ⟨i1, hj, hy0, hy1, hy2⟩ := info_parts info_step
    obtain ⟨b, off, rfl, hb0, _⟩ := hp.mem (by omega)
    have HC := Lib.hid (fun (V : World) (i : Nat) (hV : Below w.heap.size w V) => cites7_any (gn : Int) (some ⟨b, off, none⟩) n c pp i V V.heap.size (hp.up hV) hto)
    have HTO := Lib.hid (fun k (hk : k < n) (x : Stp) (hx : pp[k]? = some x) (h1 : x.1 = 1) => show 0 ≤ x.2.1 ∧ x.2.1 < (gn : Int) from by
      rcases stepOk_num (hto k (by omega) x hx) with h2 | h2
      · omega
      · omega)
    have hmk : ∀ W : World, (Instr.makeSlice 24 (.int .i64 (gn : Int)) (.int .i64 (gn : Int))).run Try.prog W = .ok (.slice (some ⟨W.heap.size, 0, none⟩) gn gn) (W.alloc (.cells (toC (citQ pp) gn 0) 3)) := by
      intro W
      rw [toC_made]
      have := run_make_rowN (P := Try.prog) 24 3 i0 _ Try.underlying24 hi hz0 .i64 .i64 gn gn (Nat.le_refl _) (by rw [hz2]; omega) (by omega) W
      rw [hz1] at this
      exact this
    have HP := Lib.hid hp
    have HLP := Lib.hid hlp
    obtain ⟨q, hq⟩ : ∃ q, citQ pp = q := ⟨_, rfl⟩
    simp only [hq] at HC hmk ⊢
    have hn60 : n ≤ 60 := by omega
    have hn1 : 1 ≤ n := by omega
    clear hv hp hg0 hl60 hto hq hlp hb0
    go_enter Try.func17, Try.ntmps17
    go_wp2_with (go_at_call 27; ((with_reducible refine CV.out.mono ?_); rintro e w1 ⟨rfl, hB1⟩; have HB1 := Lib.hid hB1; clear hB1))
    clear hmk
    have HT0 := Lib.hid (Blk.new w1 3 (toC q gn 0))
    have HB0 := Lib.hid (bel_al0 w1 (.cells (toC q gn 0) 3))
    go_loopw [8, 9] (fun v i wr => ∃ (k m : Nat) (Av : Option Addr) (cv : Nat), k ≤ gn ∧ i = .int .i64 k ∧ m = (chF7 q k).length ∧ v = .slice Av m cv ∧ wr.ownsRow (w1.heap.size + 1) 3 1 (.slice Av m cv) m ((chF7 q k).map (Value.int .i64)) ∧ Blk wr w1.heap.size 3 (toC q gn m) ∧ Below w1.heap.size w1 wr) (fun _ i _ => gn - (intOf i).toNat)
    case atStart => exact ⟨0, 0, none, 0, Nat.zero_le _, by go_num, rfl, rfl, World.ownsRow_nil _ _ _ _, HT0.out, HB0.out⟩
    case round =>
      obtain ⟨k, m, Av, cv, hk, rfl, hm, rfl, hrow, hT, hB⟩ := hrel
      have HB := Lib.hid hB
      have HR := Lib.hid hrow
      have HT := Lib.hid hT
      have HM := Lib.hid hm
      by_cases hlt : k < gn
      · have hk0 : (0 : Int) ≤ (k : Int) := by omega
        have hk1 : (k : Int) < (gn : Int) := by omega
        have CF := Lib.hid (HC.out wr k (below_then HB1.out hB))
        cases hq : q k
        · have HN := Lib.hid (show chF7 q (k + 1) = chF7 q k from chF7_no hq)
          rw [hq] at CF
          clear hrow hB hq hT hm
          go_wp2_with (go_at_call 38; ((with_reducible refine CF.out.mono ?_); rintro e w2 ⟨rfl, rfl⟩))
          go_roundw
          case rel => exact ⟨k + 1, m, _, _, by omega, by go_num, by rw [HN.out]; exact HM.out, rfl, by rw [HN.out]; exact HR.out, HT.out, HB.out⟩
          case measure => simp [intOf]; omega
        · have HN := Lib.hid (show chF7 q (k + 1) = chF7 q k ++ [(k : Int)] from chF7_yes hq)
          have hml := chF7_len q k
          have m0 : wr.cell? ⟨w1.heap.size, k, none⟩ = some (.int .i64 0) := by rw [hT.cell, toC_at hlt, if_neg (by omega)]
          have m1 : wr.frozen? ⟨w1.heap.size, k, none⟩ = false := hT.frozen k
          obtain ⟨V1, hV1⟩ : ∃ V1, wr.setCell ⟨w1.heap.size, k, none⟩ (.int .i64 (m : Int)) = V1 := ⟨_, rfl⟩
          have HT1 := Lib.hid (show Blk V1 w1.heap.size 3 (toC q gn (m + 1)) from by rw [← hV1]; have := hT.set_ k (.int .i64 (m : Int)); rw [toC_set hlt hq hm.symm] at this; exact this)
          have HR1 := Lib.hid (show V1.ownsRow (w1.heap.size + 1) 3 1 (.slice Av m cv) m ((chF7 q k).map (Value.int .i64)) from by
            rw [← hV1]
            refine hrow.kept (set_grown7 wr w1.heap.size k _) ?_
            cases e : (Value.slice Av m cv).ownBlock with
            | none => exact .inl rfl
            | some g2 => exact .inr (fun e2 => by have := (hrow.lt g2 e).1; have := Option.some.inj e2; omega))
          have HB2 := Lib.hid (show Below w1.heap.size w1 V1 from by rw [← hV1]; exact hB.setCell (p := ⟨w1.heap.size, k, none⟩) (Nat.le_refl _) _)
          have hm9 : m ≤ 60 := by omega
          rw [hq] at CF
          clear hrow hB hq hT hm hml
          go_wp2_with (first
            | (go_at_call 38; ((with_reducible refine CF.out.mono ?_); rintro e w2 ⟨rfl, rfl⟩))
            | (at_builtin
               refine wpList_append_own_at _ rfl _ _ 24 rfl (w1.heap.size + 1) 3 i0 _ 1 8 Try.underlying24 hi hz0 hz1 hz2 rfl (by omega) (.slice Av m cv) m ((chF7 q k).map (Value.int .i64)) rfl (row_below HR1.out (bel_al0 _ _)) ⟨V1.heap.size, 0, none⟩ 1 1 [.int .i64 (k : Int)] rfl rfl
                 (World.news_of_block (cs := #[.int .i64 (k : Int)]) (t := 3) (fr := (0, 0)) (heap_alloc_new V1 _)) (by simp [Value.oneCell']) (by unfold maxLen; omega) (by omega) (by have := HT1.out.lt; simp only [World.size_alloc]; omega) ?_
               intro v5 w5 hown5 hg5 _ _
               have HO5 := Lib.hid (row_int_snoc hown5)
               obtain ⟨g5, cap5, rfl, _⟩ := hown5.form (by omega)
               have HB5 := Lib.hid ((bel_al HB2.out _).grown hg5 (by have := HB2.out.size; simp only [World.size_alloc]; omega) (fun j e => by have := (HR1.out.lt j e).1; omega))
               have HT5 := Lib.hid ((HT1.out.alloc _).grown hg5 (fun e => by have := (HR1.out.lt _ e.symm).1; omega))
               clear hown5 hg5))
          go_roundw
          case rel => exact ⟨k + 1, m + 1, _, _, by omega, by go_num, by rw [HN.out, List.length_append, ← HM.out]; rfl, rfl, by rw [HN.out]; exact HO5.out, HT5.out, HB5.out⟩
          case measure => simp [intOf]; omega
      · obtain rfl : gn = k := by omega
        obtain ⟨w5, hw5⟩ : ∃ w5, w5 = wr := ⟨_, rfl⟩
        subst hw5
        have hTT := hT
        rw [hm, toC_all] at hTT
        have hml := chF7_len q gn
        have HX := Lib.hid (ints_of_blk (toL q gn) gn _ rfl hTT (toL_len q gn).symm (by rw [toL_len]; omega))
        have HSY := Lib.hid (row_ints hrow (by omega))
        have HBW := Lib.hid (below_then HB1.out hB)
        have HO := Lib.hid (show (w5.alloc (.cells #[] 33)).ownsRow w5.heap.size 33 3 (.slice (some ⟨w5.heap.size, 0, none⟩) 0 0) 0 [] from
          ⟨rfl, .inr ⟨w5.heap.size, 0, #[], rfl, Nat.le_refl _, heap_alloc_new w5 _, Nat.le_refl _, by unfold maxLen; omega, rfl, rfl⟩⟩)
        have hpA : StepsAt (w5.alloc (.cells #[] 33)) w.heap.size (some ⟨b, off, none⟩) n pp := HP.out.below (bel_al HBW.out _)
        have HH1 := Lib.hid (show (flatS pp).length = n * 3 by rw [flatS_len, ← HLP.out])
        have HH2 := Lib.hid (show ∀ j u, (flatS pp)[j]? = some u → (w5.alloc (.cells #[] 33)).cell? ((⟨b, off, none⟩ : Addr).add j) = some u from fun j u hu => by rw [add0]; exact flatS_cells hpA j u hu)
        have HH3 := Lib.hid (flatS_one pp)
        clear hpA hrow hT hB hTT hm hml
        go_wp2_with (at_builtin
                     refine wpList_append_own_at _ rfl _ _ 22 rfl w5.heap.size 33 i1 _ 3 24 Try.underlying22 hj hy0 hy1 hy2 rfl (by omega) (.slice (some ⟨w5.heap.size, 0, none⟩) 0 0) 0 [] rfl HO.out ⟨b, off, none⟩ n c (flatS pp) rfl HH1.out HH2.out HH3.out (by unfold maxLen; omega) (by omega) (by simp) ?_
                     intro v' w4 hown hg4 _ _
                     simp only [Nat.zero_add, List.nil_append] at hown
                     obtain ⟨gb, cap, rfl, hgb, _⟩ := World.ownsRow.form hown (by omega)
                     have HROW := Lib.hid (show w4.ownsRow w5.heap.size 33 3 (.slice (some ⟨gb, 0, none⟩) n cap) n (flatS (movTo (toL q gn) pp 0)) from by rw [movTo_zero]; exact hown)
                     have HB4 := Lib.hid (((Below.refl _ w5).alloc (Nat.le_refl _) _).grown hg4 (by simp) (fun k e => by cases e; exact Nat.le_refl _))
                     have HGB := Lib.hid hgb
                     clear hown hg4 hgb)
        go_loopw [11] (fun i wq => ∃ k : Nat, k ≤ n ∧ i = .int .i64 k ∧ wq.ownsRow w5.heap.size 33 3 (.slice (some ⟨gb, 0, none⟩) n cap) n (flatS (movTo (toL q gn) pp k)) ∧ Below w5.heap.size w5 wq) (fun i _ => n - (intOf i).toNat)
        case atStart => exact ⟨0, Nat.zero_le _, by go_num, HROW.out, HB4.out⟩
        case round =>
          obtain ⟨k, hk, rfl, hrow, hB⟩ := hrel
          have HB := Lib.hid hB
          have HR := Lib.hid hrow
          by_cases hlt : k < n
          · obtain ⟨b', off', x, y, z, e', hb', q1, q2, q3, q4⟩ := HP.out.cellAt hlt
            cases e'
            have hgk : (movTo (toL q gn) pp k)[k]? = some (x, y, z) := movTo_at q4
            obtain ⟨hk', ek⟩ := List.getElem?_eq_some_iff.1 hgk
            have hf := flatS_get _ k hk'
            rw [ek] at hf
            have d1 : wr.cell? ⟨gb, k * 3, none⟩ = some (.int .i64 x) := (hrow.cellAt _ (by omega)).trans hf.1
            have d2 : wr.cell? ⟨gb, k * 3 + 1, none⟩ = some (.int .i64 y) := (hrow.cellAt _ (by omega)).trans hf.2.1
            have hk0 : (0 : Int) ≤ (k : Int) := by omega
            have hk1 : (k : Int) < (n : Int) := by omega
            by_cases h1 : x = 1
            · subst h1
              obtain ⟨y0, y1⟩ := HTO.out k hlt _ q4 rfl
              obtain ⟨yn, rfl⟩ := Int.eq_ofNat_of_zero_le y0
              have y2 : (yn : Int) < (gn : Int) := y1
              have hyn : yn < gn := by omega
              obtain ⟨bx, ox, zx, ebx, hix, hkx, ex0⟩ := HX.out.cellAt hyn
              cases ebx
              have ex : (toL q gn)[yn]? = some zx := by rw [List.getElem?_eq_getElem hkx, ex0]
              have t1 := (hB.cell (p := ⟨w1.heap.size, 0 + yn, none⟩) (World.block_lt_of_cell? w5 _ hix)).trans hix
              rw [Nat.zero_add] at t1
              have hst := hrow.stored (k * 3 + 1) (.int .i64 zx)
              rw [flatS_set _ _ _ zx hgk] at hst
              have hmv : (movTo (toL q gn) pp k).set k (1, zx, z) = movTo (toL q gn) pp (k + 1) := by
                rw [movTo_succ q4]
                unfold movAt
                rw [if_pos rfl]
                simp only [Int.toNat_natCast, List.getD_eq_getElem?_getD, ex, Option.getD_some]
              rw [show ((1, (yn : Int), z) : Stp).1 = 1 from rfl, show ((1, (yn : Int), z) : Stp).2.2 = z from rfl, hmv] at hst
              have c2 := hrow.frozenAt (k * 3 + 1)
              have HST := Lib.hid hst
              have HBN := Lib.hid (hB.grown hst.2 hB.size (fun j e => by cases e; exact HGB.out))
              clear q1 q2 q3 q4 hB hrow hgk hst hmv hix ex ex0 hkx y1 hf ek hk'
              go_wp2_with fail
              go_roundw
              case rel => exact ⟨k + 1, by omega, by go_num, HST.out.1, HBN.out⟩
              case measure => simp [intOf]; omega
            · have h1' : (x == 1) = false := by simpa using h1
              have H := Lib.hid (show wr.ownsRow w5.heap.size 33 3 (.slice (some ⟨gb, 0, none⟩) n cap) n (flatS (movTo (toL q gn) pp (k + 1))) from by rw [movTo_stay q4 h1]; exact hrow)
              clear q1 q2 q3 q4 hB hrow hgk hf ek hk'
              go_wp2_with fail
              go_roundw
              case rel => exact ⟨k + 1, by omega, by go_num, H.out, HB.out⟩
              case measure => simp [intOf]; omega
          · obtain rfl : n = k := by omega
            clear hB hrow
            go_wp2
            go_ret3
            have hlast := HR.out
            rw [HLP.out, movTo_all, ← HLP.out] at hlast
            obtain ⟨A', c', e', hs', _⟩ := row_steps hlast (by omega)
            cases e'
            obtain ⟨A2, c2, e2, hI2⟩ := HSY.out
            cases e2
            exact ⟨_, _, _, _, _, _, rfl, hs', hI2.up HB.out, below_then HBW.out HB.out⟩

end Go.Proofs.Ytojofbmpknpggaa
