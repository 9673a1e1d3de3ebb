/- Contract: the reference's Untree, which goes by a stack. -/
import Derived.Test.YtippmpcaongolaaUDg
namespace Go.Proofs.Ytippmpcaongolaa
open Go.RowKit

def zR (R : Option (List Stp)) : List Stp × Int := match R with
  | none => ([], 2)
  | some P => if 60 < P.length then ([], 4) else (P, 0)
theorem zR_more {P : List Stp} (h : 60 < P.length) : zR (some P) = ([], 4) := if_pos h
theorem zR_good {P : List Stp} (h : ¬ 60 < P.length) : zR (some P) = (P, 0) := if_neg h

set_option maxRecDepth 100000 in
set_option maxHeartbeats 60000000 in
theorem refUntree_loop (g : Int) (r : ByteArray) (w : World) (hg : 0 ≤ g ∧ g ≤ 60) (hs : r.size ≤ 65536) :
    Calls Try.prog 57 #[.int .i64 g, .string r] w (RetS w (zR (mach g r.size [] [] r.data.toList)).1 (zR (mach g r.size [] [] r.data.toList)).2) := by
  have CN := Lib.hid (isCount4_any g)
  rw [decide_eq_true hg] at CN
  obtain ⟨R, hR⟩ : ∃ R, mach g r.size [] [] r.data.toList = R := ⟨_, rfl⟩
  rw [hR]
  have hmm := @run_makeMap Try.prog
  have HI := Lib.hid (show SAt (w.alloc (.map #[] 0)) (w.heap.size + 1) w.heap.size (.slice none 0 0) (.slice none 0 0) [] [] [] from
    ⟨StepMap.made w, World.ownsRow_nil _ _ _ _, World.ownsRow_nil _ _ _ _, by omega, by rw [World.size_alloc]; omega, fun k e => by cases e⟩)
  have HRN := Lib.hid (show Rnd g r R 0 [] [] false from ⟨by omega, fun e => (by cases e), hR, by simp, fun m hm => (by cases hm)⟩)
  have h2' : ¬ (65536 : Int) < (r.size : Int) := by omega
  clear hR
  go_enter Try.func57, Try.ntmps57
  go_wp2_with (go_at_call 96; ((with_reducible refine (CN.out _).mono ?_); rintro e w1 ⟨rfl, rfl⟩))
  clear hmm
  go_loopw [6, 8, 9, 10] (fun v o wh i wr => ∃ (k : Nat) (P : List Stp) (O : Stk) (b : Bool), i = .int .i64 k ∧ wh = .bool b ∧ Rnd g r R k P O b ∧ SAt wr (w.heap.size + 1) w.heap.size v o P P O ∧ Below w.heap.size w wr) (fun _ _ _ i _ => r.size - (intOf i).toNat)
  case atStart => exact ⟨0, [], [], false, rfl, rfl, HRN.out, HI.out, bel_al0 _ _⟩
  case round =>
    obtain ⟨k, P, O, b, rfl, rfl, hrn, hst, hB⟩ := hrel
    have HB := Lib.hid hB
    have HR := Lib.hid hrn
    have HS := Lib.hid hst
    have hlp := hrn.len
    have hkl := hrn.le
    obtain ⟨q, hq⟩ : ∃ q, P.length = q := ⟨_, rfl⟩
    obtain ⟨n, hn⟩ : ∃ n, O.length = n := ⟨_, rfl⟩
    obtain ⟨A6, c6, h6⟩ := row_formK hst.row
    obtain ⟨A8, c8, h8⟩ := row_formK hst.stk
    rw [hq] at h6
    rw [hn] at h8
    subst h6
    subst h8
    by_cases hlt : k < r.size
    · cases b
      · have hk1 : (k : Int) < (r.size : Int) := by omega
        have hk0 : (0 : Int) ≤ (k : Int) := by omega
        obtain ⟨c0, hc0⟩ : ∃ c0 : Int, ((r[k].toNat : Nat) : Int) = c0 := ⟨_, rfl⟩
        by_cases hD : c0 = 68
        · have HO := Lib.hid (hrn.open_ hlt (hc0.trans hD))
          obtain ⟨i0, hi, hz0, hz1, hz2⟩ := info_parts info_int
          subst hD
          have hn6 : n ≤ 100000 := by omega
          have HN := Lib.hid hn
          have HSZ := Lib.hid hst.hN
          clear hq hn hlp hkl hrn hst hB
          go_wp2_with (first
            | (at_builtin
               refine wpList_append_own_at _ rfl _ _ 24 rfl (w.heap.size + 1) 3 i0 _ 1 8 Try.underlying24 hi hz0 hz1 hz2 rfl (by omega) (.slice A8 n c8) n (stkV O) rfl (World.ownsRow.alloc (show wr.ownsRow (w.heap.size + 1) 3 1 (.slice A8 n c8) n (stkV O) from by have h := HS.out.stk; rw [HN.out] at h; exact h) _) ⟨wr.heap.size, 0, none⟩ 1 1 [.int .i64 (-1)] rfl rfl
                 (World.news_of_block (cs := #[.int .i64 (-1)]) (t := 3) (fr := (0, 0)) (heap_alloc_new wr _)) (by simp [Value.oneCell']) (by unfold maxLen; omega) (by omega) (by have := HSZ.out; rw [World.size_alloc]; omega) ?_
               intro v5 w5 hown5 hg5 _ hob5
               have HS5 := Lib.hid (SAt.push (t := none) HS.out (bel_al0 wr (.cells #[.int .i64 (-1)] 3)) (by rw [HN.out]; exact hown5) hg5 hob5)
               have HB5 := Lib.hid ((bel_al HB.out (.cells #[.int .i64 (-1)] 3)).grown hg5 (by have := HB.out.size; simp only [World.size_alloc]; omega) (fun j e => by have := (HS.out.lts.2.2 j e).1; omega))
               clear hown5 hg5 hob5))
          go_roundw
          case rel => exact ⟨k + 1, P, none :: O, false, by go_num, rfl, HO.out, HS5.out, HB5.out⟩
          case measure => simp [intOf]; omega
        · have HC := Lib.hid (hrn.cite hlt (by rw [hc0]; exact hD))
          have HW := Lib.hid (fun n V => within4_any n 48 57 V)
          have hd68 : (c0 == 68) = false := by simp [hD]
          by_cases h103 : c0 = 103
          · by_cases h3 : k + 3 ≤ r.size
            · have hk2 : k + 1 < r.size := by omega
              have hk3 : k + 2 < r.size := by omega
              have hct := cit_at g r h3
              have hu1 : (r[k + 1].toNat : Int) ≤ 255 := by have := r[k + 1].toNat_lt; omega
              have hu2 : (r[k + 2].toNat : Int) ≤ 255 := by have := r[k + 2].toNat_lt; omega
              have hv1 : 0 ≤ (r[k + 1].toNat : Int) := by omega
              have hv2 : 0 ≤ (r[k + 2].toNat : Int) := by omega
              obtain ⟨c1, hc1⟩ : ∃ c1 : Int, ((r[k + 1].toNat : Nat) : Int) = c1 := ⟨_, rfl⟩
              obtain ⟨c2, hc2⟩ : ∃ c2 : Int, ((r[k + 2].toNat : Nat) : Int) = c2 := ⟨_, rfl⟩
              rw [hc0, hc1, hc2, decide_eq_true h103, Bool.true_and] at hct
              rw [hc1] at hu1 hv1
              rw [hc2] at hu2 hv2
              have CW1 := Lib.hid (fun V => show Calls Try.prog 111 #[.int .i64 c1, .int .i64 48, .int .i64 57] V fun e w' => e = .returned (.bool (digI c1)) ∧ V = w' from HW.out c1 V)
              have CW2 := Lib.hid (fun V => show Calls Try.prog 111 #[.int .i64 c2, .int .i64 48, .int .i64 57] V fun e w' => e = .returned (.bool (digI c2)) ∧ V = w' from HW.out c2 V)
              have j1 : ¬ (r.size : Int) < (k : Int) + 3 := by omega
              have j2 : (k : Int) + 1 < (r.size : Int) := by omega
              have j3 : (k : Int) + 2 < (r.size : Int) := by omega
              subst h103
              cases d1 : digI c1
              · have HZ := Lib.hid (show R = none from by have h := HC.out; rw [hct, d1] at h; exact h)
                rw [d1] at CW1
                clear hq hn hlp hkl hrn hst hB hct HC HW CW2 d1
                go_wp2_with (go_at_call 111; ((with_reducible refine (CW1.out _).mono ?_); rintro e w1 ⟨rfl, rfl⟩))
                go_ret2
                have hz := HZ.out
                subst hz
                exact ⟨none, 0, 0, rfl, StepsAt.nil _ _ _, HB.out⟩
              · cases d2 : digI c2
                · have HZ := Lib.hid (show R = none from by have h := HC.out; rw [hct, d1, d2] at h; exact h)
                  rw [d1] at CW1
                  rw [d2] at CW2
                  clear hq hn hlp hkl hrn hst hB hct HC HW d1 d2
                  go_wp2_with (first
                    | (go_at_call 111; ((with_reducible refine (CW1.out _).mono ?_); rintro e w1 ⟨rfl, rfl⟩))
                    | (go_at_call 111; ((with_reducible refine (CW2.out _).mono ?_); rintro e w1 ⟨rfl, rfl⟩)))
                  go_ret2
                  have hz := HZ.out
                  subst hz
                  exact ⟨none, 0, 0, rfl, StepsAt.nil _ _ _, HB.out⟩
                · have hb1 : 48 ≤ c1 ∧ c1 ≤ 57 := by unfold digI at d1; simpa using d1
                  have hb2 : 48 ≤ c2 ∧ c2 ≤ 57 := by unfold digI at d2; simpa using d2
                  rw [d1, d2] at hct
                  replace hct : citF g (r.data.toList.drop k) = (10 * (c1 - 48) + (c2 - 48), decide (10 * (c1 - 48) + (c2 - 48) < g)) := hct
                  have hc := HC.out
                  rw [hct] at hc
                  rw [d1] at CW1
                  rw [d2] at CW2
                  obtain ⟨hb11, hb12⟩ := hb1
                  obtain ⟨hb21, hb22⟩ := hb2
                  by_cases hy : 10 * (c1 - 48) + (c2 - 48) < g
                  · rw [decide_eq_true hy, if_pos rfl] at hc
                    obtain ⟨y, hyy⟩ : ∃ y : Int, 10 * (c1 - 48) + (c2 - 48) = y := ⟨_, rfl⟩
                    rw [hyy] at hc
                    have HFN := Lib.hid (show Fin_ g r R (k + 3) P O (1, y, 0) from ⟨h3, hc.symm, by omega, hrn.lt, ⟨by simp, by simp only; omega, by simp⟩⟩)
                    have HYY := Lib.hid hyy
                    have hyg : ¬ g ≤ y := by omega
                    have hyl : y < g := by omega
                    have hbx : w.heap.size + 1 ≤ wr.heap.size := hst.hN
                    have HX0 := Lib.hid (show XAt (wr.alloc (.cells #[.int .i64 1, .int .i64 y, .int .i64 0] 123)).drew (w.heap.size + 1) wr.heap.size (.slice A6 q c6) (.slice A8 n c8) (1, y, 0) from
                      ⟨show Blk (wr.alloc (.cells #[.int .i64 1, .int .i64 y, .int .i64 0] 123)) _ _ _ from Blk.new _ _ _, hbx, fun e => by have := (hst.lts.2.1 _ e).2; omega, fun e => by have := (hst.lts.2.2 _ e).2; omega⟩)
                    have HS0 := Lib.hid (HS.out.up (below_drewN (bel_al0 wr (.cells #[.int .i64 1, .int .i64 y, .int .i64 0] 123)) 1))
                    have HB0 := Lib.hid (below_drewN (bel_al HB.out (.cells #[.int .i64 1, .int .i64 y, .int .i64 0] 123)) 1)
                    clear hq hn hlp hkl hrn hst hB hct HC HW d1 d2 hc hyy hbx
                    go_wp2_with (first
                      | (go_at_call 111; ((with_reducible refine (CW1.out _).mono ?_); rintro e w1 ⟨rfl, rfl⟩))
                      | (go_at_call 111; ((with_reducible refine (CW2.out _).mono ?_); rintro e w1 ⟨rfl, rfl⟩)))
                    go_region
                    rw [HYY.out]
                    go_wp2_with fail
                    obtain ⟨wo, hwo⟩ : ∃ wo, wo = wr := ⟨_, rfl⟩
                    subst hwo
                    go_loopw [6, 8, 9] (fun v o wh wr => ∃ (P2 : List Stp) (O2 : Stk) (x : Stp), wh = .bool false ∧ Fin_ g r R (k + 3) P2 O2 x ∧ SAt wr (w.heap.size + 1) w.heap.size v o P2 P2 O2 ∧ XAt wr (w.heap.size + 1) wo.heap.size v o x ∧ Below w.heap.size w wr) (fun _ o _ _ => lenV o)
                    case atStart => exact ⟨P, O, (1, y, 0), rfl, HFN.out, HS0.out, HX0.out, HB0.out⟩
                    case round =>
                      obtain ⟨P2, O2, x, rfl, hfn, hst, hxa, hB⟩ := hrel
                      obtain ⟨x0, x1, x2⟩ := x
                      obtain ⟨q2, hq2⟩ : ∃ q2, P2.length = q2 := ⟨_, rfl⟩
                      obtain ⟨n2, hn2⟩ : ∃ n2, O2.length = n2 := ⟨_, rfl⟩
                      obtain ⟨A6', c6', h6⟩ := row_formK hst.row
                      obtain ⟨A8', c8', h8⟩ := row_formK hst.stk
                      rw [hq2] at h6
                      rw [hn2] at h8
                      subst h6
                      subst h8
                      have hfl := hfn.len
                      have hk4 := hfn.le
                      obtain ⟨ix, hlk, hix⟩ := hst.mm.look hfn.good
                      have k0 : wr.cell? ⟨wo.heap.size, 0, none⟩ = some (.int .i64 x0) := hxa.box.cell 0
                      have k1 : wr.cell? ⟨wo.heap.size, 1, none⟩ = some (.int .i64 x1) := hxa.box.cell 1
                      have k2 : wr.cell? ⟨wo.heap.size, 2, none⟩ = some (.int .i64 x2) := hxa.box.cell 2
                      have hlk : (Instr.lookup 138 (.map (some w.heap.size)) (.agg #[.int .i64 x0, .int .i64 x1, .int .i64 x2]) true).run Try.prog wr = .ok (.tuple #[.int .i64 ix, .bool (P2.contains (x0, x1, x2))]) wr := hlk
                      have hq6 : q2 ≤ 100000 := by omega
                      have HQ2 := Lib.hid hq2
                      have HN2 := Lib.hid hn2
                      have HS2 := Lib.hid hst
                      have HXA := Lib.hid hxa
                      have HB2 := Lib.hid hB
                      have HF2 := Lib.hid hfn
                      have HR6 := Lib.hid (show r.size ≤ 100000 by omega)
                      cases hcon : P2.contains (x0, x1, x2)
                      · rw [hcon] at hlk
                        obtain ⟨W9, hup, hM9, hg9⟩ := hst.mm.put hfn.good hcon (by omega)
                        rw [hq2] at hup
                        have hup : (Instr.mapUpdate 138 (.map (some w.heap.size)) (.agg #[.int .i64 x0, .int .i64 x1, .int .i64 x2]) (.int .i64 (q2 : Int))).run Try.prog wr = .ok () W9 := hup
                        have hS9 := hst.met hM9 hg9
                        have hX9 : XAt W9 (w.heap.size + 1) wo.heap.size (.slice A6' q2 c6') (.slice A8' n2 c8') (x0, x1, x2) := ⟨Blk.grown hxa.box hg9 (fun e => by have := Option.some.inj e; have := hxa.hx; omega), hxa.hx, hxa.av, hxa.ao⟩
                        have j0 : W9.cell? ⟨wo.heap.size, 0, none⟩ = some (.int .i64 x0) := hX9.box.cell 0
                        have j1 : W9.cell? ⟨wo.heap.size, 1, none⟩ = some (.int .i64 x1) := hX9.box.cell 1
                        have j2 : W9.cell? ⟨wo.heap.size, 2, none⟩ = some (.int .i64 x2) := hX9.box.cell 2
                        have HS9 := Lib.hid hS9
                        have HX9 := Lib.hid hX9
                        have HB9 := Lib.hid (hB.grown hg9 (by have := hst.hN; omega) (fun j e => by have := Option.some.inj e; omega))
                        have HBX := Lib.hid (show wo.heap.size < W9.heap.size from World.block_lt_of_cell? W9 _ j0)
                        have HPL := Lib.hid (show placeS P2 (x0, x1, x2) = (q2, P2 ++ [(x0, x1, x2)]) by unfold placeS; rw [if_neg (by rw [hcon]; simp), hq2])
                        obtain ⟨i1, hi1, hy0, hy1, hy2⟩ := info_parts info_step
                        have HROW := Lib.hid (show (W9.alloc (.cells #[.int .i64 x0, .int .i64 x1, .int .i64 x2] 123)).ownsRow (w.heap.size + 1) 123 3 (.slice A6' q2 c6') q2 (flatS P2) from by have h := hS9.row; rw [hq2] at h; exact World.ownsRow.alloc h _)
                        have HN9 := Lib.hid hS9.hN
                        obtain ⟨KI, hKI⟩ : ∃ KI : Nat, q2 = KI := ⟨_, rfl⟩
                        have HKI := Lib.hid hKI
                        rcases O2 with _ | ⟨_ | m, O2⟩
                        · simp only [List.length_nil] at hn2
                          subst hn2
                          clear hix hcon hst hxa hB hfn hq2 hfl hk4 hg9 hM9 hS9 hX9 hKI
                          go_wp2_with (first
                            | (at_builtin
                               refine wpList_append_own_at _ rfl _ _ 50 rfl (w.heap.size + 1) 123 i1 _ 3 24 Try.underlying50 hi1 hy0 hy1 hy2 rfl (by omega) (.slice A6' q2 c6') q2 (flatS P2) rfl HROW.out ⟨W9.heap.size, 0, none⟩ 1 1 [.int .i64 x0, .int .i64 x1, .int .i64 x2] rfl rfl
                                 (World.news_of_block (cs := #[.int .i64 x0, .int .i64 x1, .int .i64 x2]) (t := 123) (fr := (0, 0)) (heap_alloc_new W9 _)) (by simp [Value.oneCell']) (by unfold maxLen; omega) (by omega) (by have := HN9.out; rw [World.size_alloc]; omega) ?_
                               intro v5 w5 hown5 hg5 _ hob5
                               have HS5 := Lib.hid (SAt.snoc (x := (x0, x1, x2)) HS9.out (bel_al0 W9 (.cells #[.int .i64 x0, .int .i64 x1, .int .i64 x2] 123)) (by rw [HQ2.out]; exact hown5) hg5 hob5)
                               have HX5 := Lib.hid (XAt.snoc HX9.out HBX.out hg5 hob5)
                               have HB5 := Lib.hid ((bel_al HB9.out (.cells #[.int .i64 x0, .int .i64 x1, .int .i64 x2] 123)).grown hg5 (by have := HN9.out; simp only [World.size_alloc]; omega) (fun j e => by have := (HS9.out.lts.2.1 j e).1; omega))
                               obtain ⟨g5, cap5, rfl, _⟩ := hown5.form (by omega)
                               clear hown5 hg5 hob5))
                          go_roundw
                          case rel => exact ⟨k + 3, (P2 ++ [(x0, x1, x2)]), [], true, by go_num, rfl, by have h := HF2.out.whole; rw [HPL.out] at h; exact h, HS5.out, HB5.out⟩
                          case measure => simp [intOf]; omega
                        · have hn1 : 1 ≤ n2 := by rw [← hn2]; simp
                          obtain ⟨gb, cb, e8, hgb1, hgb2, hcb1, hcb2, _, _⟩ := hst.form
                          have e8' := hn2
                          rw [List.length_cons] at e8'
                          rw [e8'] at e8 hcb1
                          cases e8
                          have n0 : ((n2 : Int) == 0) = false := by simp; omega
                          have m0 : (0 : Int) ≤ (n2 : Int) - 1 := by omega
                          have m1 : (n2 : Int) - 1 < (n2 : Int) := by omega
                          have m2 : (n2 : Int) - 1 ≤ (c8' : Int) := by omega
                          have hn7 : n2 ≤ 100000 := by omega
                          clear hix hcon hst hxa hB hfn hq2 hfl hk4 hn2 hg9 hM9 hS9 hX9 hKI e8'
                          go_wp2_with (first
                            | (at_builtin
                               refine wpList_append_own_at _ rfl _ _ 50 rfl (w.heap.size + 1) 123 i1 _ 3 24 Try.underlying50 hi1 hy0 hy1 hy2 rfl (by omega) (.slice A6' q2 c6') q2 (flatS P2) rfl HROW.out ⟨W9.heap.size, 0, none⟩ 1 1 [.int .i64 x0, .int .i64 x1, .int .i64 x2] rfl rfl
                                 (World.news_of_block (cs := #[.int .i64 x0, .int .i64 x1, .int .i64 x2]) (t := 123) (fr := (0, 0)) (heap_alloc_new W9 _)) (by simp [Value.oneCell']) (by unfold maxLen; omega) (by omega) (by have := HN9.out; rw [World.size_alloc]; omega) ?_
                               intro v5 w5 hown5 hg5 _ hob5
                               have HS5 := Lib.hid (SAt.snoc (x := (x0, x1, x2)) HS9.out (bel_al0 W9 (.cells #[.int .i64 x0, .int .i64 x1, .int .i64 x2] 123)) (by rw [HQ2.out]; exact hown5) hg5 hob5)
                               have HX5 := Lib.hid (XAt.snoc HX9.out HBX.out hg5 hob5)
                               have HB5 := Lib.hid ((bel_al HB9.out (.cells #[.int .i64 x0, .int .i64 x1, .int .i64 x2] 123)).grown hg5 (by have := HN9.out; simp only [World.size_alloc]; omega) (fun j e => by have := (HS9.out.lts.2.1 j e).1; omega))
                               obtain ⟨g5, cap5, rfl, _⟩ := hown5.form (by omega)
                               have st1 : w5.cell? ⟨gb, n2 - 1, none⟩ = some (.int .i64 (-1)) := (HS5.out.topc HN2.out).1
                               have st2 := (HS5.out.topc HN2.out).2
                               clear hown5 hg5 hob5))
                          skip
                          go_roundw
                          case rel => exact ⟨k + 3, (P2 ++ [(x0, x1, x2)]), some q2 :: O2, false, by go_num, rfl, by have h := HF2.out.major; rw [HPL.out] at h; exact h, SAt.top_at HN2.out HS5.out, HB5.out.setCell (p := ⟨gb, n2 - 1, none⟩) (by show w.heap.size ≤ gb; omega) _⟩
                          case measure => simp [intOf]; omega
                        · have hn1 : 1 ≤ n2 := by rw [← hn2]; simp
                          obtain ⟨gb, cb, e8, hgb1, hgb2, hcb1, hcb2, _, _⟩ := hst.form
                          have e8' := hn2
                          rw [List.length_cons] at e8'
                          rw [e8'] at e8 hcb1
                          cases e8
                          have n0 : ((n2 : Int) == 0) = false := by simp; omega
                          have m0 : (0 : Int) ≤ (n2 : Int) - 1 := by omega
                          have m1 : (n2 : Int) - 1 < (n2 : Int) := by omega
                          have m2 : (n2 : Int) - 1 ≤ (c8' : Int) := by omega
                          have hn7 : n2 ≤ 100000 := by omega
                          have mz : ¬ ((m : Int) < 0) := by omega
                          clear hix hcon hst hxa hB hfn hq2 hfl hk4 hn2 hg9 hM9 hS9 hX9 hKI e8'
                          go_wp2_with (first
                            | (at_builtin
                               refine wpList_append_own_at _ rfl _ _ 50 rfl (w.heap.size + 1) 123 i1 _ 3 24 Try.underlying50 hi1 hy0 hy1 hy2 rfl (by omega) (.slice A6' q2 c6') q2 (flatS P2) rfl HROW.out ⟨W9.heap.size, 0, none⟩ 1 1 [.int .i64 x0, .int .i64 x1, .int .i64 x2] rfl rfl
                                 (World.news_of_block (cs := #[.int .i64 x0, .int .i64 x1, .int .i64 x2]) (t := 123) (fr := (0, 0)) (heap_alloc_new W9 _)) (by simp [Value.oneCell']) (by unfold maxLen; omega) (by omega) (by have := HN9.out; rw [World.size_alloc]; omega) ?_
                               intro v5 w5 hown5 hg5 _ hob5
                               have HS5 := Lib.hid (SAt.snoc (x := (x0, x1, x2)) HS9.out (bel_al0 W9 (.cells #[.int .i64 x0, .int .i64 x1, .int .i64 x2] 123)) (by rw [HQ2.out]; exact hown5) hg5 hob5)
                               have HX5 := Lib.hid (XAt.snoc HX9.out HBX.out hg5 hob5)
                               have HB5 := Lib.hid ((bel_al HB9.out (.cells #[.int .i64 x0, .int .i64 x1, .int .i64 x2] 123)).grown hg5 (by have := HN9.out; simp only [World.size_alloc]; omega) (fun j e => by have := (HS9.out.lts.2.1 j e).1; omega))
                               obtain ⟨g5, cap5, rfl, _⟩ := hown5.form (by omega)
                               have st1 : w5.cell? ⟨gb, n2 - 1, none⟩ = some (.int .i64 ((m : Int))) := (HS5.out.topc HN2.out).1
                               have st2 := (HS5.out.topc HN2.out).2
                               have f0 : w5.frozen? ⟨wo.heap.size, 0, none⟩ = false := HX5.out.box.frozen 0
                               have b0 : w5.cell? ⟨wo.heap.size, 0, none⟩ = some (.int .i64 x0) := HX5.out.box.cell 0
                               have f1 : w5.frozen? ⟨wo.heap.size, 1, none⟩ = false := HX5.out.box.frozen 1
                               have b1 : w5.cell? ⟨wo.heap.size, 1, none⟩ = some (.int .i64 x1) := HX5.out.box.cell 1
                               have f2 : w5.frozen? ⟨wo.heap.size, 2, none⟩ = false := HX5.out.box.frozen 2
                               have b2 : w5.cell? ⟨wo.heap.size, 2, none⟩ = some (.int .i64 x2) := HX5.out.box.cell 2
                               clear hown5 hg5 hob5))
                          skip
                          go_roundw
                          case rel => exact ⟨_, _, _, ⟨rfl, (P2 ++ [(x0, x1, x2)]), O2, 2, (m : Int), (q2 : Int), by have h := HF2.out.minor HR6.out; rw [HPL.out] at h; exact h, (next_at (K := q2) HN2.out HS5.out HX5.out).1, (next_at (K := q2) HN2.out HS5.out HX5.out).2, ((HB5.out.setCell (p := ⟨wo.heap.size, 0, none⟩) (by show w.heap.size ≤ wo.heap.size; have := HX5.out.hx; omega) _).setCell (p := ⟨wo.heap.size, 1, none⟩) (by show w.heap.size ≤ wo.heap.size; have := HX5.out.hx; omega) _).setCell (p := ⟨wo.heap.size, 2, none⟩) (by show w.heap.size ≤ wo.heap.size; have := HX5.out.hx; omega) _⟩, rfl, rfl, rfl⟩
                          case measure => simp [lenV]; omega
                      · rw [hcon] at hlk
                        have hidx := hix hcon
                        subst hidx
                        have HPL := Lib.hid (show placeS P2 (x0, x1, x2) = (P2.idxOf (x0, x1, x2), P2) by unfold placeS; rw [if_pos hcon])
                        obtain ⟨KI, hKI⟩ : ∃ KI, P2.idxOf (x0, x1, x2) = KI := ⟨_, rfl⟩
                        rw [hKI] at hlk HPL
                        rcases O2 with _ | ⟨_ | m, O2⟩
                        · simp only [List.length_nil] at hn2
                          subst hn2
                          clear hix hcon hst hxa hB hfn hq2 hfl hk4 hKI
                          go_wp2_with fail
                          go_roundw
                          case rel => exact ⟨k + 3, P2, [], true, by go_num, rfl, by have h := HF2.out.whole; rw [HPL.out] at h; exact h, HS2.out, HB2.out⟩
                          case measure => simp [intOf]; omega
                        · have hn1 : 1 ≤ n2 := by rw [← hn2]; simp
                          obtain ⟨gb, cb, e8, hgb1, hgb2, hcb1, hcb2, _, _⟩ := hst.form
                          have e8' := hn2
                          rw [List.length_cons] at e8'
                          rw [e8'] at e8 hcb1
                          cases e8
                          have n0 : ((n2 : Int) == 0) = false := by simp; omega
                          have m0 : (0 : Int) ≤ (n2 : Int) - 1 := by omega
                          have m1 : (n2 : Int) - 1 < (n2 : Int) := by omega
                          have m2 : (n2 : Int) - 1 ≤ (c8' : Int) := by omega
                          have hn7 : n2 ≤ 100000 := by omega
                          have st1 : wr.cell? ⟨gb, n2 - 1, none⟩ = some (.int .i64 (-1)) := (HS2.out.topc HN2.out).1
                          have st2 := (HS2.out.topc HN2.out).2
                          clear hix hcon hst hxa hB hfn hq2 hfl hk4 hn2 hKI e8'
                          go_wp2_with fail
                          skip
                          go_roundw
                          case rel => exact ⟨k + 3, P2, some KI :: O2, false, by go_num, rfl, by have h := HF2.out.major; rw [HPL.out] at h; exact h, SAt.top_at HN2.out HS2.out, HB2.out.setCell (p := ⟨gb, n2 - 1, none⟩) (by show w.heap.size ≤ gb; omega) _⟩
                          case measure => simp [intOf]; omega
                        · have hn1 : 1 ≤ n2 := by rw [← hn2]; simp
                          obtain ⟨gb, cb, e8, hgb1, hgb2, hcb1, hcb2, _, _⟩ := hst.form
                          have e8' := hn2
                          rw [List.length_cons] at e8'
                          rw [e8'] at e8 hcb1
                          cases e8
                          have n0 : ((n2 : Int) == 0) = false := by simp; omega
                          have m0 : (0 : Int) ≤ (n2 : Int) - 1 := by omega
                          have m1 : (n2 : Int) - 1 < (n2 : Int) := by omega
                          have m2 : (n2 : Int) - 1 ≤ (c8' : Int) := by omega
                          have hn7 : n2 ≤ 100000 := by omega
                          have st1 : wr.cell? ⟨gb, n2 - 1, none⟩ = some (.int .i64 ((m : Int))) := (HS2.out.topc HN2.out).1
                          have st2 := (HS2.out.topc HN2.out).2
                          have mz : ¬ ((m : Int) < 0) := by omega
                          have f0 : wr.frozen? ⟨wo.heap.size, 0, none⟩ = false := HXA.out.box.frozen 0
                          have f1 : wr.frozen? ⟨wo.heap.size, 1, none⟩ = false := HXA.out.box.frozen 1
                          have f2 : wr.frozen? ⟨wo.heap.size, 2, none⟩ = false := HXA.out.box.frozen 2
                          clear hix hcon hst hxa hB hfn hq2 hfl hk4 hn2 hKI e8'
                          go_wp2_with fail
                          skip
                          go_roundw
                          case rel => exact ⟨P2, O2, (2, (m : Int), (KI : Int)), rfl, by have h := HF2.out.minor HR6.out; rw [HPL.out] at h; exact h, (next_at (K := KI) HN2.out HS2.out HXA.out).1, (next_at (K := KI) HN2.out HS2.out HXA.out).2, ((HB2.out.setCell (p := ⟨wo.heap.size, 0, none⟩) (by show w.heap.size ≤ wo.heap.size; have := HXA.out.hx; omega) _).setCell (p := ⟨wo.heap.size, 1, none⟩) (by show w.heap.size ≤ wo.heap.size; have := HXA.out.hx; omega) _).setCell (p := ⟨wo.heap.size, 2, none⟩) (by show w.heap.size ≤ wo.heap.size; have := HXA.out.hx; omega) _⟩
                          case measure => simp [lenV]; omega
                  · have HZ := Lib.hid (show R = none from by rw [decide_eq_false hy] at hc; exact hc)
                    clear hq hn hlp hkl hrn hst hB hct HC HW d1 d2 hc
                    go_wp2_with (first
                      | (go_at_call 111; ((with_reducible refine (CW1.out _).mono ?_); rintro e w1 ⟨rfl, rfl⟩))
                      | (go_at_call 111; ((with_reducible refine (CW2.out _).mono ?_); rintro e w1 ⟨rfl, rfl⟩)))
                    go_region
                    go_wp2_with fail
                    go_ret2
                    have hz := HZ.out
                    subst hz
                    exact ⟨none, 0, 0, rfl, StepsAt.nil _ _ _, by first | exact bel_al HB.out _ | exact below_drewN (bel_al HB.out _) _⟩
            · have HZ := Lib.hid (show R = none from by have h := HC.out; rw [cit_short g r (by omega)] at h; exact h)
              have j1 : (r.size : Int) < (k : Int) + 3 := by omega
              subst h103
              clear hq hn hlp hkl hrn hst hB HC HW
              go_wp2_with fail
              go_ret2
              have hz := HZ.out
              subst hz
              exact ⟨none, 0, 0, rfl, StepsAt.nil _ _ _, HB.out⟩
          · have HZ := Lib.hid (show R = none from by have h := HC.out; rw [cit_not g r hlt (by rw [hc0]; exact h103)] at h; exact h)
            have h9 : (c0 != 103) = true := by simp [h103]
            clear hq hn hlp hkl hrn hst hB HC HW
            go_wp2_with fail
            go_ret2
            have hz := HZ.out
            subst hz
            exact ⟨none, 0, 0, rfl, StepsAt.nil _ _ _, HB.out⟩
      · have hRn := hrn.whole hlt
        rw [hRn]
        have hk1 : (k : Int) < (r.size : Int) := by omega
        have hk0 : (0 : Int) ≤ (k : Int) := by omega
        clear hq hn hlp hkl hrn hst hB hRn
        go_wp2_with fail
        go_ret2
        exact ⟨none, 0, 0, rfl, StepsAt.nil _ _ _, HB.out⟩
    · obtain rfl : k = r.size := by omega
      have hRn := hrn.end_
      have hk1 : ¬ (r.size : Int) < (r.size : Int) := by omega
      cases b
      · have HZ := Lib.hid (show R = none from hRn)
        clear hq hn hlp hkl hrn hst hB hRn
        go_wp2_with fail
        go_ret2
        have hz := HZ.out
        subst hz
        exact ⟨none, 0, 0, rfl, StepsAt.nil _ _ _, HB.out⟩
      · have hrow : wr.ownsRow (w.heap.size + 1) 123 3 (.slice A6 q c6) q (flatS P) := by have h := hst.row; rw [hq] at h; exact h
        have hS9 : StepsAt wr wr.heap.size A6 q P := by
          have hq6 : q ≤ 1000000 := by omega
          obtain ⟨A9, c9, e9, hS9, _⟩ := row_steps hrow hq6
          cases e9
          exact hS9
        have HS9 := Lib.hid hS9
        have HZ := Lib.hid (show R = some P from hRn)
        have HQ := Lib.hid hq
        clear hq hn hlp hkl hrn hst hB hRn hS9 hrow
        by_cases h60 : 60 < q
        · have h61 : (60 : Int) < (q : Int) := by omega
          go_wp2_with fail
          go_ret2
          have hz := HZ.out
          subst hz
          rw [zR_more (by have := HQ.out; omega)]
          exact ⟨none, 0, 0, rfl, StepsAt.nil _ _ _, HB.out⟩
        · have h61 : ¬ (60 : Int) < (q : Int) := by omega
          go_wp2_with fail
          go_ret2
          have hz := HZ.out
          subst hz
          rw [zR_good (by have := HQ.out; omega)]
          exact ⟨_, _, _, rfl, HS9.out, HB.out⟩

end Go.Proofs.Ytippmpcaongolaa
