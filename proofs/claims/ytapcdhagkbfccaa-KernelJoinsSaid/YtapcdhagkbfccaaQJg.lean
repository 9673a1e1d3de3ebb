/- The walk of KernelJoins. -/
import Derived.Test.YtapcdhagkbfccaaQGg
import Derived.Test.YtapcdhagkbfccaaPYg
import Derived.Test.YtapcdhagkbfccaaK8g
import Derived.Test.YtapcdhagkbfccaaQBg
/- Contract: kernel.Joined at any arguments. -/
namespace Go.Proofs.Ytapcdhagkbfccaa
open Go.RowKit

/-- A row of steps with one more. -/
theorem row_snoc {w : World} {base k : Nat} {v : Value} {pp : List Stp} {x : Stp} (h : w.ownsRow base 123 3 v k (flatS pp ++ [.int .i64 x.1, .int .i64 x.2.1, .int .i64 x.2.2])) : w.ownsRow base 123 3 v k (flatS (pp ++ [x])) := by
  rw [flatS_snoc]; exact h

set_option maxRecDepth 100000 in
set_option maxHeartbeats 2000000 in
theorem joined_any (g : Int) (A0 A1 : Option Addr) (n0 c0 n1 c1 : Nat) (pp qq : List Stp) (w : World) (hp : StepsAt w w.heap.size A0 n0 pp) (hq : StepsAt w w.heap.size A1 n1 qq) :
    Calls Try.prog 59 #[.int .i64 g, .slice A0 n0 c0, .slice A1 n1 c1] w (RetS w (jndZ g pp qq).1 (jndZ g pp qq).2) := by
  have CV := Lib.hid (validProof_any g A0 n0 c0 pp w hp)
  have CQ := Lib.hid (fun (V : World) (hB : Below w.heap.size w V) => validProof_any g A1 n1 c1 qq V (hq.up hB))
  cases hv : proofOk g pp
  · rw [hv] at CV
    rw [show jndZ g pp qq = ([], 1) from by unfold jndZ; rw [hv]; rfl]
    clear hv hp hq CQ
    go_enter Try.func59, Try.ntmps59
    go_wp2_with (go_at_call 89; ((with_reducible refine CV.out.mono ?_); rintro e w1 ⟨rfl, hB1⟩; have HB1 := Lib.hid hB1; clear hB1))
    go_ret2
    exact retS_none HB1.out
  cases hv2 : proofOk g qq
  · rw [hv] at CV
    simp only [hv2] at CQ
    rw [show jndZ g pp qq = ([], 1) from by unfold jndZ; rw [hv, hv2]; rfl]
    clear hv hv2 hp hq
    go_enter Try.func59, Try.ntmps59
    go_wp2_with (first
      | (go_at_call 89; ((with_reducible refine (CQ.out _ HB1.out).mono ?_); rintro e w2 ⟨rfl, hB2⟩; have HB2 := Lib.hid (below_then HB1.out hB2); clear hB2))
      | (go_at_call 89; ((with_reducible refine CV.out.mono ?_); rintro e w1 ⟨rfl, hB1⟩; have HB1 := Lib.hid hB1; clear hB1)))
    go_ret2
    exact retS_none HB2.out
  rw [hv] at CV
  simp only [hv2] at CQ
  obtain ⟨hg0, hl60, hto⟩ := proofOk_to hv
  obtain ⟨_, hl61, hto1⟩ := proofOk_to hv2
  have hlp := hp.len
  have hlq := hq.len
  have hn60 : n0 ≤ 60 := by omega
  have hm60 : n1 ≤ 60 := by omega
  have hn1 : 1 ≤ n0 := by omega
  have hm1 : 1 ≤ n1 := by omega
  by_cases h60 : n0 + n1 + 1 ≤ 60
  · rw [show jndZ g pp qq = (jnP pp qq, 0) from by unfold jndZ; rw [hv, hv2, if_pos (by rfl), if_pos (by omega)]]
    obtain ⟨b0, off0, rfl, hb0, _⟩ := hp.mem (by omega)
    obtain ⟨b1, off1, rfl, hb1, _⟩ := hq.mem (by omega)
    have CC := Lib.hid (fun (V : World) (hB : Below w.heap.size w V) => cloneS_any V b0 off0 n0 c0 pp hn1 (by omega) ((hp.below hB).more hB.size))
    have HQ := Lib.hid hq
    have HLP := Lib.hid hlp
    have HLQ := Lib.hid hlq
    have HTO := Lib.hid (fun k (hk : k < n1) (x : Stp) (hx : qq[k]? = some x) => show (x.1 = 1 ∧ 0 ≤ x.2.1 ∧ x.2.1 < g ∧ x.2.2 = 0) ∨ (x.1 = 2 ∧ 0 ≤ x.2.1 ∧ x.2.1 < (k : Int) ∧ 0 ≤ x.2.2 ∧ x.2.2 < (k : Int)) from stepOk_num (hto1 k (by omega) x hx))
    have h60' : ¬ (60 : Int) < (n0 : Int) + (n1 : Int) + 1 := by omega
    obtain ⟨i0, hi, hz0, hz1, hz2⟩ := info_parts info_step
    clear hv hv2 hp hq hto hto1 hl60 hl61 hlp hlq hg0 hb0 hb1
    go_enter Try.func59, Try.ntmps59
    go_wp2_with (first
      | (go_at_call 89; ((with_reducible refine (CQ.out _ HB1.out).mono ?_); rintro e w2 ⟨rfl, hB2⟩; have HB2 := Lib.hid (below_then HB1.out hB2); clear hB2))
      | (go_at_call 89; ((with_reducible refine CV.out.mono ?_); rintro e w1 ⟨rfl, hB1⟩; have HB1 := Lib.hid hB1; clear hB1))
      | (go_at_call 112
         (with_reducible refine (CC.out _ HB2.out).mono ?_)
         rintro e w4 ⟨v4, rfl, hrow, hB4⟩
         rw [← HLP.out] at hrow
         obtain ⟨gb, cap, rfl, hgb⟩ := World.ownsRow.form hrow (by omega)
         have HROW := Lib.hid (show w4.ownsRow w2.heap.size 123 3 (.slice (some ⟨gb, 0, none⟩) n0 cap) n0 (flatS (jnTo pp qq 0)) from by rw [jnTo_zero]; exact hrow)
         have HSZ := Lib.hid (show w2.heap.size ≤ w4.heap.size from hB4.size)
         have HB4 := Lib.hid (below_then HB2.out hB4)
         clear hrow hB4))
    clear CQ CV CC
    go_loopw [8, 32] (fun v i wr => ∃ (k : Nat) (Av : Option Addr) (cv : Nat), k ≤ n1 ∧ i = .int .i64 k ∧ v = .slice Av (n0 + k) cv ∧ wr.ownsRow w2.heap.size 123 3 (.slice Av (n0 + k) cv) (n0 + k) (flatS (jnTo pp qq k)) ∧ Below w.heap.size w wr ∧ w2.heap.size ≤ wr.heap.size) (fun _ i _ => n1 - (intOf i).toNat)
    case atStart => exact ⟨0, _, _, Nat.zero_le _, rfl, rfl, HROW.out, HB4.out, HSZ.out⟩
    case round =>
      obtain ⟨k, Av, cv, hk, rfl, rfl, hrow, hB, hsz⟩ := hrel
      have HB := Lib.hid hB
      have HR := Lib.hid hrow
      have HS := Lib.hid hsz
      by_cases hlt : k < n1
      · obtain ⟨b', off', x, y, z, e', hb', q1, q2, q3, q4⟩ := HQ.out.cellAt hlt
        cases e'
        have r1 := (hB.cell (p := ⟨b1, off1 + k * 3, none⟩) hb').trans q1
        have r2 := (hB.cell (p := ⟨b1, off1 + k * 3 + 1, none⟩) hb').trans q2
        have r3 := (hB.cell (p := ⟨b1, off1 + k * 3 + 2, none⟩) hb').trans q3
        have hk0 : (0 : Int) ≤ (k : Int) := by omega
        have hk1 : (k : Int) < (n1 : Int) := by omega
        have HX := Lib.hid (jnTo_succ (pp := pp) q4)
        rcases HTO.out k hlt _ q4 with ⟨h1, h2, h3, h4⟩ | ⟨h1, h2, h3, h4, h5⟩
        · have h1' : (x == 2) = false := by simpa using (show ¬ x = 2 from by simp only at h1; omega)
          have HX2 := Lib.hid (show shfS pp.length (x, y, z) = (x, y, z) from by unfold shfS; rw [if_neg (by simp only at h1 ⊢; omega)])
          clear q1 q2 q3 q4 hB hrow hsz h1 h2 h3 h4
          go_wp2_with (first
            | (at_builtin
               refine wpList_append_own_at _ rfl _ _ 50 rfl w2.heap.size 123 i0 _ 3 24 Try.underlying50 hi hz0 hz1 hz2 rfl (by omega) (.slice Av (n0 + k) cv) (n0 + k) (flatS (jnTo pp qq k)) rfl (row_below HR.out (bel_al (bel_al0 _ _) _)) ⟨wr.heap.size + 1, 0, none⟩ 1 1 [.int .i64 x, .int .i64 y, .int .i64 z] rfl rfl
                 (World.news_of_block (cs := #[.int .i64 x, .int .i64 y, .int .i64 z]) (t := 123) (fr := (0, 0)) (by have h := heap_alloc_new (wr.alloc (.cells #[.int .i64 x, .int .i64 y, .int .i64 z] 123)) (.cells #[.int .i64 x, .int .i64 y, .int .i64 z] 123); rw [World.size_alloc] at h; exact h)) (by simp [Value.oneCell']) (by unfold maxLen; omega) (by omega) (by have := HS.out; simp only [World.size_alloc]; omega) ?_
               intro v5 w5 hown5 hg5 _ _
               have hs5 := hg5.size
               simp only [World.size_alloc] at hs5
               have HO5 := Lib.hid (row_snoc (x := (x, y, z)) hown5)
               obtain ⟨g5, cap5, rfl, _⟩ := hown5.form (by omega)
               have HB5 := Lib.hid ((bel_al (bel_al HB.out _) _).grown hg5 (by have := HB.out.size; simp only [World.size_alloc]; omega) (fun j e => by have := (HR.out.lt j e).1; have := HB2.out.size; omega))
               have HS5 := Lib.hid (show w2.heap.size ≤ w5.heap.size from by have := HS.out; omega)
               clear hown5 hg5 hs5))
          go_roundw
          case rel => exact ⟨k + 1, _, _, by omega, by go_num, rfl, by rw [HX.out, HX2.out]; exact HO5.out, HB5.out, HS5.out⟩
          case measure => simp [intOf]; omega
        · simp only at h1 h2 h3 h4 h5
          subst h1
          have HX2 := Lib.hid (show shfS pp.length (2, y, z) = (2, y + (n0 : Int), z + (n0 : Int)) from by unfold shfS; rw [if_pos rfl, ← HLP.out])
          clear q1 q2 q3 q4 hB hrow hsz
          go_wp2_with (first
            | (at_builtin
               refine wpList_append_own_at _ rfl _ _ 50 rfl w2.heap.size 123 i0 _ 3 24 Try.underlying50 hi hz0 hz1 hz2 rfl (by omega) (.slice Av (n0 + k) cv) (n0 + k) (flatS (jnTo pp qq k)) rfl (row_below HR.out (bel_al (bel_al0 _ _) _)) ⟨wr.heap.size + 1, 0, none⟩ 1 1 [.int .i64 2, .int .i64 (y + n0), .int .i64 (z + n0)] rfl rfl
                 (World.news_of_block (cs := #[.int .i64 2, .int .i64 (y + n0), .int .i64 (z + n0)]) (t := 123) (fr := (0, 0)) (by have h := heap_alloc_new (wr.alloc (.cells #[.int .i64 2, .int .i64 (y + n0), .int .i64 (z + n0)] 123)) (.cells #[.int .i64 2, .int .i64 (y + n0), .int .i64 (z + n0)] 123); rw [World.size_alloc] at h; exact h)) (by simp [Value.oneCell']) (by unfold maxLen; omega) (by omega) (by have := HS.out; simp only [World.size_alloc]; omega) ?_
               intro v5 w5 hown5 hg5 _ _
               have hs5 := hg5.size
               simp only [World.size_alloc] at hs5
               have HO5 := Lib.hid (row_snoc (x := (2, y + (n0 : Int), z + (n0 : Int))) hown5)
               obtain ⟨g5, cap5, rfl, _⟩ := hown5.form (by omega)
               have HB5 := Lib.hid ((bel_al (bel_al HB.out _) _).grown hg5 (by have := HB.out.size; simp only [World.size_alloc]; omega) (fun j e => by have := (HR.out.lt j e).1; have := HB2.out.size; omega))
               have HS5 := Lib.hid (show w2.heap.size ≤ w5.heap.size from by have := HS.out; omega)
               clear hown5 hg5 hs5))
          go_roundw
          case rel => exact ⟨k + 1, _, _, by omega, by go_num, rfl, by rw [HX.out, HX2.out]; exact HO5.out, HB5.out, HS5.out⟩
          case measure => simp [intOf]; omega
      · obtain rfl : n1 = k := by omega
        have HX := Lib.hid (jnTo_all pp qq)
        clear hB hrow hsz
        go_wp2_with (first
          | (at_builtin
             refine wpList_append_own_at _ rfl _ _ 50 rfl w2.heap.size 123 i0 _ 3 24 Try.underlying50 hi hz0 hz1 hz2 rfl (by omega) (.slice Av (n0 + n1) cv) (n0 + n1) (flatS (jnTo pp qq n1)) rfl (row_below HR.out (bel_al0 _ _)) ⟨wr.heap.size, 0, none⟩ 1 1 [.int .i64 2, .int .i64 ((n0 : Int) - 1), .int .i64 ((n0 : Int) + (n1 : Int) - 1)] rfl rfl
               (World.news_of_block (cs := #[.int .i64 2, .int .i64 ((n0 : Int) - 1), .int .i64 ((n0 : Int) + (n1 : Int) - 1)]) (t := 123) (fr := (0, 0)) (heap_alloc_new wr _)) (by simp [Value.oneCell']) (by unfold maxLen; omega) (by omega) (by have := HS.out; simp only [World.size_alloc]; omega) ?_
             intro v5 w5 hown5 hg5 _ _
             have HO5 := Lib.hid (row_snoc (x := (2, (n0 : Int) - 1, (n0 : Int) + (n1 : Int) - 1)) hown5)
             have HB5 := Lib.hid ((bel_al HB.out _).grown hg5 (by have := HB.out.size; simp only [World.size_alloc]; omega) (fun j e => by have := (HR.out.lt j e).1; have := HB2.out.size; omega))
             clear hown5 hg5))
        go_ret2
        have hlast := HO5.out
        have hx := HX.out
        unfold lastS at hx
        rw [← HLP.out, ← HLQ.out] at hx
        rw [hx] at hlast
        obtain ⟨A', c', e', hs', _⟩ := row_steps hlast (by omega)
        subst e'
        exact ⟨_, _, _, rfl, hs', HB5.out⟩
  · rw [show jndZ g pp qq = ([], 4) from by unfold jndZ; rw [hv, hv2, if_pos (by rfl), if_neg (by omega)]]
    have h60' : (60 : Int) < (n0 : Int) + (n1 : Int) + 1 := by omega
    clear hv hv2 hp hq hto hto1 hl60 hl61 hlp hlq hg0 h60
    go_enter Try.func59, Try.ntmps59
    go_wp2_with (first
      | (go_at_call 89; ((with_reducible refine (CQ.out _ HB1.out).mono ?_); rintro e w2 ⟨rfl, hB2⟩; have HB2 := Lib.hid (below_then HB1.out hB2); clear hB2))
      | (go_at_call 89; ((with_reducible refine CV.out.mono ?_); rintro e w1 ⟨rfl, hB1⟩; have HB1 := Lib.hid hB1; clear hB1)))
    go_ret2
    exact retS_none HB2.out

end Go.Proofs.Ytapcdhagkbfccaa

/- Contract: the reference's Joined at any arguments. -/
namespace Go.Proofs.Ytapcdhagkbfccaa
open Go.RowKit

set_option maxRecDepth 100000 in
set_option maxHeartbeats 2000000 in
theorem refJoined_any (g : Int) (A0 A1 : Option Addr) (n0 c0 n1 c1 : Nat) (pp qq : List Stp) (w : World) (hp : StepsAt w w.heap.size A0 n0 pp) (hq : StepsAt w w.heap.size A1 n1 qq) :
    Calls Try.prog 60 #[.int .i64 g, .slice A0 n0 c0, .slice A1 n1 c1] w (RetS w (jndZ g pp qq).1 (jndZ g pp qq).2) := by
  have CV := Lib.hid (refValidProof_any g A0 n0 c0 pp w hp)
  have CQ := Lib.hid (fun (V : World) (hB : Below w.heap.size w V) => refValidProof_any g A1 n1 c1 qq V (hq.up hB))
  cases hv : proofOk g pp
  · rw [hv] at CV
    rw [show jndZ g pp qq = ([], 1) from by unfold jndZ; rw [hv]; rfl]
    clear hv hp hq CQ
    go_enter Try.func60, Try.ntmps60
    go_wp2_with (go_at_call 103; ((with_reducible refine CV.out.mono ?_); rintro e w1 ⟨rfl, hB1⟩; have HB1 := Lib.hid hB1; clear hB1))
    go_ret2
    exact retS_none HB1.out
  cases hv2 : proofOk g qq
  · rw [hv] at CV
    simp only [hv2] at CQ
    rw [show jndZ g pp qq = ([], 1) from by unfold jndZ; rw [hv, hv2]; rfl]
    clear hv hv2 hp hq
    go_enter Try.func60, Try.ntmps60
    go_wp2_with (first
      | (go_at_call 103; ((with_reducible refine (CQ.out _ HB1.out).mono ?_); rintro e w2 ⟨rfl, hB2⟩; have HB2 := Lib.hid (below_then HB1.out hB2); clear hB2))
      | (go_at_call 103; ((with_reducible refine CV.out.mono ?_); rintro e w1 ⟨rfl, hB1⟩; have HB1 := Lib.hid hB1; clear hB1)))
    go_ret2
    exact retS_none HB2.out
  rw [hv] at CV
  simp only [hv2] at CQ
  obtain ⟨hg0, hl60, hto⟩ := proofOk_to hv
  obtain ⟨_, hl61, hto1⟩ := proofOk_to hv2
  have hlp := hp.len
  have hlq := hq.len
  have hn60 : n0 ≤ 60 := by omega
  have hm60 : n1 ≤ 60 := by omega
  have hn1 : 1 ≤ n0 := by omega
  have hm1 : 1 ≤ n1 := by omega
  by_cases h60 : n0 + n1 + 1 ≤ 60
  · rw [show jndZ g pp qq = (jnP pp qq, 0) from by unfold jndZ; rw [hv, hv2, if_pos (by rfl), if_pos (by omega)]]
    obtain ⟨b0, off0, rfl, hb0, _⟩ := hp.mem (by omega)
    obtain ⟨b1, off1, rfl, hb1, _⟩ := hq.mem (by omega)
    have HP := Lib.hid hp
    have HH1 := Lib.hid (show (flatS pp).length = n0 * 3 by rw [flatS_len, ← hlp])
    have HH3 := Lib.hid (flatS_one pp)
    have HQ := Lib.hid hq
    have HLP := Lib.hid hlp
    have HLQ := Lib.hid hlq
    have HTO := Lib.hid (fun k (hk : k < n1) (x : Stp) (hx : qq[k]? = some x) => show (x.1 = 1 ∧ 0 ≤ x.2.1 ∧ x.2.1 < g ∧ x.2.2 = 0) ∨ (x.1 = 2 ∧ 0 ≤ x.2.1 ∧ x.2.1 < (k : Int) ∧ 0 ≤ x.2.2 ∧ x.2.2 < (k : Int)) from stepOk_num (hto1 k (by omega) x hx))
    have h60' : ¬ (60 : Int) < (n0 : Int) + (n1 : Int) + 1 := by omega
    obtain ⟨i0, hi, hz0, hz1, hz2⟩ := info_parts info_step
    clear hv hv2 hp hq hto hto1 hl60 hl61 hlp hlq hg0 hb0 hb1
    go_enter Try.func60, Try.ntmps60
    go_wp2_with (first
      | (go_at_call 103; ((with_reducible refine (CQ.out _ HB1.out).mono ?_); rintro e w2 ⟨rfl, hB2⟩; have HB2 := Lib.hid (below_then HB1.out hB2); clear hB2))
      | (go_at_call 103; ((with_reducible refine CV.out.mono ?_); rintro e w1 ⟨rfl, hB1⟩; have HB1 := Lib.hid hB1; clear hB1))
      | (at_builtin
         refine wpList_append_own_at _ rfl _ _ 50 rfl w2.heap.size 123 i0 _ 3 24 Try.underlying50 hi hz0 hz1 hz2 rfl (by omega) (.slice (some ⟨w2.heap.size, 0, none⟩) 0 0) 0 [] rfl
           ⟨rfl, .inr ⟨w2.heap.size, 0, #[], rfl, Nat.le_refl _, heap_alloc_new w2 _, Nat.le_refl _, by unfold maxLen; omega, rfl, rfl⟩⟩ ⟨b0, off0, none⟩ n0 c0 (flatS pp) rfl HH1.out
           (fun j u hu => by rw [add0]; exact flatS_cells (HP.out.below (HB2.out.alloc HB2.out.size _)) j u hu) HH3.out (by unfold maxLen; omega) (by omega) (by simp) ?_
         intro v4 w4 hown hg4 _ _
         simp only [Nat.zero_add, List.nil_append] at hown
         obtain ⟨gb, cap, rfl, hgb⟩ := World.ownsRow.form hown (by omega)
         have HROW := Lib.hid (show w4.ownsRow w2.heap.size 123 3 (.slice (some ⟨gb, 0, none⟩) n0 cap) n0 (flatS (jnTo pp qq 0)) from by rw [jnTo_zero]; exact hown)
         have HSZ := Lib.hid (show w2.heap.size ≤ w4.heap.size from by have := hg4.size; simp only [World.size_alloc] at this; omega)
         have HB4 := Lib.hid (below_then HB2.out (((Below.refl _ w2).alloc (Nat.le_refl _) _).grown hg4 (by simp) (fun k e => by cases e; exact Nat.le_refl _)))
         clear hown hg4))
    clear CQ CV
    go_loopw [8, 9] (fun v i wr => ∃ (k : Nat) (Av : Option Addr) (cv : Nat), k ≤ n1 ∧ i = .int .i64 k ∧ v = .slice Av (n0 + k) cv ∧ wr.ownsRow w2.heap.size 123 3 (.slice Av (n0 + k) cv) (n0 + k) (flatS (jnTo pp qq k)) ∧ Below w.heap.size w wr ∧ w2.heap.size ≤ wr.heap.size) (fun _ i _ => n1 - (intOf i).toNat)
    case atStart => exact ⟨0, _, _, Nat.zero_le _, rfl, rfl, HROW.out, HB4.out, HSZ.out⟩
    case round =>
      obtain ⟨k, Av, cv, hk, rfl, rfl, hrow, hB, hsz⟩ := hrel
      have HB := Lib.hid hB
      have HR := Lib.hid hrow
      have HS := Lib.hid hsz
      by_cases hlt : k < n1
      · obtain ⟨b', off', x, y, z, e', hb', q1, q2, q3, q4⟩ := HQ.out.cellAt hlt
        cases e'
        have r1 := (hB.cell (p := ⟨b1, off1 + k * 3, none⟩) hb').trans q1
        have r2 := (hB.cell (p := ⟨b1, off1 + k * 3 + 1, none⟩) hb').trans q2
        have r3 := (hB.cell (p := ⟨b1, off1 + k * 3 + 2, none⟩) hb').trans q3
        have hk0 : (0 : Int) ≤ (k : Int) := by omega
        have hk1 : (k : Int) < (n1 : Int) := by omega
        have HX := Lib.hid (jnTo_succ (pp := pp) q4)
        rcases HTO.out k hlt _ q4 with ⟨h1, h2, h3, h4⟩ | ⟨h1, h2, h3, h4, h5⟩
        · have h1' : (x == 2) = false := by simpa using (show ¬ x = 2 from by simp only at h1; omega)
          have HX2 := Lib.hid (show shfS pp.length (x, y, z) = (x, y, z) from by unfold shfS; rw [if_neg (by simp only at h1 ⊢; omega)])
          clear q1 q2 q3 q4 hB hrow hsz h1 h2 h3 h4
          go_wp2_with (first
            | (at_builtin
               refine wpList_append_own_at _ rfl _ _ 50 rfl w2.heap.size 123 i0 _ 3 24 Try.underlying50 hi hz0 hz1 hz2 rfl (by omega) (.slice Av (n0 + k) cv) (n0 + k) (flatS (jnTo pp qq k)) rfl (row_below HR.out (bel_al (bel_al0 _ _) _)) ⟨wr.heap.size + 1, 0, none⟩ 1 1 [.int .i64 x, .int .i64 y, .int .i64 z] rfl rfl
                 (World.news_of_block (cs := #[.int .i64 x, .int .i64 y, .int .i64 z]) (t := 123) (fr := (0, 0)) (by have h := heap_alloc_new (wr.alloc (.cells #[.int .i64 x, .int .i64 y, .int .i64 z] 123)) (.cells #[.int .i64 x, .int .i64 y, .int .i64 z] 123); rw [World.size_alloc] at h; exact h)) (by simp [Value.oneCell']) (by unfold maxLen; omega) (by omega) (by have := HS.out; simp only [World.size_alloc]; omega) ?_
               intro v5 w5 hown5 hg5 _ _
               have hs5 := hg5.size
               simp only [World.size_alloc] at hs5
               have HO5 := Lib.hid (row_snoc (x := (x, y, z)) hown5)
               obtain ⟨g5, cap5, rfl, _⟩ := hown5.form (by omega)
               have HB5 := Lib.hid ((bel_al (bel_al HB.out _) _).grown hg5 (by have := HB.out.size; simp only [World.size_alloc]; omega) (fun j e => by have := (HR.out.lt j e).1; have := HB2.out.size; omega))
               have HS5 := Lib.hid (show w2.heap.size ≤ w5.heap.size from by have := HS.out; omega)
               clear hown5 hg5 hs5))
          go_roundw
          case rel => exact ⟨k + 1, _, _, by omega, by go_num, rfl, by rw [HX.out, HX2.out]; exact HO5.out, HB5.out, HS5.out⟩
          case measure => simp [intOf]; omega
        · simp only at h1 h2 h3 h4 h5
          subst h1
          have HX2 := Lib.hid (show shfS pp.length (2, y, z) = (2, y + (n0 : Int), z + (n0 : Int)) from by unfold shfS; rw [if_pos rfl, ← HLP.out])
          clear q1 q2 q3 q4 hB hrow hsz
          go_wp2_with (first
            | (at_builtin
               refine wpList_append_own_at _ rfl _ _ 50 rfl w2.heap.size 123 i0 _ 3 24 Try.underlying50 hi hz0 hz1 hz2 rfl (by omega) (.slice Av (n0 + k) cv) (n0 + k) (flatS (jnTo pp qq k)) rfl (row_below HR.out (bel_al (bel_al0 _ _) _)) ⟨wr.heap.size + 1, 0, none⟩ 1 1 [.int .i64 2, .int .i64 (y + n0), .int .i64 (z + n0)] rfl rfl
                 (World.news_of_block (cs := #[.int .i64 2, .int .i64 (y + n0), .int .i64 (z + n0)]) (t := 123) (fr := (0, 0)) (by have h := heap_alloc_new (wr.alloc (.cells #[.int .i64 2, .int .i64 (y + n0), .int .i64 (z + n0)] 123)) (.cells #[.int .i64 2, .int .i64 (y + n0), .int .i64 (z + n0)] 123); rw [World.size_alloc] at h; exact h)) (by simp [Value.oneCell']) (by unfold maxLen; omega) (by omega) (by have := HS.out; simp only [World.size_alloc]; omega) ?_
               intro v5 w5 hown5 hg5 _ _
               have hs5 := hg5.size
               simp only [World.size_alloc] at hs5
               have HO5 := Lib.hid (row_snoc (x := (2, y + (n0 : Int), z + (n0 : Int))) hown5)
               obtain ⟨g5, cap5, rfl, _⟩ := hown5.form (by omega)
               have HB5 := Lib.hid ((bel_al (bel_al HB.out _) _).grown hg5 (by have := HB.out.size; simp only [World.size_alloc]; omega) (fun j e => by have := (HR.out.lt j e).1; have := HB2.out.size; omega))
               have HS5 := Lib.hid (show w2.heap.size ≤ w5.heap.size from by have := HS.out; omega)
               clear hown5 hg5 hs5))
          go_roundw
          case rel => exact ⟨k + 1, _, _, by omega, by go_num, rfl, by rw [HX.out, HX2.out]; exact HO5.out, HB5.out, HS5.out⟩
          case measure => simp [intOf]; omega
      · obtain rfl : n1 = k := by omega
        have HX := Lib.hid (jnTo_all pp qq)
        clear hB hrow hsz
        go_wp2_with (first
          | (at_builtin
             refine wpList_append_own_at _ rfl _ _ 50 rfl w2.heap.size 123 i0 _ 3 24 Try.underlying50 hi hz0 hz1 hz2 rfl (by omega) (.slice Av (n0 + n1) cv) (n0 + n1) (flatS (jnTo pp qq n1)) rfl (row_below HR.out (bel_al0 _ _)) ⟨wr.heap.size, 0, none⟩ 1 1 [.int .i64 2, .int .i64 ((n0 : Int) - 1), .int .i64 ((n0 : Int) + (n1 : Int) - 1)] rfl rfl
               (World.news_of_block (cs := #[.int .i64 2, .int .i64 ((n0 : Int) - 1), .int .i64 ((n0 : Int) + (n1 : Int) - 1)]) (t := 123) (fr := (0, 0)) (heap_alloc_new wr _)) (by simp [Value.oneCell']) (by unfold maxLen; omega) (by omega) (by have := HS.out; simp only [World.size_alloc]; omega) ?_
             intro v5 w5 hown5 hg5 _ _
             have HO5 := Lib.hid (row_snoc (x := (2, (n0 : Int) - 1, (n0 : Int) + (n1 : Int) - 1)) hown5)
             have HB5 := Lib.hid ((bel_al HB.out _).grown hg5 (by have := HB.out.size; simp only [World.size_alloc]; omega) (fun j e => by have := (HR.out.lt j e).1; have := HB2.out.size; omega))
             clear hown5 hg5))
        go_ret2
        have hlast := HO5.out
        have hx := HX.out
        unfold lastS at hx
        rw [← HLP.out, ← HLQ.out] at hx
        rw [hx] at hlast
        obtain ⟨A', c', e', hs', _⟩ := row_steps hlast (by omega)
        subst e'
        exact ⟨_, _, _, rfl, hs', HB5.out⟩
  · rw [show jndZ g pp qq = ([], 4) from by unfold jndZ; rw [hv, hv2, if_pos (by rfl), if_neg (by omega)]]
    have h60' : (60 : Int) < (n0 : Int) + (n1 : Int) + 1 := by omega
    clear hv hv2 hp hq hto hto1 hl60 hl61 hlp hlq hg0 h60
    go_enter Try.func60, Try.ntmps60
    go_wp2_with (first
      | (go_at_call 103; ((with_reducible refine (CQ.out _ HB1.out).mono ?_); rintro e w2 ⟨rfl, hB2⟩; have HB2 := Lib.hid (below_then HB1.out hB2); clear hB2))
      | (go_at_call 103; ((with_reducible refine CV.out.mono ?_); rintro e w1 ⟨rfl, hB1⟩; have HB1 := Lib.hid hB1; clear hB1)))
    go_ret2
    exact retS_none HB2.out

end Go.Proofs.Ytapcdhagkbfccaa

/- Arguments opened: an array of two proofs. -/
namespace Go.Proofs.Ytapcdhagkbfccaa
open Go.ChangeShapes Go.WideShapes Go.ChangeAt Go.RowKit Go.Deep

theorem cells_arrS : Try.prog.cellsOf 69 = 2 := by kernel_rfl

/-- What is read as two proofs is so. -/
theorem read_duo {H : Type} {enc : TypeId × Value → H} {w : World} {base : Nat} {spare : Nat → Bool} {held : Bool} {v : Value} {d : DataW H} {p : List MemPlace} (h : DataW.Trod enc Try.prog w base spare held 69 v d p) :
    ∃ A0 n0 c0 p0 A1 n1 c1 p1, v = .agg #[.slice A0 n0 c0, .slice A1 n1 c1] ∧ StepsAt w w.heap.size A0 n0 p0 ∧ StepsAt w w.heap.size A1 n1 p1 := by
  obtain ⟨fuel, hf⟩ := h
  obtain ⟨xs, m, _, _, hl, hxl, hi⟩ := DataW.trod_array Try.underlying69 hf
  rw [cells_arrS] at hl
  obtain ⟨cs, rfl, hcs⟩ := agg_of_cells2 (v := v) (by have : v.cells.size = 2 := by simpa using hl
                                                      omega)
  rw [hcs] at hl hi
  obtain ⟨l⟩ := cs
  simp only [cells_steps, Nat.mul_one] at hi
  match l, hl, xs, hxl with
  | [c0, c1], _, [y0, y1], _ =>
    have e0 := hi 0 (by omega)
    have e1 := hi 1 (by omega)
    simp at e0 e1
    obtain ⟨A0, n0, k0, p0, rfl, h0⟩ := read_steps e0
    obtain ⟨A1, n1, k1, p1, rfl, h1⟩ := read_steps e1
    exact ⟨A0, n0, k0, p0, A1, n1, k1, p1, rfl, h0, h1⟩

end Go.Proofs.Ytapcdhagkbfccaa

namespace Go.Proofs.Ytapcdhagkbfccaa
open Go.RowKit

set_option maxRecDepth 100000 in
set_option maxHeartbeats 4000000 in
theorem kj_shelf (As Ag A0 A1 : Option Addr) (ns cs ng cg n0 c0 n1 c1 : Nat) (ss : Sg) (lg : List Hd) (gg : List (List Int)) (pp qq : List Stp) (w : World) (_hs : SigAt w w.heap.size As ns ss) (hg : TermsAt w w.heap.size Ag ng lg gg) (_hp : StepsAt w w.heap.size A0 n0 pp) (_hq : StepsAt w w.heap.size A1 n1 qq) (h1 : (decide (ng ≤ 80) && smallOk ns lg) = false) :
    Calls Try.prog 12 #[.slice As ns cs, .slice Ag ng cg, .agg #[.slice A0 n0 c0, .slice A1 n1 c1]] w fun e w' => e = .returned (.bool true) ∧ Below w.heap.size w w' := by
  obtain ⟨N, hN⟩ : ∃ N, w.heap.size = N := ⟨_, rfl⟩
  obtain ⟨W2, hW2⟩ : ∃ W2, w.alloc (.cells #[.slice A0 n0 c0, .slice A1 n1 c1] 69) = W2 := ⟨_, rfl⟩
  have hB : Below w.heap.size w W2 := by rw [← hW2]; exact (Below.refl _ w).alloc (Nat.le_refl _) _
  have hz : W2.heap.size = N + 1 := by rw [← hW2]; simp [hN]
  have bx : Blk W2 w.heap.size 69 #[.slice A0 n0 c0, .slice A1 n1 c1] := by
    rw [← hW2]; exact Blk.new w _ _
  rw [hN] at bx
  have b0 : W2.cell? ⟨N, 0, none⟩ = some (.slice A0 n0 c0) := bx.cell 0
  have b1 : W2.cell? ⟨N, 1, none⟩ = some (.slice A1 n1 c1) := bx.cell 1
  have hNlt : N < W2.heap.size := by omega
  have up : ∀ V, Below W2.heap.size W2 V → Below w.heap.size w V := fun V hb => hB.trans (hb.mono hB.size)
  have HCE := Lib.hid (fun V' (hb : Below W2.heap.size W2 V') => show V'.cell? ⟨N, 0, none⟩ = some (.slice A0 n0 c0) ∧ V'.cell? ⟨N, 1, none⟩ = some (.slice A1 n1 c1) from
    ⟨(hb.cell (p := ⟨N, 0, none⟩) hNlt).trans b0, (hb.cell (p := ⟨N, 1, none⟩) hNlt).trans b1⟩)
  have HUP := Lib.hid up
  have HW2 := Lib.hid hW2
  have HN := Lib.hid hN
  have HB0 := Lib.hid (Below.refl W2.heap.size W2)
  have HSH := Lib.hid (shelf_any As Ag ns cs ng cg lg W2 _ ((hg.up hB).hds))
  have HL0 := Lib.hid (light_any A0 n0 c0 W2)
  have HL1 := Lib.hid (light_any A1 n1 c1 W2)
  rw [h1] at HSH
  clear bx hB up hz hW2 _hs hg _hp _hq h1 HL0 HL1 HCE b0 b1 hNlt
  rw [hN]
  clear hN
  go_enter Try.func12, Try.ntmps12
  go_wp2_with fail
  rw [HW2.out, HN.out]
  go_wp2_with (first
    | (go_at_call 42; ((with_reducible refine HSH.out.mono ?_); rintro e V1 ⟨rfl, rfl⟩))
    | (go_at_call 35; refine (awake4_any _).mono ?_; rintro e Vz ⟨rfl, hBz⟩; have HBz := Lib.hid (below_then HB0.out hBz); clear hBz))
  go_ret
  exact ⟨rfl, by rw [← HN.out]; exact HUP.out _ HBz.out⟩

set_option maxRecDepth 100000 in
set_option maxHeartbeats 4000000 in
theorem kj_light (As Ag A0 A1 : Option Addr) (ns cs ng cg n0 c0 n1 c1 : Nat) (ss : Sg) (lg : List Hd) (gg : List (List Int)) (pp qq : List Stp) (w : World) (_hs : SigAt w w.heap.size As ns ss) (hg : TermsAt w w.heap.size Ag ng lg gg) (_hp : StepsAt w w.heap.size A0 n0 pp) (_hq : StepsAt w w.heap.size A1 n1 qq) (h1 : (decide (ng ≤ 80) && smallOk ns lg) = true) (h2 : ¬ n0 ≤ 100) :
    Calls Try.prog 12 #[.slice As ns cs, .slice Ag ng cg, .agg #[.slice A0 n0 c0, .slice A1 n1 c1]] w fun e w' => e = .returned (.bool true) ∧ Below w.heap.size w w' := by
  obtain ⟨N, hN⟩ : ∃ N, w.heap.size = N := ⟨_, rfl⟩
  obtain ⟨W2, hW2⟩ : ∃ W2, w.alloc (.cells #[.slice A0 n0 c0, .slice A1 n1 c1] 69) = W2 := ⟨_, rfl⟩
  have hB : Below w.heap.size w W2 := by rw [← hW2]; exact (Below.refl _ w).alloc (Nat.le_refl _) _
  have hz : W2.heap.size = N + 1 := by rw [← hW2]; simp [hN]
  have bx : Blk W2 w.heap.size 69 #[.slice A0 n0 c0, .slice A1 n1 c1] := by
    rw [← hW2]; exact Blk.new w _ _
  rw [hN] at bx
  have b0 : W2.cell? ⟨N, 0, none⟩ = some (.slice A0 n0 c0) := bx.cell 0
  have b1 : W2.cell? ⟨N, 1, none⟩ = some (.slice A1 n1 c1) := bx.cell 1
  have hNlt : N < W2.heap.size := by omega
  have up : ∀ V, Below W2.heap.size W2 V → Below w.heap.size w V := fun V hb => hB.trans (hb.mono hB.size)
  have HCE := Lib.hid (fun V' (hb : Below W2.heap.size W2 V') => show V'.cell? ⟨N, 0, none⟩ = some (.slice A0 n0 c0) ∧ V'.cell? ⟨N, 1, none⟩ = some (.slice A1 n1 c1) from
    ⟨(hb.cell (p := ⟨N, 0, none⟩) hNlt).trans b0, (hb.cell (p := ⟨N, 1, none⟩) hNlt).trans b1⟩)
  have HUP := Lib.hid up
  have HW2 := Lib.hid hW2
  have HN := Lib.hid hN
  have HB0 := Lib.hid (Below.refl W2.heap.size W2)
  have HSH := Lib.hid (shelf_any As Ag ns cs ng cg lg W2 _ ((hg.up hB).hds))
  have HL0 := Lib.hid (light_any A0 n0 c0 W2)
  have HL1 := Lib.hid (light_any A1 n1 c1 W2)
  rw [h1] at HSH
  rw [decide_eq_false h2] at HL0
  clear bx hB up hz hW2 _hs hg _hp _hq h1 h2 HL1 HCE hNlt
  rw [hN]
  clear hN
  go_enter Try.func12, Try.ntmps12
  go_wp2_with fail
  rw [HW2.out, HN.out]
  go_wp2_with (first
    | (go_at_call 42; ((with_reducible refine HSH.out.mono ?_); rintro e V1 ⟨rfl, rfl⟩))
    | (go_at_call 43; ((with_reducible refine HL0.out.mono ?_); rintro e V1 ⟨rfl, rfl⟩))
    | (go_at_call 35; refine (awake4_any _).mono ?_; rintro e Vz ⟨rfl, hBz⟩; have HBz := Lib.hid (below_then HB0.out hBz); clear hBz))
  go_ret
  exact ⟨rfl, by rw [← HN.out]; exact HUP.out _ HBz.out⟩

set_option maxRecDepth 100000 in
set_option maxHeartbeats 4000000 in
theorem kj_light1 (As Ag A0 A1 : Option Addr) (ns cs ng cg n0 c0 n1 c1 : Nat) (ss : Sg) (lg : List Hd) (gg : List (List Int)) (pp qq : List Stp) (w : World) (_hs : SigAt w w.heap.size As ns ss) (hg : TermsAt w w.heap.size Ag ng lg gg) (_hp : StepsAt w w.heap.size A0 n0 pp) (_hq : StepsAt w w.heap.size A1 n1 qq) (h1 : (decide (ng ≤ 80) && smallOk ns lg) = true) (h2 : n0 ≤ 100) (h3 : ¬ n1 ≤ 100) :
    Calls Try.prog 12 #[.slice As ns cs, .slice Ag ng cg, .agg #[.slice A0 n0 c0, .slice A1 n1 c1]] w fun e w' => e = .returned (.bool true) ∧ Below w.heap.size w w' := by
  obtain ⟨N, hN⟩ : ∃ N, w.heap.size = N := ⟨_, rfl⟩
  obtain ⟨W2, hW2⟩ : ∃ W2, w.alloc (.cells #[.slice A0 n0 c0, .slice A1 n1 c1] 69) = W2 := ⟨_, rfl⟩
  have hB : Below w.heap.size w W2 := by rw [← hW2]; exact (Below.refl _ w).alloc (Nat.le_refl _) _
  have hz : W2.heap.size = N + 1 := by rw [← hW2]; simp [hN]
  have bx : Blk W2 w.heap.size 69 #[.slice A0 n0 c0, .slice A1 n1 c1] := by
    rw [← hW2]; exact Blk.new w _ _
  rw [hN] at bx
  have b0 : W2.cell? ⟨N, 0, none⟩ = some (.slice A0 n0 c0) := bx.cell 0
  have b1 : W2.cell? ⟨N, 1, none⟩ = some (.slice A1 n1 c1) := bx.cell 1
  have hNlt : N < W2.heap.size := by omega
  have up : ∀ V, Below W2.heap.size W2 V → Below w.heap.size w V := fun V hb => hB.trans (hb.mono hB.size)
  have HCE := Lib.hid (fun V' (hb : Below W2.heap.size W2 V') => show V'.cell? ⟨N, 0, none⟩ = some (.slice A0 n0 c0) ∧ V'.cell? ⟨N, 1, none⟩ = some (.slice A1 n1 c1) from
    ⟨(hb.cell (p := ⟨N, 0, none⟩) hNlt).trans b0, (hb.cell (p := ⟨N, 1, none⟩) hNlt).trans b1⟩)
  have HUP := Lib.hid up
  have HW2 := Lib.hid hW2
  have HN := Lib.hid hN
  have HB0 := Lib.hid (Below.refl W2.heap.size W2)
  have HSH := Lib.hid (shelf_any As Ag ns cs ng cg lg W2 _ ((hg.up hB).hds))
  have HL0 := Lib.hid (light_any A0 n0 c0 W2)
  have HL1 := Lib.hid (light_any A1 n1 c1 W2)
  rw [h1] at HSH
  rw [decide_eq_true h2] at HL0
  rw [decide_eq_false h3] at HL1
  clear bx hB up hz hW2 _hs hg _hp _hq h1 h2 h3 HCE hNlt
  rw [hN]
  clear hN
  go_enter Try.func12, Try.ntmps12
  go_wp2_with fail
  rw [HW2.out, HN.out]
  go_wp2_with (first
    | (go_at_call 42; ((with_reducible refine HSH.out.mono ?_); rintro e V1 ⟨rfl, rfl⟩))
    | (go_at_call 43; ((with_reducible refine HL0.out.mono ?_); rintro e V1 ⟨rfl, rfl⟩))
    | (go_at_call 43; ((with_reducible refine HL1.out.mono ?_); rintro e V1 ⟨rfl, rfl⟩))
    | (go_at_call 35; refine (awake4_any _).mono ?_; rintro e Vz ⟨rfl, hBz⟩; have HBz := Lib.hid (below_then HB0.out hBz); clear hBz))
  go_ret
  exact ⟨rfl, by rw [← HN.out]; exact HUP.out _ HBz.out⟩

set_option maxRecDepth 100000 in
set_option maxHeartbeats 4000000 in
theorem kj_good (As Ag A0 A1 : Option Addr) (ns cs ng cg n0 c0 n1 c1 : Nat) (ss : Sg) (lg : List Hd) (gg : List (List Int)) (pp qq : List Stp) (w : World) (hs : SigAt w w.heap.size As ns ss) (hg : TermsAt w w.heap.size Ag ng lg gg) (hp : StepsAt w w.heap.size A0 n0 pp) (hq : StepsAt w w.heap.size A1 n1 qq) (h1 : (decide (ng ≤ 80) && smallOk ns lg) = true) (h2 : n0 ≤ 100) (h3 : n1 ≤ 100) :
    Calls Try.prog 12 #[.slice As ns cs, .slice Ag ng cg, .agg #[.slice A0 n0 c0, .slice A1 n1 c1]] w fun e w' => e = .returned (.bool true) ∧ Below w.heap.size w w' := by
  obtain ⟨N, hN⟩ : ∃ N, w.heap.size = N := ⟨_, rfl⟩
  obtain ⟨W2, hW2⟩ : ∃ W2, w.alloc (.cells #[.slice A0 n0 c0, .slice A1 n1 c1] 69) = W2 := ⟨_, rfl⟩
  have hB : Below w.heap.size w W2 := by rw [← hW2]; exact (Below.refl _ w).alloc (Nat.le_refl _) _
  have hz : W2.heap.size = N + 1 := by rw [← hW2]; simp [hN]
  have bx : Blk W2 w.heap.size 69 #[.slice A0 n0 c0, .slice A1 n1 c1] := by
    rw [← hW2]; exact Blk.new w _ _
  rw [hN] at bx
  have b0 : W2.cell? ⟨N, 0, none⟩ = some (.slice A0 n0 c0) := bx.cell 0
  have b1 : W2.cell? ⟨N, 1, none⟩ = some (.slice A1 n1 c1) := bx.cell 1
  have hNlt : N < W2.heap.size := by omega
  have up : ∀ V, Below W2.heap.size W2 V → Below w.heap.size w V := fun V hb => hB.trans (hb.mono hB.size)
  have HCE := Lib.hid (fun V' (hb : Below W2.heap.size W2 V') => show V'.cell? ⟨N, 0, none⟩ = some (.slice A0 n0 c0) ∧ V'.cell? ⟨N, 1, none⟩ = some (.slice A1 n1 c1) from
    ⟨(hb.cell (p := ⟨N, 0, none⟩) hNlt).trans b0, (hb.cell (p := ⟨N, 1, none⟩) hNlt).trans b1⟩)
  have HUP := Lib.hid up
  have HW2 := Lib.hid hW2
  have HN := Lib.hid hN
  have HB0 := Lib.hid (Below.refl W2.heap.size W2)
  have HSH := Lib.hid (shelf_any As Ag ns cs ng cg lg W2 _ ((hg.up hB).hds))
  have HL0 := Lib.hid (light_any A0 n0 c0 W2)
  have HL1 := Lib.hid (light_any A1 n1 c1 W2)
  rw [h1] at HSH
  rw [decide_eq_true h2] at HL0
  rw [decide_eq_true h3] at HL1
  have HS := Lib.hid (hs.up hB)
  have HG := Lib.hid (hg.up hB)
  have HP := Lib.hid (hp.up hB)
  have HQ := Lib.hid (hq.up hB)
  have hng : ng ≤ 80 := by simp only [Bool.and_eq_true, decide_eq_true_iff] at h1; exact h1.1
  have hlg := hg.len
  have HJ1 := Lib.hid (joined_any (ng : Int) A0 A1 n0 c0 n1 c1 pp qq W2 HP.out HQ.out)
  have HJ2 := Lib.hid (fun (V : World) (hb : Below W2.heap.size W2 V) => refJoined_any (ng : Int) A0 A1 n0 c0 n1 c1 pp qq V (HP.out.up hb) (HQ.out.up hb))
  have HSAY := joined_says (ss := ss) (gg := gg) (pp := pp) (qq := qq)
  rw [← hlg] at HSAY
  obtain ⟨Z, hZ⟩ : ∃ Z, jndZ (ng : Int) pp qq = Z := ⟨_, rfl⟩
  obtain ⟨zp, ze⟩ := Z
  rw [hZ] at HJ1 HJ2 HSAY
  simp only at HJ1 HJ2 HSAY
  have heq : (ze == ze) = true := by simp
  by_cases hze : ze = 0
  · subst hze
    have HSAY2 := HSAY rfl
    have HSA := Lib.hid (fun (V : World) (hb : Below W2.heap.size W2 V) => says_any As Ag A0 ns cs ng cg n0 c0 ss lg gg pp V (HS.out.up hb) (HG.out.up hb) (HP.out.up hb) (by omega))
    have HSB := Lib.hid (fun (V : World) (hb : Below W2.heap.size W2 V) => says_any As Ag A1 ns cs ng cg n1 c1 ss lg gg qq V (HS.out.up hb) (HG.out.up hb) (HQ.out.up hb) (by omega))
    have HSC := Lib.hid (fun (V : World) (hb : Below W2.heap.size W2 V) (A : Option Addr) (n c : Nat) (hq : StepsAt V V.heap.size A n zp) => says_any As Ag A ns cs ng cg n c ss lg gg zp V (HS.out.up hb) (HG.out.up hb) hq (by omega))
    obtain ⟨Ra, hRa⟩ : ∃ R, sayZ ss gg pp = R := ⟨_, rfl⟩
    obtain ⟨Rb, hRb⟩ : ∃ R, sayZ ss gg qq = R := ⟨_, rfl⟩
    obtain ⟨Ta, ea⟩ := Ra
    obtain ⟨Tb, eb⟩ := Rb
    rw [hRa] at HSA HSAY2
    rw [hRb] at HSB HSAY2
    simp only at HSA HSB HSAY2
    by_cases hea : ea = 0
    · by_cases heb : eb = 0
      · subst hea
        subst heb
        rw [HSAY2 rfl rfl] at HSC
        have HDE := Lib.hid (fun (V : World) (hb : Below W2.heap.size W2 V) (Am : Option Addr) (nm cm : Nat) (An : Option Addr) (nn cn : Nat) (hm : IntsAt V V.heap.size Am nm Ta) (hn : IntsAt V V.heap.size An nn Tb) (hc : nm ≤ cm ∧ cm ≤ 9223372036854775807) => kdetach_any As Am An ns cs nm cm nn cn ss Ta Tb V (HS.out.up hb) hm hn hc.1 hc.2)
        obtain ⟨Rd, hRd⟩ : ∃ R, detZ ss Ta Tb = R := ⟨_, rfl⟩
        rw [hRd] at HSC HDE
        obtain ⟨Td, ed⟩ := Rd
        simp only at HSC HDE
        have heqd : (ed == ed) = true := by simp
        clear bx hB up hz hW2 hs hg hp hq h1 h2 h3 hNlt hng hlg hZ HSAY HSAY2 hRa hRb hRd
        rw [hN]
        clear hN
        go_enter Try.func12, Try.ntmps12
        go_wp2_with fail
        rw [HW2.out, HN.out]
        go_wp2_with (first
          | (go_at_call 42; ((with_reducible refine HSH.out.mono ?_); rintro e V1 ⟨rfl, rfl⟩))
          | (go_at_call 43; ((with_reducible refine HL0.out.mono ?_); rintro e V1 ⟨rfl, rfl⟩))
          | (go_at_call 43; ((with_reducible refine HL1.out.mono ?_); rintro e V1 ⟨rfl, rfl⟩))
          | (go_at_call 49
             (with_reducible refine (HSC.out _ HB7.out _ _ _ HQ7.out).mono ?_)
             rintro e V8 ⟨A8, n8, c8, rfl, hI8, hk8, hB8⟩
             have HI8 := Lib.hid hI8
             have HI78 := Lib.hid (HI7.out.up hB8)
             have HB8 := Lib.hid (below_then HB7.out hB8)
             clear hI8 hk8 hB8)
          | (go_at_call 49
             (with_reducible refine (HSB.out _ HB5.out).mono ?_)
             rintro e V6 ⟨A6, n6, c6, rfl, hI6, hk6, hB6⟩
             have HI6 := Lib.hid hI6
             have HI56 := Lib.hid (HI5.out.up hB6)
             have HQ6 := Lib.hid (HQ5.out.up hB6)
             have HB6 := Lib.hid (below_then HB5.out hB6)
             clear hI6 hk6 hB6)
          | (go_at_call 49
             (with_reducible refine (HSA.out _ HB4.out).mono ?_)
             rintro e V5 ⟨A5, n5, c5, rfl, hI5, hk5, hB5⟩
             have HI5 := Lib.hid hI5
             have HK5 := Lib.hid hk5
             have HQ5 := Lib.hid (HQ4.out.up hB5)
             have HB5 := Lib.hid (below_then HB4.out hB5)
             obtain ⟨z0, z1⟩ := HCE.out _ HB5.out
             clear hI5 hk5 hB5)
          | (go_at_call 59
             (with_reducible refine HJ1.out.mono ?_)
             rintro e V2 ⟨A2, n2, c2, rfl, hQ2, hB2⟩
             have HQ2 := Lib.hid hQ2
             have HB2 := Lib.hid hB2
             obtain ⟨x0, x1⟩ := HCE.out _ hB2
             clear hQ2 hB2)
          | (go_at_call 60
             (with_reducible refine (HJ2.out _ HB2.out).mono ?_)
             rintro e V3 ⟨A3, n3, c3, rfl, hQ3, hB3⟩
             have HQ3 := Lib.hid hQ3
             have HQ23 := Lib.hid (HQ2.out.up hB3)
             have HB3 := Lib.hid (below_then HB2.out hB3)
             clear hQ3 hB3)
          | (go_at_call 58
             (with_reducible refine (sameSteps_self A2 A3 n2 c2 n3 c3 zp _ _ HQ23.out HQ3.out).mono ?_)
             rintro e V4 ⟨rfl, j4, hV4⟩
             have HB34 := Lib.hid (show Below V3.heap.size V3 V4 from by rw [hV4]; exact below_drewN (Below.refl _ _) j4)
             have HB4 := Lib.hid (below_then HB3.out HB34.out)
             have HQ4 := Lib.hid (HQ23.out.up HB34.out)
             obtain ⟨y0, y1⟩ := HCE.out _ HB4.out
             clear hV4)
          | (go_at_call 36
             (with_reducible refine (HDE.out _ HB6.out _ _ _ _ _ _ HI56.out HI6.out HK5.out).mono ?_)
             rintro e V7 ⟨A7, n7, c7, rfl, hI7, hk7, hB7⟩
             have HI7 := Lib.hid hI7
             have HQ7 := Lib.hid (HQ6.out.up hB7)
             have HB7 := Lib.hid (below_then HB6.out hB7)
             clear hI7 hk7 hB7)
          | (go_at_call 24
             (with_reducible refine (same_self A7 A8 n7 c7 n8 c8 Td _ _ HI78.out HI8.out).mono ?_)
             rintro e V9 ⟨rfl, j9, hV9⟩
             have HB9 := Lib.hid (show Below W2.heap.size W2 V9 from by rw [hV9]; exact below_drewN HB8.out j9)
             clear hV9)
          | (go_at_call 35; refine (awake4_any _).mono ?_; rintro e Vz ⟨rfl, hBz⟩; have HBz := Lib.hid (below_then HB9.out hBz); clear hBz))
        go_ret
        exact ⟨rfl, by rw [← HN.out]; exact HUP.out _ HBz.out⟩
      · have heb' : (eb == 0) = false := by simpa using heb
        have heb2 : (eb != 0) = true := by simpa using heb
        subst hea
        clear bx hB up hz hW2 hs hg hp hq h1 h2 h3 hNlt hng hlg hZ HSAY HSAY2 hRa hRb heb HSC
        rw [hN]
        clear hN
        go_enter Try.func12, Try.ntmps12
        go_wp2_with fail
        rw [HW2.out, HN.out]
        go_wp2_with (first
          | (go_at_call 42; ((with_reducible refine HSH.out.mono ?_); rintro e V1 ⟨rfl, rfl⟩))
          | (go_at_call 43; ((with_reducible refine HL0.out.mono ?_); rintro e V1 ⟨rfl, rfl⟩))
          | (go_at_call 43; ((with_reducible refine HL1.out.mono ?_); rintro e V1 ⟨rfl, rfl⟩))
          | (go_at_call 49
             (with_reducible refine (HSB.out _ HB5.out).mono ?_)
             rintro e V6 ⟨A6, n6, c6, rfl, hI6, hk6, hB6⟩
             have HI6 := Lib.hid hI6
             have HI56 := Lib.hid (HI5.out.up hB6)
             have HQ6 := Lib.hid (HQ5.out.up hB6)
             have HB6 := Lib.hid (below_then HB5.out hB6)
             clear hI6 hk6 hB6)
          | (go_at_call 49
             (with_reducible refine (HSA.out _ HB4.out).mono ?_)
             rintro e V5 ⟨A5, n5, c5, rfl, hI5, hk5, hB5⟩
             have HI5 := Lib.hid hI5
             have HK5 := Lib.hid hk5
             have HQ5 := Lib.hid (HQ4.out.up hB5)
             have HB5 := Lib.hid (below_then HB4.out hB5)
             obtain ⟨z0, z1⟩ := HCE.out _ HB5.out
             clear hI5 hk5 hB5)
          | (go_at_call 59
             (with_reducible refine HJ1.out.mono ?_)
             rintro e V2 ⟨A2, n2, c2, rfl, hQ2, hB2⟩
             have HQ2 := Lib.hid hQ2
             have HB2 := Lib.hid hB2
             obtain ⟨x0, x1⟩ := HCE.out _ hB2
             clear hQ2 hB2)
          | (go_at_call 60
             (with_reducible refine (HJ2.out _ HB2.out).mono ?_)
             rintro e V3 ⟨A3, n3, c3, rfl, hQ3, hB3⟩
             have HQ3 := Lib.hid hQ3
             have HQ23 := Lib.hid (HQ2.out.up hB3)
             have HB3 := Lib.hid (below_then HB2.out hB3)
             clear hQ3 hB3)
          | (go_at_call 58
             (with_reducible refine (sameSteps_self A2 A3 n2 c2 n3 c3 zp _ _ HQ23.out HQ3.out).mono ?_)
             rintro e V4 ⟨rfl, j4, hV4⟩
             have HB34 := Lib.hid (show Below V3.heap.size V3 V4 from by rw [hV4]; exact below_drewN (Below.refl _ _) j4)
             have HB4 := Lib.hid (below_then HB3.out HB34.out)
             have HQ4 := Lib.hid (HQ23.out.up HB34.out)
             obtain ⟨y0, y1⟩ := HCE.out _ HB4.out
             clear hV4)
          | (go_at_call 35; refine (awake4_any _).mono ?_; rintro e Vz ⟨rfl, hBz⟩; have HBz := Lib.hid (below_then HB6.out hBz); clear hBz))
        go_ret
        exact ⟨rfl, by rw [← HN.out]; exact HUP.out _ HBz.out⟩
    · have hea' : (ea == 0) = false := by simpa using hea
      have hea2 : (ea != 0) = true := by simpa using hea
      clear bx hB up hz hW2 hs hg hp hq h1 h2 h3 hNlt hng hlg hZ HSAY HSAY2 hRa hRb hea HSC
      rw [hN]
      clear hN
      go_enter Try.func12, Try.ntmps12
      go_wp2_with fail
      rw [HW2.out, HN.out]
      go_wp2_with (first
        | (go_at_call 42; ((with_reducible refine HSH.out.mono ?_); rintro e V1 ⟨rfl, rfl⟩))
        | (go_at_call 43; ((with_reducible refine HL0.out.mono ?_); rintro e V1 ⟨rfl, rfl⟩))
        | (go_at_call 43; ((with_reducible refine HL1.out.mono ?_); rintro e V1 ⟨rfl, rfl⟩))
        | (go_at_call 49
           (with_reducible refine (HSB.out _ HB5.out).mono ?_)
           rintro e V6 ⟨A6, n6, c6, rfl, hI6, hk6, hB6⟩
           have HI6 := Lib.hid hI6
           have HI56 := Lib.hid (HI5.out.up hB6)
           have HQ6 := Lib.hid (HQ5.out.up hB6)
           have HB6 := Lib.hid (below_then HB5.out hB6)
           clear hI6 hk6 hB6)
        | (go_at_call 49
           (with_reducible refine (HSA.out _ HB4.out).mono ?_)
           rintro e V5 ⟨A5, n5, c5, rfl, hI5, hk5, hB5⟩
           have HI5 := Lib.hid hI5
           have HK5 := Lib.hid hk5
           have HQ5 := Lib.hid (HQ4.out.up hB5)
           have HB5 := Lib.hid (below_then HB4.out hB5)
           obtain ⟨z0, z1⟩ := HCE.out _ HB5.out
           clear hI5 hk5 hB5)
        | (go_at_call 59
           (with_reducible refine HJ1.out.mono ?_)
           rintro e V2 ⟨A2, n2, c2, rfl, hQ2, hB2⟩
           have HQ2 := Lib.hid hQ2
           have HB2 := Lib.hid hB2
           obtain ⟨x0, x1⟩ := HCE.out _ hB2
           clear hQ2 hB2)
        | (go_at_call 60
           (with_reducible refine (HJ2.out _ HB2.out).mono ?_)
           rintro e V3 ⟨A3, n3, c3, rfl, hQ3, hB3⟩
           have HQ3 := Lib.hid hQ3
           have HQ23 := Lib.hid (HQ2.out.up hB3)
           have HB3 := Lib.hid (below_then HB2.out hB3)
           clear hQ3 hB3)
        | (go_at_call 58
           (with_reducible refine (sameSteps_self A2 A3 n2 c2 n3 c3 zp _ _ HQ23.out HQ3.out).mono ?_)
           rintro e V4 ⟨rfl, j4, hV4⟩
           have HB34 := Lib.hid (show Below V3.heap.size V3 V4 from by rw [hV4]; exact below_drewN (Below.refl _ _) j4)
           have HB4 := Lib.hid (below_then HB3.out HB34.out)
           have HQ4 := Lib.hid (HQ23.out.up HB34.out)
           obtain ⟨y0, y1⟩ := HCE.out _ HB4.out
           clear hV4)
        | (go_at_call 35; refine (awake4_any _).mono ?_; rintro e Vz ⟨rfl, hBz⟩; have HBz := Lib.hid (below_then HB6.out hBz); clear hBz))
      go_ret
      exact ⟨rfl, by rw [← HN.out]; exact HUP.out _ HBz.out⟩
  · have hze' : (ze != 0) = true := by simpa using hze
    have hze2 : (ze == 0) = false := by simpa using hze
    clear bx hB up hz hW2 hs hg hp hq h1 h2 h3 hNlt hng hlg hZ HSAY hze
    rw [hN]
    clear hN
    go_enter Try.func12, Try.ntmps12
    go_wp2_with fail
    rw [HW2.out, HN.out]
    go_wp2_with (first
      | (go_at_call 42; ((with_reducible refine HSH.out.mono ?_); rintro e V1 ⟨rfl, rfl⟩))
      | (go_at_call 43; ((with_reducible refine HL0.out.mono ?_); rintro e V1 ⟨rfl, rfl⟩))
      | (go_at_call 43; ((with_reducible refine HL1.out.mono ?_); rintro e V1 ⟨rfl, rfl⟩))
      | (go_at_call 59
         (with_reducible refine HJ1.out.mono ?_)
         rintro e V2 ⟨A2, n2, c2, rfl, hQ2, hB2⟩
         have HQ2 := Lib.hid hQ2
         have HB2 := Lib.hid hB2
         obtain ⟨x0, x1⟩ := HCE.out _ hB2
         clear hQ2 hB2)
      | (go_at_call 60
         (with_reducible refine (HJ2.out _ HB2.out).mono ?_)
         rintro e V3 ⟨A3, n3, c3, rfl, hQ3, hB3⟩
         have HQ3 := Lib.hid hQ3
         have HQ23 := Lib.hid (HQ2.out.up hB3)
         have HB3 := Lib.hid (below_then HB2.out hB3)
         clear hQ3 hB3)
      | (go_at_call 58
         (with_reducible refine (sameSteps_self A2 A3 n2 c2 n3 c3 zp _ _ HQ23.out HQ3.out).mono ?_)
         rintro e V4 ⟨rfl, j4, hV4⟩
         have HB34 := Lib.hid (show Below V3.heap.size V3 V4 from by rw [hV4]; exact below_drewN (Below.refl _ _) j4)
         have HB4 := Lib.hid (below_then HB3.out HB34.out)
         have HQ4 := Lib.hid (HQ23.out.up HB34.out)
         obtain ⟨y0, y1⟩ := HCE.out _ HB4.out
         clear hV4)
      | (go_at_call 35; refine (awake4_any _).mono ?_; rintro e Vz ⟨rfl, hBz⟩; have HBz := Lib.hid (below_then HB4.out hBz); clear hBz))
    go_ret
    exact ⟨rfl, by rw [← HN.out]; exact HUP.out _ HBz.out⟩

theorem kj_walk (As Ag A0 A1 : Option Addr) (ns cs ng cg n0 c0 n1 c1 : Nat) (ss : Sg) (lg : List Hd) (gg : List (List Int)) (pp qq : List Stp) (w : World) (hs : SigAt w w.heap.size As ns ss) (hg : TermsAt w w.heap.size Ag ng lg gg) (hp : StepsAt w w.heap.size A0 n0 pp) (hq : StepsAt w w.heap.size A1 n1 qq) :
    Calls Try.prog 12 #[.slice As ns cs, .slice Ag ng cg, .agg #[.slice A0 n0 c0, .slice A1 n1 c1]] w fun e w' => e = .returned (.bool true) ∧ Below w.heap.size w w' := by
  cases h1 : (decide (ng ≤ 80) && smallOk ns lg)
  · exact kj_shelf As Ag A0 A1 ns cs ng cg n0 c0 n1 c1 ss lg gg pp qq w hs hg hp hq h1
  · by_cases h2 : n0 ≤ 100
    · by_cases h3 : n1 ≤ 100
      · exact kj_good As Ag A0 A1 ns cs ng cg n0 c0 n1 c1 ss lg gg pp qq w hs hg hp hq h1 h2 h3
      · exact kj_light1 As Ag A0 A1 ns cs ng cg n0 c0 n1 c1 ss lg gg pp qq w hs hg hp hq h1 h2 h3
    · exact kj_light As Ag A0 A1 ns cs ng cg n0 c0 n1 c1 ss lg gg pp qq w hs hg hp hq h1 h2

end Go.Proofs.Ytapcdhagkbfccaa
