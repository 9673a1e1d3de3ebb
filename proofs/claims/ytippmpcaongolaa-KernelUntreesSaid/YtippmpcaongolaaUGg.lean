/- The walk of KernelUntrees. -/
import Derived.Test.YtippmpcaongolaaUEg
import Derived.Test.YtippmpcaongolaaUDg
import Derived.Test.YtippmpcaongolaaTCg
import Derived.Test.YtippmpcaongolaaPYg
import Derived.Test.YtippmpcaongolaaQGg
/- Contract: the reference's Untree at any arguments hands back what the program's does. -/
namespace Go.Proofs.Ytippmpcaongolaa
open Go.RowKit

theorem zR_is {g : Int} {r : ByteArray} (hg : 0 ≤ g ∧ g ≤ 60) (hs : ¬ 65536 < r.size) : zR (mach g r.size [] [] r.data.toList) = untreeZ g r.data.toList := by
  rw [← machZ_is]
  unfold machZ
  rw [if_neg (fun h => h hg), if_neg (by rw [bytes_len]; exact hs), bytes_len]
  rfl
set_option maxRecDepth 100000 in
set_option maxHeartbeats 2000000 in
theorem refUntree_any (g : Int) (r : ByteArray) (w : World) (hr : r.size ≤ maxLen) :
    Calls Try.prog 57 #[.int .i64 g, .string r] w (RetS w (untreeZ g r.data.toList).1 (untreeZ g r.data.toList).2) := by
  unfold maxLen at hr
  have CN := Lib.hid (isCount4_any g)
  by_cases h1 : 0 ≤ g ∧ g ≤ 60
  · by_cases h2 : 65536 < r.size
    · have hz : untreeZ g r.data.toList = ([], 3) := by unfold untreeZ; rw [if_neg (fun h => h h1), if_pos (by rw [bytes_len]; exact h2)]
      rw [hz]
      rw [decide_eq_true h1] at CN
      have h2' : (65536 : Int) < (r.size : Int) := by omega
      clear hz h1 h2
      go_enter Try.func57, Try.ntmps57
      go_wp2_with (go_at_call 96; ((with_reducible refine (CN.out _).mono ?_); rintro e w1 ⟨rfl, rfl⟩))
      go_ret2
      exact ⟨none, 0, 0, rfl, StepsAt.nil _ _ _, Below.refl _ _⟩
    · have h := refUntree_loop g r w h1 (by omega)
      rw [zR_is h1 h2] at h
      exact h
  · have hz : untreeZ g r.data.toList = ([], 1) := by unfold untreeZ; rw [if_pos h1]
    rw [hz]
    rw [decide_eq_false h1] at CN
    clear hz h1
    go_enter Try.func57, Try.ntmps57
    go_wp2_with (go_at_call 96; ((with_reducible refine (CN.out _).mono ?_); rintro e w1 ⟨rfl, rfl⟩))
    go_ret2
    exact ⟨none, 0, 0, rfl, StepsAt.nil _ _ _, Below.refl _ _⟩

end Go.Proofs.Ytippmpcaongolaa

namespace Go.Proofs.Ytippmpcaongolaa
open Go.RowKit

set_option maxRecDepth 100000 in
set_option maxHeartbeats 4000000 in
theorem ku_walk (g : Int) (r : ByteArray) (w : World) (hr : r.size ≤ maxLen) :
    Calls Try.prog 10 #[.int .i64 g, .string r] w fun e w' => e = .returned (.bool true) ∧ Below w.heap.size w w' := by
  have HU1 := Lib.hid (untree_any g r w hr)
  have HU2 := Lib.hid (fun V => refUntree_any g r V hr)
  by_cases he : (untreeZ g r.data.toList).2 = 0
  · have HT := Lib.hid (fun V A n c (h : StepsAt V V.heap.size A n (untreeZ g r.data.toList).1) => show Calls Try.prog 51 #[.int .i64 g, .slice A n c] V (fun e w' => e = .returned (.tuple #[.string r, .int .i64 0]) ∧ Below V.heap.size V w') from by
      have h2 := tree_any g A n c _ V h
      rw [tree_untree he] at h2
      exact h2.mono fun e w' h3 => ⟨h3.1.trans (by simp), h3.2⟩)
    obtain ⟨Z, hZ⟩ : ∃ Z, untreeZ g r.data.toList = Z := ⟨_, rfl⟩
    rw [hZ] at HU1 HU2 HT he
    obtain ⟨P, es⟩ := Z
    simp only at he HU1 HU2 HT
    subst he
    clear hZ hr
    go_enter Try.func10, Try.ntmps10
    go_wp2_with (first
      | (go_at_call 53
         (with_reducible refine HU1.out.mono ?_)
         rintro e V2 ⟨A2, n2, c2, rfl, hS2, hB2⟩
         have HS2 := Lib.hid hS2
         have HB2 := Lib.hid hB2
         clear hS2 hB2)
      | (go_at_call 57
         (with_reducible refine (HU2.out _).mono ?_)
         rintro e V3 ⟨A3, n3, c3, rfl, hS3, hB3⟩
         have HS3 := Lib.hid hS3
         have HS23 := Lib.hid (HS2.out.up hB3)
         have HB3 := Lib.hid (below_then HB2.out hB3)
         clear hS3 hB3)
      | (go_at_call 58
         (with_reducible refine (sameSteps_self A2 A3 n2 c2 n3 c3 P _ _ HS23.out HS3.out).mono ?_)
         rintro e V4 ⟨rfl, j4, hV4⟩
         have HS4 := Lib.hid (show StepsAt V4 V4.heap.size A2 n2 P from by rw [hV4]; exact HS23.out.up (below_drewN (Below.refl _ _) j4))
         have HB4 := Lib.hid (show Below w.heap.size w V4 from by rw [hV4]; exact below_drewN HB3.out j4)
         clear hV4)
      | (go_at_call 51
         (with_reducible refine (HT.out _ _ _ _ HS4.out).mono ?_)
         rintro e V5 ⟨rfl, hB5⟩
         have HB5 := Lib.hid (below_then HB4.out hB5)
         clear hB5)
      | (go_at_call 35; refine (awake4_any _).mono ?_; rintro e Vz ⟨rfl, hBz⟩; have HBz := Lib.hid (below_then HB5.out hBz); clear hBz))
    go_ret
    exact ⟨rfl, HBz.out⟩
  · obtain ⟨Z, hZ⟩ : ∃ Z, untreeZ g r.data.toList = Z := ⟨_, rfl⟩
    rw [hZ] at HU1 HU2 he
    obtain ⟨P, es⟩ := Z
    simp only at he HU1 HU2
    have hx0 : (es != 0) = true := by simp [he]
    have hx1 : (es != es) = false := by simp
    clear hZ hr
    go_enter Try.func10, Try.ntmps10
    go_wp2_with (first
      | (go_at_call 53
         (with_reducible refine HU1.out.mono ?_)
         rintro e V2 ⟨A2, n2, c2, rfl, hS2, hB2⟩
         have HS2 := Lib.hid hS2
         have HB2 := Lib.hid hB2
         clear hS2 hB2)
      | (go_at_call 57
         (with_reducible refine (HU2.out _).mono ?_)
         rintro e V3 ⟨A3, n3, c3, rfl, hS3, hB3⟩
         have HS3 := Lib.hid hS3
         have HS23 := Lib.hid (HS2.out.up hB3)
         have HB3 := Lib.hid (below_then HB2.out hB3)
         clear hS3 hB3)
      | (go_at_call 58
         (with_reducible refine (sameSteps_self A2 A3 n2 c2 n3 c3 P _ _ HS23.out HS3.out).mono ?_)
         rintro e V4 ⟨rfl, j4, hV4⟩
         have HB4 := Lib.hid (show Below w.heap.size w V4 from by rw [hV4]; exact below_drewN HB3.out j4)
         clear hV4)
      | (go_at_call 35; refine (awake4_any _).mono ?_; rintro e Vz ⟨rfl, hBz⟩; have HBz := Lib.hid (below_then HB4.out hBz); clear hBz))
    go_ret
    exact ⟨rfl, HBz.out⟩

end Go.Proofs.Ytippmpcaongolaa
