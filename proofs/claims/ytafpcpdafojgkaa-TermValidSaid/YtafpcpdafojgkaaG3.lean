/- Contracts: slices.Index[[]int], slices.Contains[[]int]. -/
import Derived.Test.YtafpcpdafojgkaaQ2
namespace Go.Proofs.Ytafpcpdafojgkaa
open Go.RowKit

set_option maxHeartbeats 1000000 in
theorem index_any (A : Option Addr) (n c : Nat) (xs : List Int) (z : Int) (w : World) (B : Nat) (hx : IntsAt w B A n xs) :
    Calls Try.prog 105 #[.slice A n c, .int .i64 z] w fun e w' => (∃ i : Int, e = .returned (.int .i64 i) ∧ decide ((0 : Int) ≤ i) = xs.contains z) ∧ w = w' := by
  have HLX := Lib.hid hx.len
  have hmx := hx.max
  have HX := Lib.hid hx
  obtain ⟨qb, hqb⟩ : ∃ qb, xs.contains z = qb := ⟨_, rfl⟩
  rw [hqb]
  have HQ := Lib.hid hqb
  clear hx hqb
  go_enter Try.func105, Try.ntmps105
  go_wp2
  go_loop [8] (fun i => ∃ k : Nat, k ≤ n ∧ i = .int .i64 k ∧ NotIn xs z k) (fun i => n - (intOf i).toNat)
  case atStart => exact ⟨0, Nat.zero_le _, rfl, fun _ _ h => absurd h (by omega)⟩
  case round =>
    obtain ⟨k, hk, rfl, hA⟩ := hrel
    by_cases hlt : k < n
    · obtain ⟨b, off, y, rfl, c1, k1, e1⟩ := HX.out.cellAt hlt
      by_cases e : y = z
      · have H := Lib.hid (show qb = true by rw [← HQ.out, List.contains_iff_mem, ← e, ← e1]; exact List.getElem_mem k1)
        have he : (z == y) = true := by simp [e]
        clear e e1 hA
        go_wp2
        go_ret
        exact ⟨⟨(k : Int), rfl, by rw [H.out]; exact decide_eq_true (by omega)⟩, rfl⟩
      · have H : Hid (NotIn xs z (k + 1)) := by
          intro j hj hlt2
          by_cases hjk : j < k
          · exact hA j hj hjk
          · obtain rfl : j = k := by omega
            rw [e1]; exact e
        have he : (z == y) = false := by simp; exact fun h => e h.symm
        clear e e1 hA
        go_wp2
        go_round
        case rel => exact ⟨k + 1, by omega, by go_num, H.out⟩
        case measure => simp [intOf]; omega
    · obtain rfl : k = n := by omega
      have H := Lib.hid (show qb = false by rw [← HQ.out]; exact NotIn.all (by rw [← HLX.out]; exact hA))
      clear hA
      go_wp2
      go_ret
      exact ⟨⟨-1, rfl, by rw [H.out]; rfl⟩, rfl⟩

set_option maxHeartbeats 400000 in
theorem contains_any (A : Option Addr) (n c : Nat) (xs : List Int) (z : Int) (w : World) (B : Nat) (hx : IntsAt w B A n xs) :
    Calls Try.prog 66 #[.slice A n c, .int .i64 z] w fun e w' => e = .returned (.bool (xs.contains z)) ∧ w = w' := by
  have C := Lib.hid (index_any A n c xs z w B hx)
  obtain ⟨qb, hqb⟩ : ∃ qb, xs.contains z = qb := ⟨_, rfl⟩
  rw [hqb] at C ⊢
  clear hx hqb
  go_enter Try.func66, Try.ntmps66
  go_wp2_with (go_at_call 105; refine C.out.mono ?_; rintro e w' ⟨⟨i, rfl, hi⟩, rfl⟩; have HI := Lib.hid hi; clear hi)
  go_ret
  exact ⟨ret_b HI.out, rfl⟩

end Go.Proofs.Ytafpcpdafojgkaa
