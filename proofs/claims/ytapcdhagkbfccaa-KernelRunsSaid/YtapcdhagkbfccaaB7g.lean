/- Contract: the reference's SameTerms, of equal lists; the arguments of a valid term. -/
import Derived.Test.YtapcdhagkbfccaaB0g
import Derived.Test.YtapcdhagkbfccaaA2g
import Derived.Test.YtapcdhagkbfccaaP4g
import Derived.Test.YtapcdhagkbfccaaW0g
import Derived.Deep.QuietTactic
import Derived.BigQuiet
/- Contract: the reference's Args. -/
namespace Go.Proofs.Ytapcdhagkbfccaa
open Go.RowKit

theorem TermsAt.nil (w : World) (B : Nat) : TermsAt w B none 0 [] [] := ⟨⟨rfl, by omega, fun h => absurd h (by omega)⟩, rfl, fun j hj => by simp at hj⟩

end Go.Proofs.Ytapcdhagkbfccaa

/- Contract: Args. -/
namespace Go.Proofs.Ytapcdhagkbfccaa
open Go.RowKit

section
variable {ss : Sg} {zs : List Int} {bt offt r k : Nat} {ls : List Hd}
end

end Go.Proofs.Ytapcdhagkbfccaa

namespace Go.Proofs.Ytapcdhagkbfccaa
open Go.RowKit

theorem quiet_draw {P : Program} {f : FuncId} {args : Array Value} {w : World} {n : Nat} {v : Value}
    (h : Calls P f args (w.drewN n) fun e w' => e = .returned v ∧ ∃ k, w' = (w.drewN n).drewN k) : Calls P f args (w.drewN n) fun e w' => e = .returned v ∧ ∃ m, w' = w.drewN m :=
  h.mono fun _ _ ⟨he, k, hm⟩ => ⟨he, n + k, by rw [hm, World.drewN_drewN]⟩

set_option maxRecDepth 100000 in
set_option maxHeartbeats 1000000 in
theorem sameTerms_self (A A2 : Option Addr) (n c n2 c2 : Nat) (ls ls2 : List Hd) (tt : List (List Int)) (w : World) (B : Nat) (hx : TermsAt w B A n ls tt) (hy : TermsAt w B A2 n2 ls2 tt) (htt : tt.length ≤ 1000000) :
    Calls Try.prog 46 #[.slice A n c, .slice A2 n2 c2] w fun e w' => e = .returned (.bool true) ∧ ∃ k, w' = w.drewN k := by
  have hlx := hx.len
  have hly := hy.len
  obtain rfl : n = n2 := by omega
  have hn : n ≤ 1000000 := by omega
  have hb : ((n : Int) != (n : Int)) = false := by simp
  have HX := Lib.hid (fun m => show TermsAt (w.drewN m) B A n ls tt from hx.keep fun _ _ => rfl)
  have HY := Lib.hid (fun m => show TermsAt (w.drewN m) B A2 n ls2 tt from hy.keep fun _ _ => rfl)
  clear hx hy hlx hly htt
  go_enter Try.func46, Try.ntmps46
  go_wp2
  go_loopw [5] (fun i wr => ∃ k : Nat, k ≤ n ∧ i = .int .i64 k ∧ ∃ m, wr = w.drewN m) (fun i _ => n - (intOf i).toNat)
  case atStart => exact ⟨0, Nat.zero_le _, rfl, 0, rfl⟩
  case round =>
    obtain ⟨k, hk, rfl, m, hm⟩ := hrel
    by_cases hlt : k < n
    · obtain ⟨b, off, A', n', c', t, rfl, _, q1, q2, hI⟩ := (HX.out m).cellAt hlt
      obtain ⟨b2, off2, A2', n2', c2', t2, rfl, _, q3, q4, hI2⟩ := (HY.out m).cellAt hlt
      rw [q2] at q4
      obtain rfl := Option.some.inj q4
      rw [← hm] at q1 q3 hI hI2
      have CS := Lib.hid (fun nq => same_self A' A2' n' c' n2' c2' t (wr.drewN nq) B (hI.keep fun _ _ => rfl) (hI2.keep fun _ _ => rfl))
      have HM := Lib.hid hm
      have hk0 : (0 : Int) ≤ (k : Int) := by omega
      have hk1 : (k : Int) < (n : Int) := by omega
      clear q2 q4 hI hI2 hm
      go_wp2_with fail
      go_quiet ((go_at_call 24; with_reducible exact quiet_draw (CS.out _)))
      go_wp2
      go_roundw
      case rel => exact ⟨k + 1, by omega, by go_num, by rw [HM.out]; exact ⟨_, World.drewN_drewN ..⟩⟩
      case measure => simp [intOf]; omega
    · obtain rfl : k = n := by omega
      go_wp2
      go_ret
      exact ⟨rfl, m, rfl⟩

end Go.Proofs.Ytapcdhagkbfccaa
