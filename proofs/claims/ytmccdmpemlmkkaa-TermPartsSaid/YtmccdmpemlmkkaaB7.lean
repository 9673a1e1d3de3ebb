/- Contract: the reference's SameTerms, of equal lists; the arguments of a valid term. -/
import Derived.Test.YtmccdmpemlmkkaaB6
import Derived.Test.YtmccdmpemlmkkaaU1
import Derived.Deep.QuietTactic
import Derived.BigQuiet
namespace Go.Proofs.Ytmccdmpemlmkkaa
open Go.RowKit

theorem quiet_draw {P : Program} {f : FuncId} {args : Array Value} {w : World} {n : Nat} {v : Value}
    (h : Calls P f args (w.drewN n) fun e w' => e = .returned v ∧ ∃ k, w' = (w.drewN n).drewN k) : Calls P f args (w.drewN n) fun e w' => e = .returned v ∧ ∃ m, w' = w.drewN m :=
  h.mono fun _ _ ⟨he, k, hm⟩ => ⟨he, n + k, by rw [hm, World.drewN_drewN]⟩

set_option maxRecDepth 100000 in
set_option maxHeartbeats 1000000 in
theorem sameTerms_self (A A2 : Option Addr) (n c n2 c2 : Nat) (ls ls2 : List Hd) (tt : List (List Int)) (w : World) (B : Nat) (hx : TermsAt w B A n ls tt) (hy : TermsAt w B A2 n2 ls2 tt) (htt : tt.length ≤ 1000000) :
    Calls Try.prog 25 #[.slice A n c, .slice A2 n2 c2] w fun e w' => e = .returned (.bool true) ∧ ∃ k, w' = w.drewN k := by
  have hlx := hx.len
  have hly := hy.len
  obtain rfl : n = n2 := by omega
  have hn : n ≤ 1000000 := by omega
  have hb : ((n : Int) != (n : Int)) = false := by simp
  have HX := Lib.hid (fun m => show TermsAt (w.drewN m) B A n ls tt from hx.keep fun _ _ => rfl)
  have HY := Lib.hid (fun m => show TermsAt (w.drewN m) B A2 n ls2 tt from hy.keep fun _ _ => rfl)
  clear hx hy hlx hly htt
  go_enter Try.func25, Try.ntmps25
  go_wp2
  go_loopw [5] (fun i wr => ∃ k : Nat, k ≤ n ∧ i = .int .i64 k ∧ ∃ m, wr = w.drewN m) (fun i _ => n - (intOf i).toNat)
  case atStart => exact ⟨0, Nat.zero_le _, rfl, 0, rfl⟩
  case round =>
    obtain ⟨k, hk, rfl, m, hm⟩ := hrel
    by_cases hlt : k < n
    · obtain ⟨b, off, A', n', c', t, rfl, _, q1, q2, hI⟩ := (HX.out m).cellAt hlt
      obtain ⟨b2, off2, A2', n2', c2', t2, rfl, _, q3, q4, hI2⟩ := (HY.out m).cellAt hlt
      rw [q2] at q4
      obtain rfl := Option.some.inj q4
      rw [← hm] at q1 q3 hI hI2
      have CS := Lib.hid (fun nq => same_self A' A2' n' c' n2' c2' t (wr.drewN nq) B (hI.keep fun _ _ => rfl) (hI2.keep fun _ _ => rfl))
      have HM := Lib.hid hm
      have hk0 : (0 : Int) ≤ (k : Int) := by omega
      have hk1 : (k : Int) < (n : Int) := by omega
      clear q2 q4 hI hI2 hm
      go_wp2_with fail
      go_quiet ((go_at_call 27; with_reducible exact quiet_draw (CS.out _)))
      go_wp2
      go_roundw
      case rel => exact ⟨k + 1, by omega, by go_num, by rw [HM.out]; exact ⟨_, World.drewN_drewN ..⟩⟩
      case measure => simp [intOf]; omega
    · obtain rfl : k = n := by omega
      go_wp2
      go_ret
      exact ⟨rfl, m, rfl⟩

/-- The arguments of a valid term, put behind its symbol, are the term. -/
theorem argsTo_flat {ss : Sg} {zs : List Int} {r : Nat} (h : scan ss r (zs.drop 1) = some []) (hl : 1 ≤ zs.length) : ∀ k, k ≤ r → (argsTo ss zs k).flatten = (zs.drop 1).take (pos ss zs k - 1) := by
  intro k
  induction k with
  | zero => intro _; rw [pos_zero ss hl]; simp [argsTo]
  | succ k ih =>
    intro hk
    obtain ⟨_, a2, a3⟩ := pos_scan h hl (Nat.le_of_succ_le hk)
    obtain ⟨_, b2, b3⟩ := pos_scan h hl hk
    obtain ⟨_, c2, _⟩ := pos_step h hl hk
    rw [argsTo_succ, List.flatten_append, ih (by omega)]
    simp only [List.flatten_cons, List.flatten_nil, List.append_nil]
    unfold argL
    have e1 : zs.drop (pos ss zs k) = (zs.drop 1).drop (pos ss zs k - 1) := by rw [List.drop_drop]; congr 1; omega
    rw [e1, show pos ss zs (k + 1) - 1 = (pos ss zs k - 1) + (pos ss zs (k + 1) - pos ss zs k) from by omega, List.take_add]
theorem argsTo_ok {ss : Sg} {zs : List Int} {r : Nat} (hv : valOk ss zs = true) (h : scan ss r (zs.drop 1) = some []) : (argsTo ss zs r).all (termOk ss) = true := by
  obtain ⟨h1, h60, hnum, _⟩ := valOk_term hv
  rw [List.all_eq_true]
  intro x hx
  unfold argsTo at hx
  obtain ⟨k, hk, rfl⟩ := List.mem_map.1 hx
  rw [List.mem_range] at hk
  obtain ⟨a1, a2⟩ := argL_ok h h1 hk
  obtain ⟨_, c2, _⟩ := pos_step h h1 hk
  obtain ⟨_, b2, b3⟩ := pos_scan h h1 (show k + 1 ≤ r from hk)
  simp only [termOk, Bool.and_eq_true, decide_eq_true_eq, List.all_eq_true, numOk]
  exact ⟨by omega, by omega, fun z hz => hnum z (List.mem_of_mem_drop (List.mem_of_mem_take hz)), a1⟩
theorem built_args {ss : Sg} {zs : List Int} (hv : valOk ss zs = true) (h0 : 0 < zs.length) (hz : 0 ≤ zs[0]) : builtR ss zs[0] (argsL ss zs) = (zs, 0) := by
  obtain ⟨h1, h60, hnum, hscan⟩ := valOk_term hv
  have hhd : zs.headD 0 = zs[0] := by cases zs with
    | nil => simp at h0
    | cons z r => rfl
  have hrest := scan_head hscan h0
  have hok := argsTo_ok hv hrest
  have hfl := argsTo_flat hrest h1 _ (Nat.le_refl _)
  obtain ⟨d1, d2, d3⟩ := pos_scan hrest h1 (Nat.le_refl _)
  rw [hrest] at d1
  have e : pos ss zs (arOf ss zs[0]) = zs.length := by
    have := congrArg List.length (Option.some.inj d1)
    simp only [List.length_nil, List.length_drop] at this
    omega
  rw [e, List.take_of_length_le (by rw [List.length_drop]; omega)] at hfl
  have hall : zs[0] :: (argsTo ss zs (arOf ss zs[0])).flatten = zs := by
    rw [hfl]
    cases zs with
    | nil => simp at h0
    | cons z r => rfl
  have hzl := (hnum _ (List.getElem_mem h0)).2
  unfold argsL
  rw [hhd, builtR_good (by simp [valOk_sig hv, hok]) (by omega) (by simp [argsTo]) (by rw [hall]; omega), hall]

end Go.Proofs.Ytmccdmpemlmkkaa
