/- Contracts: slices.Max at ints, Times. -/
import Derived.Test.YtojofbmpknpggaaVMg
import Derived.Test.YtojofbmpknpggaaPJg
namespace Go.Proofs.Ytojofbmpknpggaa
open Go.RowKit

def maxF : List Int → Int → Int
  | [], m => m
  | x :: l, m => maxF l (max m x)
def maxK (l : List Int) (k : Nat) : Int := maxF ((l.take k).drop 1) (l.getD 0 0)
theorem maxF_snoc : ∀ (l : List Int) (x m : Int), maxF (l ++ [x]) m = max (maxF l m) x
  | [], _, _ => rfl
  | y :: l, x, m => by rw [List.cons_append, maxF, maxF, maxF_snoc l]
theorem maxK_one (l : List Int) : maxK l 1 = l.getD 0 0 := by
  unfold maxK
  cases l <;> rfl
theorem maxK_succ {l : List Int} {k : Nat} (h1 : 1 ≤ k) (hk : k < l.length) : maxK l (k + 1) = max (maxK l k) l[k] := by
  unfold maxK
  rw [List.take_add_one, List.getElem?_eq_getElem hk, Option.toList_some, List.drop_append_of_le_length (by rw [List.length_take]; omega), maxF_snoc]
set_option maxRecDepth 100000 in
set_option maxHeartbeats 1000000 in
theorem maxI_any (A : Option Addr) (n c : Nat) (xs : List Int) (w : World) (B : Nat) (hx : IntsAt w B A n xs) (h1 : 1 ≤ n) (h9 : n ≤ 1000) :
    Calls Try.prog 26 #[.slice A n c] w fun e w' => e = .returned (.int .i64 (maxK xs xs.length)) ∧ w = w' := by
  obtain ⟨b, off, rfl, _, hc⟩ := hx.mem (by omega)
  have hl := hx.len
  have HC := Lib.hid hc
  have HL := Lib.hid hl
  have c0 := hc 0 (by omega)
  rw [Nat.add_zero] at c0
  have h1i : (1 : Int) ≤ (n : Int) := by omega
  have HM1 := Lib.hid (show maxK xs 1 = xs[0]'(by omega) from by rw [maxK_one, List.getD_eq_getElem?_getD, List.getElem?_eq_getElem (by omega)]; rfl)
  obtain ⟨m1, hm1⟩ : ∃ m1, xs[0]'(by omega) = m1 := ⟨_, rfl⟩
  rw [hm1] at c0 HM1
  clear hx hc hl hm1
  go_enter Try.func26, Try.ntmps26
  go_wp2_with fail
  go_loopw [3, 4] (fun v i wr => ∃ k : Nat, 1 ≤ k ∧ k ≤ n ∧ i = .int .i64 k ∧ v = .int .i64 (maxK xs k) ∧ wr = w) (fun _ i _ => n - (intOf i).toNat)
  case atStart => exact ⟨1, Nat.le_refl _, h1, by go_num, by rw [HM1.out], by trivial⟩
  case round =>
    obtain ⟨k, hk1, hk, rfl, rfl, rfl⟩ := hrel
    by_cases hlt : k < n
    · have hkl : k < xs.length := by have := HL.out; omega
      have ck := HC.out k hkl
      have hs := maxK_succ hk1 hkl
      have hk0 : (0 : Int) ≤ (k : Int) := by omega
      have hk2 : (k : Int) < (n : Int) := by omega
      obtain ⟨v, hv⟩ : ∃ v, xs[k] = v := ⟨_, rfl⟩
      rw [hv] at ck hs
      obtain ⟨m, hm⟩ : ∃ m, maxK xs k = m := ⟨_, rfl⟩
      rw [hm] at hs ⊢
      by_cases hgt : v > m
      · have HS := Lib.hid (show maxK xs (k + 1) = v from by rw [hs]; omega)
        have hgt1 : m < v := hgt
        clear hs hv hm hgt
        go_wp2_with fail
        go_roundw
        case rel => exact ⟨k + 1, by omega, by omega, by go_num, by first | (rw [HS.out]; done) | (rw [HS.out]; congr 1; omega), by trivial⟩
        case measure => simp [intOf]; omega
      · have HS := Lib.hid (show maxK xs (k + 1) = m from by rw [hs]; omega)
        have hgt1 : v ≤ m := by omega
        clear hs hv hm hgt
        go_wp2_with fail
        go_roundw
        case rel => exact ⟨k + 1, by omega, by omega, by go_num, by first | (rw [HS.out]; done) | (rw [HS.out]; congr 1; omega), by trivial⟩
        case measure => simp [intOf]; omega
    · obtain rfl : n = k := by omega
      go_wp2
      go_ret
      exact ⟨by rw [← HL.out]; rfl, rfl⟩

/-- What Times hands back. -/
def timZ (g : Int) (pp : List Stp) : List Int × Int :=
  if proofOk g pp = true then (if maxK (timesL pp) pp.length > 1000000000000000 then ([], 4) else (timesL pp, 0)) else ([], 1)

set_option maxRecDepth 100000 in
set_option maxHeartbeats 2000000 in
theorem times_any (g : Int) (A : Option Addr) (n c : Nat) (pp : List Stp) (w : World) (hp : StepsAt w w.heap.size A n pp) :
    Calls Try.prog 6 #[.int .i64 g, .slice A n c] w (RetT w (timZ g pp).1 (timZ g pp).2) := by
  have CV := Lib.hid (validProof_any g A n c pp w hp)
  cases hv : proofOk g pp
  · rw [hv] at CV
    rw [show timZ g pp = ([], 1) from by unfold timZ; rw [hv]; rfl]
    clear hv hp
    go_enter Try.func6, Try.ntmps6
    go_wp2_with (go_at_call 24; ((with_reducible refine CV.out.mono ?_); rintro e w1 ⟨rfl, hB1⟩; have HB1 := Lib.hid hB1; clear hB1))
    go_ret2
    exact ⟨none, 0, 0, rfl, IntsAt.nil _ _ 0, HB1.out⟩
  · rw [hv] at CV
    obtain ⟨_, hl60, hto⟩ := proofOk_to hv
    have hlp := hp.len
    have hn1 : 1 ≤ n := by omega
    have hlt : (timesL pp).length = n := by unfold timesL; rw [tmT_len, ← hlp]
    have CT := Lib.hid (fun (V : World) (hV : Below w.heap.size w V) => timed_any g A n c pp V (hp.up hV) hv)
    have CM := Lib.hid (fun (V : World) A2 c2 (hI : IntsAt V V.heap.size A2 n (timesL pp)) => maxI_any A2 n c2 (timesL pp) V V.heap.size hI hn1 (by omega))
    rw [hlt] at CM
    have hz : timZ g pp = if maxK (timesL pp) n > 1000000000000000 then ([], 4) else (timesL pp, 0) := by unfold timZ; rw [if_pos hv, ← hlp]
    rw [hz]
    obtain ⟨m, hm⟩ : ∃ m, maxK (timesL pp) n = m := ⟨_, rfl⟩
    rw [hm] at CM ⊢
    obtain ⟨L, hL⟩ : ∃ L, timesL pp = L := ⟨_, rfl⟩
    rw [hL] at CT CM ⊢
    clear hv hp hl60 hto hlp hlt hz hm hL
    by_cases hgt : m > 1000000000000000
    · rw [if_pos hgt]
      have hgt1 : (1000000000000000 : Int) < m := hgt
      clear hgt
      go_enter Try.func6, Try.ntmps6
      go_wp2_with (first
        | (go_at_call 24; ((with_reducible refine CV.out.mono ?_); rintro e w1 ⟨rfl, hB1⟩; have HB1 := Lib.hid hB1; clear hB1))
        | (go_at_call 25; ((with_reducible refine (CT.out _ HB1.out).mono ?_); rintro e w2 ⟨A2, c2, rfl, hI2, hB2⟩; have HI2 := Lib.hid hI2; have HB2 := Lib.hid (below_then HB1.out hB2); clear hI2 hB2))
        | (go_at_call 26; ((with_reducible refine (CM.out _ A2 c2 HI2.out).mono ?_); rintro e w3 ⟨rfl, rfl⟩)))
      go_ret2
      exact ⟨none, 0, 0, rfl, IntsAt.nil _ _ 0, HB2.out⟩
    · rw [if_neg hgt]
      have hgt1 : m ≤ 1000000000000000 := by omega
      clear hgt
      go_enter Try.func6, Try.ntmps6
      go_wp2_with (first
        | (go_at_call 24; ((with_reducible refine CV.out.mono ?_); rintro e w1 ⟨rfl, hB1⟩; have HB1 := Lib.hid hB1; clear hB1))
        | (go_at_call 25; ((with_reducible refine (CT.out _ HB1.out).mono ?_); rintro e w2 ⟨A2, c2, rfl, hI2, hB2⟩; have HI2 := Lib.hid hI2; have HB2 := Lib.hid (below_then HB1.out hB2); clear hI2 hB2))
        | (go_at_call 26; ((with_reducible refine (CM.out _ A2 c2 HI2.out).mono ?_); rintro e w3 ⟨rfl, rfl⟩)))
      go_ret2
      exact ⟨A2, n, c2, rfl, HI2.out, HB2.out⟩

end Go.Proofs.Ytojofbmpknpggaa
