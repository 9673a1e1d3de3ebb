/- Contracts: the reference's Arity, Valid. -/
import Derived.Test.YtmccdmpemlmkkaaF2
import Derived.Test.YtmccdmpemlmkkaaV1
namespace Go.Proofs.Ytmccdmpemlmkkaa
open Go.RowKit

set_option maxHeartbeats 400000 in
theorem arity_any (As : Option Addr) (ns cs : Nat) (ss : Sg) (z : Int) (w : World) (B : Nat) (hs : SigAt w B As ns ss) (har : ArOk ss) (hz : z < (ns : Int)) :
    Calls Try.prog 44 #[.slice As ns cs, .int .i64 z] w fun e w' => e = .returned (.int .i64 (arOf ss z : Nat)) ∧ w = w' := by
  have hl := hs.len
  have hm := hs.max
  by_cases hneg : z < 0
  · have H := Lib.hid (show (0 : Int) = (arOf ss z : Nat) by simp [arOf, hneg])
    clear hs har hl
    go_enter Try.func44, Try.ntmps44
    go_wp2
    go_ret
    exact ⟨ret_i H.out, rfl⟩
  · obtain ⟨q, rfl⟩ : ∃ q : Nat, z = (q : Int) := ⟨z.toNat, by omega⟩
    have hq : q < ss.length := by omega
    obtain ⟨b, off, rfl, _, hc⟩ := hs.mem (by omega)
    have c1 := hc.ar q hq
    have ha := har _ (List.getElem_mem hq)
    have H := Lib.hid (show ss[q].2 = (arOf ss (q : Int) : Nat) by rw [arOf_at hq]; omega)
    obtain ⟨a, haa⟩ : ∃ a, ss[q].2 = a := ⟨_, rfl⟩
    rw [haa] at c1 H
    have hq' : q < ns := by omega
    clear hs har hl hc ha haa hz hq
    go_enter Try.func44, Try.ntmps44
    go_wp2
    go_ret
    exact ⟨ret_i H.out, rfl⟩

theorem arOf_le {ss : Sg} (har : ArOk ss) (z : Int) : arOf ss z ≤ 3 := by
  unfold arOf
  split
  · omega
  · rw [List.getElem?_map]
    cases h : ss[z.toNat]? with
    | none => simp
    | some x =>
      have := har x (List.mem_of_getElem? h)
      simp; omega

theorem termOk_scan {ss : Sg} {zs : List Int} (h : scan ss 1 zs ≠ some []) : termOk ss zs = false := by
  simp [termOk, h]
def Need (ss : Sg) (zs : List Int) (k N : Nat) : Prop := scan ss 1 zs = scan ss N (zs.drop k)
theorem Need.succ {ss : Sg} {zs : List Int} {k N : Nat} (h : Need ss zs k (N + 1)) (hk : k < zs.length) : Need ss zs (k + 1) (N + arOf ss zs[k]) := by
  unfold Need at h ⊢
  rw [h, List.drop_eq_getElem_cons hk]
  rfl
theorem Need.zero_bad {ss : Sg} {zs : List Int} {k : Nat} (h : Need ss zs k 0) (hk : k < zs.length) : termOk ss zs = false := by
  apply termOk_scan
  unfold Need at h
  rw [h, scan_zero]
  intro e
  have := congrArg List.length (Option.some.inj e)
  rw [List.length_drop] at this
  simp at this; omega
theorem Need.done {ss : Sg} {zs : List Int} {N : Nat} (h : Need ss zs zs.length N) (hn : NumsTo ss zs zs.length) (h1 : 1 ≤ zs.length) (h2 : zs.length ≤ 60) : termOk ss zs = ((N : Int) == 0) := by
  rw [termOk_good h1 h2 hn]
  unfold Need at h
  rw [h, List.drop_length]
  cases N with
  | zero => simp [scan_zero]
  | succ N =>
    have : (((N + 1 : Nat) : Int) == 0) = false := by simp; omega
    rw [this]
    simp [scan]

theorem witB_true {n lo hi : Int} (h1 : lo ≤ n) (h2 : n ≤ hi) : witB n lo hi = true := by simp [witB, h1, h2]
theorem witB_false {n lo hi : Int} (h : n < lo ∨ hi < n) : witB n lo hi = false := by
  unfold witB
  rcases h with h | h
  · rw [decide_eq_false (by omega : ¬ lo ≤ n)]; rfl
  · rw [decide_eq_false (by omega : ¬ n ≤ hi)]; simp

set_option maxRecDepth 100000 in
set_option maxHeartbeats 1000000 in
theorem refValid_any (As At : Option Addr) (ns cs nt ct : Nat) (ss : Sg) (zs : List Int) (w : World) (B : Nat) (hs : SigAt w B As ns ss) (ht : IntsAt w B At nt zs) :
    Calls Try.prog 15 #[.slice As ns cs, .slice At nt ct] w fun e w' => e = .returned (.bool (valOk ss zs)) ∧ ∃ k, w' = w.drewN k := by
  have C := Lib.hid (refSign_any As ns cs ss w B hs)
  have hlt := ht.len
  have hmt := ht.max
  cases e1 : sigOk ss
  · have H := Lib.hid (show valOk ss zs = false by simp [valOk, e1])
    have E1 := Lib.hid e1
    clear e1 hs ht hlt
    go_enter Try.func15, Try.ntmps15
    go_wp2_with (go_at_call 13; refine C.out.mono ?_; rintro e w' ⟨rfl, j1, rfl⟩; rw [E1.out])
    go_ret
    exact ⟨ret_b H.out.symm, _, rfl⟩
  · have HV := Lib.hid (show valOk ss zs = termOk ss zs by simp [valOk, e1])
    have har := Lib.hid (sigOk_ar e1)
    have hl := sigOk_len e1
    have hls := hs.len
    rw [← hls] at hl
    have E1 := Lib.hid e1
    have HS := Lib.hid hs
    have HT := Lib.hid ht
    have HLS := Lib.hid hls
    have HLT := Lib.hid hlt
    by_cases hout : nt < 1 ∨ 60 < nt
    · have H := Lib.hid (termOk_out (ss := ss) (zs := zs) (by omega))
      have HW := Lib.hid (witB_false (n := (nt : Int)) (lo := 1) (hi := 60) (by omega))
      clear e1 hs ht hlt hls hl hout
      go_enter Try.func15, Try.ntmps15
      go_wp2_with (first
        | (go_at_call 13; refine C.out.mono ?_; rintro e w' ⟨rfl, j1, rfl⟩; rw [E1.out])
        | (go_at_call 41; ((with_reducible refine (within_any _ 1 60 _).mono ?_); rintro e w' ⟨rfl, rfl⟩; rw [HW.out])))
      go_ret
      exact ⟨ret_b (by rw [HV.out, H.out]), _, rfl⟩
    · have h1 : 1 ≤ nt := by omega
      have h2 : nt ≤ 60 := by omega
      have HW := Lib.hid (witB_true (n := (nt : Int)) (lo := 1) (hi := 60) (by omega) (by omega))
      clear e1 hs ht hlt hls hout
      go_enter Try.func15, Try.ntmps15
      go_wp2_with (first
        | (go_at_call 13; refine C.out.mono ?_; rintro e w' ⟨rfl, j1, rfl⟩; rw [E1.out])
        | (go_at_call 41; ((with_reducible refine (within_any _ 1 60 _).mono ?_); rintro e w' ⟨rfl, rfl⟩; rw [HW.out])))
      go_loopw [5, 6] (fun nd i wr => ∃ k N : Nat, k ≤ nt ∧ i = .int .i64 k ∧ nd = .int .i64 N ∧ N ≤ 1 + 3 * k ∧ Need ss zs k N ∧ NumsTo ss zs k ∧ ∃ m, wr = w.drewN m) (fun _ i _ => nt - (intOf i).toNat)
      case atStart => exact ⟨0, 1, Nat.zero_le _, rfl, rfl, by omega, by simp [Need], NumsTo.zero _ _, _, rfl⟩
      case round =>
        obtain ⟨k, N, hk, rfl, rfl, hN3, hNd, hNum, m, rfl⟩ := hrel
        by_cases hlt : k < nt
        · obtain ⟨b, off, z, rfl, c1, k1, e1⟩ := HT.out.cellAt hlt
          have hbad := termOk_bad (ss := ss) k1
          have hgood := hNum.succ k1
          have hk0 : (0 : Int) ≤ (k : Int) := by omega
          have hk1 : (k : Int) < (nt : Int) := by omega
          cases N with
          | zero =>
            have H := Lib.hid (hNd.zero_bad k1)
            clear hNd hNum hbad hgood e1
            go_wp2
            go_ret
            exact ⟨ret_b (by rw [HV.out, H.out]), _, rfl⟩
          | succ N =>
            have hnx := hNd.succ k1
            rw [e1] at hbad hgood hnx
            have hN0 : (((N : Int) + 1) == 0) = false := by simp; omega
            have hN0' : (((N + 1 : Nat) : Int) == 0) = false := by simp; omega
            cases e2 : witB z (-12) ((ns : Int) - 1)
            · have H := Lib.hid (hbad (by
                have := HLS.out
                unfold witB at e2
                unfold numOk
                cases hh : decide (-12 ≤ z)
                · rfl
                · rw [hh] at e2
                  simp only [Bool.true_and, decide_eq_false_iff_not] at e2 ⊢
                  omega))
              have E2 := Lib.hid e2
              clear e2 hNd hNum hbad hgood hnx
              go_wp2_with (go_at_call 41; ((with_reducible refine (within_any _ (-12) _ _).mono ?_); rintro e w' ⟨rfl, rfl⟩; rw [E2.out]))
              go_ret
              exact ⟨ret_b (by rw [HV.out, H.out]), _, rfl⟩
            · have hzl : z < (ns : Int) := by
                unfold witB at e2
                simp only [Bool.and_eq_true, decide_eq_true_eq] at e2
                omega
              have H := Lib.hid (hgood (by
                have := HLS.out
                unfold witB at e2
                simp only [Bool.and_eq_true, decide_eq_true_eq] at e2
                unfold numOk
                simp only [Bool.and_eq_true, decide_eq_true_eq]
                omega))
              have E2 := Lib.hid e2
              have ha3 := arOf_le har.out z
              have HA := Lib.hid (fun (m : Nat) => arity_any As ns cs ss z (w.drewN m) B (HS.out.keep fun p _ => rfl) har.out hzl)
              obtain ⟨a, ha⟩ : ∃ a, arOf ss z = a := ⟨_, rfl⟩
              rw [ha] at hnx ha3
              simp only [ha] at HA
              have HNX := Lib.hid hnx
              clear e2 hNd hNum hbad hgood hnx ha e1
              go_wp2_with (first
                | (go_at_call 41; ((with_reducible refine (within_any _ (-12) _ _).mono ?_); rintro e w' ⟨rfl, rfl⟩; rw [E2.out]))
                | (go_at_call 44; refine (HA.out _).mono ?_; rintro e w' ⟨rfl, rfl⟩))
              go_roundw
              case rel => exact ⟨k + 1, N + a, by omega, by go_num, by go_num, by omega, HNX.out, H.out, _, rfl⟩
              case measure => simp [intOf]; omega
        · obtain rfl : k = nt := by omega
          have hN2 : NumsTo ss zs zs.length := by rw [← HLT.out]; exact hNum
          have H := Lib.hid (Need.done (ss := ss) (zs := zs) (N := N) (by rw [← HLT.out]; exact hNd) hN2 (by rw [← HLT.out]; exact h1) (by rw [← HLT.out]; exact h2))
          clear hN2 hNum hNd
          go_wp2
          go_ret
          exact ⟨ret_b (by rw [HV.out, H.out]), _, rfl⟩

end Go.Proofs.Ytmccdmpemlmkkaa
