/- Contracts: Apply, Occurs. -/
import Derived.Test.YtodcogngejgpfaaN12g
namespace Go.Proofs.Ytodcogngejgpfaa
open Go.RowKit

/-- The call of valid at one term. -/
theorem uvalid_one (As At : Option Addr) (ns cs nt ct : Nat) (ss : Sg) (zs : List Int) (w : World) (hs : SigAt w w.heap.size As ns ss) (ht : IntsAt w w.heap.size At nt zs) :
    Calls Try.prog 58 #[.slice As ns cs, .slice (some ⟨w.heap.size, 0, none⟩) 1 1] (w.alloc (.cells #[.slice At nt ct] 30)) fun e w' => e = .returned (.bool (valOk ss zs)) ∧ Below w.heap.size w w' := by
  have hB : Below w.heap.size w (w.alloc (.cells #[.slice At nt ct] 30)) := bel_al (Below.refl _ w) _
  refine (uvalid_any As (some ⟨w.heap.size, 0, none⟩) ns cs 1 1 ss [(At, nt, ct)] [zs] _ (hs.up hB) (terms_one (Blk.new w _ _) (ht.up hB)) (by omega)).mono ?_
  rintro e w' ⟨rfl, hb⟩
  refine ⟨?_, below_then hB hb⟩
  have : ([zs].all (valOk ss) && sigOk ss) = valOk ss zs := by
    cases h : valOk ss zs
    · simp [h]
    · simp [h, valOk_sig h]
  rw [this]

set_option maxRecDepth 100000 in
set_option maxHeartbeats 2000000 in
theorem apply_any (As Ab At : Option Addr) (ns cs nb cb nt ct : Nat) (ss : Sg) (ls : List Hd) (bb : List Bd) (zs : List Int) (w : World) (hs : SigAt w w.heap.size As ns ss) (hb : BindsAt w w.heap.size Ab nb ls bb) (ht : IntsAt w w.heap.size At nt zs) (hn : nb ≤ 1000000) :
    Calls Try.prog 24 #[.slice As ns cs, .slice Ab nb cb, .slice At nt ct] w (RetT w (applZ ss bb zs).1 (applZ ss bb zs).2) := by
  have C1 := Lib.hid (uvalid_one As At ns cs nt ct ss zs w hs ht)
  have C2 := Lib.hid (fun V (h : Below w.heap.size w V) => validBinds_any As Ab ns cs nb cb ss ls bb V (hs.up h) (hb.up h) hn)
  cases hv : valOk ss zs
  · have hz : applZ ss bb zs = ([], 1) := by simp [applZ, hv]
    rw [hz]
    rw [hv] at C1
    clear hs hb ht hv hz
    go_enter Try.func24, Try.ntmps24
    go_wp2_with (go_at_call 58; refine C1.out.mono ?_; rintro e w1 ⟨rfl, hB1⟩; have HB1 := Lib.hid hB1; clear hB1)
    go_ret2
    exact ⟨none, 0, 0, rfl, IntsAt.nil _ _ 0, HB1.out⟩
  · rw [hv] at C1
    cases hok : bindsOk ss bb
    · have hz : applZ ss bb zs = ([], 1) := by simp [applZ, hok]
      rw [hz]
      simp only [hok] at C2
      clear hs hb ht hok hz hv
      go_enter Try.func24, Try.ntmps24
      go_wp2_with (first
        | (go_at_call 58; refine C1.out.mono ?_; rintro e w1 ⟨rfl, hB1⟩; have HB1 := Lib.hid hB1; clear hB1)
        | (go_at_call 18; refine (C2.out _ HB1.out).mono ?_; rintro e w2 ⟨rfl, hB2⟩; have HB2 := Lib.hid (below_then HB1.out hB2); clear hB2))
      go_ret2
      exact ⟨none, 0, 0, rfl, IntsAt.nil _ _ 0, HB2.out⟩
    · obtain ⟨hv1, hv2, hv3, hv4⟩ := valOk_term hv
      have C3 := Lib.hid (fun V (h : Below w.heap.size w V) => applied_any Ab At nb cb nt ct ss ls bb zs V (hb.up h) (ht.up h) hn hok hv3 (by rw [ht.len]; omega))
      have hlen := appl_len_take hok (zs := zs) hv3
      obtain ⟨xs, hxs⟩ : ∃ xs, appl bb zs = xs := ⟨_, rfl⟩
      have hz : applZ ss bb zs = if xs.length ≤ 60 then (xs, 0) else ([], 4) := by simp [applZ, hok, hv, hxs]
      rw [hz]
      rw [hxs] at hlen
      simp only [hok, hxs] at C2 C3
      have hlm : xs.length ≤ 100000 := by omega
      obtain ⟨m, hm⟩ : ∃ m, xs.length = m := ⟨_, rfl⟩
      have HM := Lib.hid hm
      rw [hm] at hlm ⊢
      by_cases h60 : m ≤ 60
      · rw [if_pos h60]
        have h60' : ¬ (60 : Int) < (m : Int) := by omega
        clear hs hb ht hok hz hv hv1 hv2 hv3 hv4 hxs hlen hm
        go_enter Try.func24, Try.ntmps24
        go_wp2_with (first
          | (go_at_call 58; refine C1.out.mono ?_; rintro e w1 ⟨rfl, hB1⟩; have HB1 := Lib.hid hB1; clear hB1)
          | (go_at_call 18; refine (C2.out _ HB1.out).mono ?_; rintro e w2 ⟨rfl, hB2⟩; have HB2 := Lib.hid (below_then HB1.out hB2); clear hB2)
          | (go_at_call 69; refine (C3.out _ HB2.out).mono ?_; rintro e w3 ⟨A3, n3, c3, rfl, hI3, hB3⟩; obtain rfl : n3 = m := hI3.len.trans HM.out; have HI3 := Lib.hid hI3; have HB3 := Lib.hid (below_then HB2.out hB3); clear hI3 hB3))
        go_ret2
        exact ⟨_, _, _, rfl, HI3.out, HB3.out⟩
      · rw [if_neg h60]
        have h60' : (60 : Int) < (m : Int) := by omega
        clear hs hb ht hok hz hv hv1 hv2 hv3 hv4 hxs hlen hm
        go_enter Try.func24, Try.ntmps24
        go_wp2_with (first
          | (go_at_call 58; refine C1.out.mono ?_; rintro e w1 ⟨rfl, hB1⟩; have HB1 := Lib.hid hB1; clear hB1)
          | (go_at_call 18; refine (C2.out _ HB1.out).mono ?_; rintro e w2 ⟨rfl, hB2⟩; have HB2 := Lib.hid (below_then HB1.out hB2); clear hB2)
          | (go_at_call 69; refine (C3.out _ HB2.out).mono ?_; rintro e w3 ⟨A3, n3, c3, rfl, hI3, hB3⟩; obtain rfl : n3 = m := hI3.len.trans HM.out; have HI3 := Lib.hid hI3; have HB3 := Lib.hid (below_then HB2.out hB3); clear hI3 hB3))
        go_ret2
        exact ⟨none, 0, 0, rfl, IntsAt.nil _ _ 0, HB3.out⟩

set_option maxRecDepth 100000 in
set_option maxHeartbeats 2000000 in
theorem occurs_any (As At : Option Addr) (ns cs nt ct : Nat) (v : Int) (ss : Sg) (zs : List Int) (w : World) (hs : SigAt w w.heap.size As ns ss) (ht : IntsAt w w.heap.size At nt zs) (h1 : -1000000 ≤ v) (h2 : v ≤ 1000000) :
    Calls Try.prog 27 #[.slice As ns cs, .int .i64 v, .slice At nt ct] w fun e w' => e = .returned (.tuple #[.bool (occZ ss v zs).1, .int .i64 (occZ ss v zs).2]) ∧ Below w.heap.size w w' := by
  have C1 := Lib.hid (uvalid_one As At ns cs nt ct ss zs w hs ht)
  have CH := Lib.hid (fun V (h : Below w.heap.size w V) => comes_any v At nt ct zs V _ (ht.up h) h1 h2)
  cases hv : valOk ss zs
  · have hz : occZ ss v zs = (false, 1) := by simp [occZ, hv]
    rw [hz]
    rw [hv] at C1
    clear hs ht hv hz
    go_enter Try.func27, Try.ntmps27
    go_wp2_with (go_at_call 58; refine C1.out.mono ?_; rintro e w1 ⟨rfl, hB1⟩; have HB1 := Lib.hid hB1; clear hB1)
    go_ret2
    exact ⟨rfl, HB1.out⟩
  · rw [hv] at C1
    by_cases h0 : v < 0
    · have hz : occZ ss v zs = (false, 7) := by simp [occZ, hv]; intro; omega
      rw [hz]
      clear hs ht hv hz CH
      go_enter Try.func27, Try.ntmps27
      go_wp2_with (go_at_call 58; refine C1.out.mono ?_; rintro e w1 ⟨rfl, hB1⟩; have HB1 := Lib.hid hB1; clear hB1)
      go_ret2
      exact ⟨rfl, HB1.out⟩
    · by_cases h12 : 12 ≤ v
      · have hz : occZ ss v zs = (false, 7) := by simp [occZ, hv]; intro; omega
        rw [hz]
        clear hs ht hv hz CH
        go_enter Try.func27, Try.ntmps27
        go_wp2_with (go_at_call 58; refine C1.out.mono ?_; rintro e w1 ⟨rfl, hB1⟩; have HB1 := Lib.hid hB1; clear hB1)
        go_ret2
        exact ⟨rfl, HB1.out⟩
      · have hz : occZ ss v zs = (zs.contains (-v - 1), 0) := by
          have : 0 ≤ v ∧ v < 12 := by omega
          simp [occZ, hv, this]
        rw [hz]
        obtain ⟨q, hq⟩ : ∃ q, zs.contains (-v - 1) = q := ⟨_, rfl⟩
        simp only [hq] at CH ⊢
        clear hs ht hv hz hq
        go_enter Try.func27, Try.ntmps27
        go_wp2_with (first
          | (go_at_call 58; refine C1.out.mono ?_; rintro e w1 ⟨rfl, hB1⟩; have HB1 := Lib.hid hB1; clear hB1)
          | (go_at_call 65; refine (CH.out _ HB1.out).mono ?_; rintro e w3 ⟨rfl, rfl⟩))
        go_ret2
        exact ⟨rfl, HB1.out⟩

end Go.Proofs.Ytodcogngejgpfaa
