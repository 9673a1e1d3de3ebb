/- Contracts: IsCanonical, Shape, and the reference's Canonical, IsCanonical, Flat, Shape. -/
import Derived.Test.YtpgoekaphofjkaaQ4
namespace Go.Proofs.Ytpgoekaphofjkaa
open Go.RowKit

def isCanOk (ss : Sg) (a : List Int) : Bool := valOk ss a && decide (a = canon a)
theorem isCan_comm (a : List Int) : decide (canon a = a) = decide (a = canon a) := by
  rw [decide_eq_decide]; exact eq_comm
def flat (a : List Int) : List Int := a.map fun z => if z < 0 then -1 else z

set_option maxHeartbeats 1000000 in
theorem isCan_any (As A1 : Option Addr) (ns cs n1 c1 : Nat) (ss : Sg) (a : List Int) (w : World) (hs : SigAt w w.heap.size As ns ss) (ha : IntsAt w w.heap.size A1 n1 a) :
    Calls Try.prog 29 #[.slice As ns cs, .slice A1 n1 c1] w fun e w' => e = .returned (.bool (isCanOk ss a)) ∧ Below w.heap.size w w' := by
  have C1 := Lib.hid (valid_any As A1 ns cs n1 c1 ss a w hs ha)
  cases e1 : valOk ss a
  · have H := Lib.hid (show isCanOk ss a = false by simp [isCanOk, e1])
    have E1 := Lib.hid e1
    clear e1 hs ha
    go_enter Try.func29, Try.ntmps29
    go_wp2_with (go_at_call 17; refine C1.out.mono ?_; rintro e w1 ⟨rfl, hB⟩; rw [E1.out]; have HB := Lib.hid hB)
    go_ret
    exact ⟨ret_b H.out.symm, HB.out⟩
  · have H := Lib.hid (show isCanOk ss a = decide (a = canon a) by simp [isCanOk, e1])
    have hl := sigOk_len (valOk_sig e1)
    obtain ⟨a1, a2, a3, _⟩ := valOk_term e1
    rw [← ha.len] at a1 a2
    have C3 := Lib.hid (fun (w1 : World) (hB : Below w.heap.size w w1) => renamed_any A1 n1 c1 a w1 (ha.up hB) a1 a2 (fun z hz => by have := a3 z hz; omega))
    have HLA := Lib.hid (show n1 = (canon a).length by rw [canon_length]; exact ha.len)
    have HA := Lib.hid ha
    have E1 := Lib.hid e1
    obtain ⟨ca, hca⟩ : ∃ ca, canon a = ca := ⟨_, rfl⟩
    simp only [hca] at C3 HLA H
    clear e1 hs ha a3 hca
    go_enter Try.func29, Try.ntmps29
    go_wp2_with (first
      | (go_at_call 17; refine C1.out.mono ?_; rintro e w1 ⟨rfl, hB⟩; rw [E1.out]; have HB := Lib.hid hB; clear hB)
      | (go_at_call 60; ((with_reducible refine (C3.out _ HB.out).mono ?_); rintro e w3 ⟨rfl, hB3, hK⟩; have HB3 := Lib.hid (below_then HB.out hB3); have HI := Lib.hid (IntsAt.of_blk (n := n1) hK HLA.out (by rw [← HLA.out]; omega)); clear hB3 hK))
      | (go_at_call 62; refine (eqT_any _ _ _ _ _ _ a ca _ _ (HA.out.up HB3.out) HI.out).mono ?_; rintro e w5 ⟨rfl, j, rfl⟩))
    go_ret
    exact ⟨ret_b H.out.symm, below_drewN HB3.out _⟩

set_option maxHeartbeats 1000000 in
theorem refIsCan_any (As A1 : Option Addr) (ns cs n1 c1 : Nat) (ss : Sg) (a : List Int) (w : World) (hs : SigAt w w.heap.size As ns ss) (ha : IntsAt w w.heap.size A1 n1 a) :
    Calls Try.prog 30 #[.slice As ns cs, .slice A1 n1 c1] w fun e w' => e = .returned (.bool (isCanOk ss a)) ∧ Below w.heap.size w w' := by
  have C1 := Lib.hid (refValid_any As A1 ns cs n1 c1 ss a w _ hs ha)
  have HD : Hid (∀ k, Below w.heap.size w (w.drewN k)) := fun k => below_drewN (Below.refl _ _) k
  cases e1 : valOk ss a
  · have H := Lib.hid (show isCanOk ss a = false by simp [isCanOk, e1])
    have E1 := Lib.hid e1
    clear e1 hs ha
    go_enter Try.func30, Try.ntmps30
    go_wp2_with (go_at_call 18; refine C1.out.mono ?_; rintro e w1 ⟨rfl, j, rfl⟩; rw [E1.out])
    go_ret
    exact ⟨ret_b H.out.symm, HD.out _⟩
  · have H := Lib.hid (show isCanOk ss a = decide (canon a = a) by rw [isCan_comm]; simp [isCanOk, e1])
    have hl := sigOk_len (valOk_sig e1)
    obtain ⟨a1, a2, a3, _⟩ := valOk_term e1
    rw [← ha.len] at a1 a2
    have C3 := Lib.hid (fun (w1 : World) (hB : Below w.heap.size w w1) => refRenamed_any A1 n1 c1 a w1 (ha.up hB) a1 (by omega) (fun z hz => by have := a3 z hz; omega))
    have HA := Lib.hid ha
    have E1 := Lib.hid e1
    obtain ⟨ca, hca⟩ : ∃ ca, canon a = ca := ⟨_, rfl⟩
    simp only [hca] at C3 H
    clear e1 hs ha a3 hca
    go_enter Try.func30, Try.ntmps30
    go_wp2_with (first
      | (go_at_call 18; refine C1.out.mono ?_; rintro e w1 ⟨rfl, j1, rfl⟩; rw [E1.out])
      | (go_at_call 61; ((with_reducible refine (C3.out _ (HD.out _)).mono ?_); rintro e w3 ⟨B1, d1, rfl, hI, hB3⟩; have HB3 := Lib.hid (below_then (HD.out _) hB3); have HI := Lib.hid hI; clear hB3 hI))
      | (go_at_call 28; refine (same_any _ _ _ _ _ _ ca a _ _ HI.out (HA.out.up HB3.out)).mono ?_; rintro e w5 ⟨rfl, j, rfl⟩))
    go_ret
    exact ⟨ret_b H.out.symm, below_drewN HB3.out _⟩

set_option maxHeartbeats 1000000 in
theorem refCanonical_bad (As At : Option Addr) (ns cs nt ct : Nat) (ss : Sg) (zs : List Int) (w : World) (hs : SigAt w w.heap.size As ns ss) (ht : IntsAt w w.heap.size At nt zs) (hv : valOk ss zs = false) :
    Calls Try.prog 27 #[.slice As ns cs, .slice At nt ct] w (RetT w [] 1) := by
  have C := Lib.hid (refValid_any As At ns cs nt ct ss zs w _ hs ht)
  have HV := Lib.hid hv
  clear hv hs ht
  go_enter Try.func27, Try.ntmps27
  go_wp2_with (go_at_call 18; refine C.out.mono ?_; rintro e w1 ⟨rfl, j, rfl⟩; rw [HV.out])
  go_ret2
  exact ⟨none, 0, 0, rfl, IntsAt.nil _ _ 0, below_drewN (Below.refl _ _) _⟩

set_option maxHeartbeats 1000000 in
theorem refCanonical_ok (As At : Option Addr) (ns cs nt ct : Nat) (ss : Sg) (zs : List Int) (w : World) (hs : SigAt w w.heap.size As ns ss) (ht : IntsAt w w.heap.size At nt zs) (hv : valOk ss zs = true) :
    Calls Try.prog 27 #[.slice As ns cs, .slice At nt ct] w (RetT w (canon zs) 0) := by
  have C := Lib.hid (refValid_any As At ns cs nt ct ss zs w _ hs ht)
  have HD : Hid (∀ k, Below w.heap.size w (w.drewN k)) := fun k => below_drewN (Below.refl _ _) k
  have hl := sigOk_len (valOk_sig hv)
  obtain ⟨a1, a2, a3, _⟩ := valOk_term hv
  rw [← ht.len] at a1 a2
  have C3 := Lib.hid (fun (w1 : World) (hB : Below w.heap.size w w1) => refRenamed_any At nt ct zs w1 (ht.up hB) a1 (by omega) (fun z hz => by have := a3 z hz; omega))
  have HV := Lib.hid hv
  clear hv hs ht a3
  go_enter Try.func27, Try.ntmps27
  go_wp2_with (first
    | (go_at_call 18; refine C.out.mono ?_; rintro e w1 ⟨rfl, j1, rfl⟩; rw [HV.out])
    | (go_at_call 61; ((with_reducible refine (C3.out _ (HD.out _)).mono ?_); rintro e w3 ⟨B1, d1, rfl, hI, hB3⟩; have HB3 := Lib.hid (below_then (HD.out _) hB3); have HI := Lib.hid hI; clear hB3 hI)))
  go_ret2
  exact ⟨_, _, _, rfl, HI.out, HB3.out⟩

end Go.Proofs.Ytpgoekaphofjkaa
