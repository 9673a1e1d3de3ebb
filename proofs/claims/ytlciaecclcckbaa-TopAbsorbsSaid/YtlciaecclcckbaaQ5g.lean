/- Contract: Alike. -/
import Derived.Test.YtlciaecclcckbaaR3g
import Derived.Test.YtlciaecclcckbaaV1g
import Derived.Test.YtlciaecclcckbaaQ2g
import Derived.Test.YtlciaecclcckbaaU1g
namespace Go.Proofs.Ytlciaecclcckbaa
open Go.RowKit

def alikeOk (ss : Sg) (a b : List Int) : Bool := valOk ss a && (termOk ss b && decide (canon a = canon b))

set_option maxHeartbeats 1000000 in
theorem alike_any (As A1 A2 : Option Addr) (ns cs n1 c1 n2 c2 : Nat) (ss : Sg) (a b : List Int) (w : World) (hs : SigAt w w.heap.size As ns ss) (ha : IntsAt w w.heap.size A1 n1 a) (hb : IntsAt w w.heap.size A2 n2 b) :
    Calls Try.prog 48 #[.slice As ns cs, .slice A1 n1 c1, .slice A2 n2 c2] w fun e w' => e = .returned (.bool (alikeOk ss a b)) ∧ Below w.heap.size w w' := by
  have C1 := Lib.hid (valid_any As A1 ns cs n1 c1 ss a w hs ha)
  cases e1 : valOk ss a
  · have H := Lib.hid (show alikeOk ss a b = false by simp [alikeOk, e1])
    have E1 := Lib.hid e1
    clear e1 hs ha hb
    go_enter Try.func48, Try.ntmps48
    go_wp2_with (go_at_call 55; refine C1.out.mono ?_; rintro e w1 ⟨rfl, hB⟩; rw [E1.out]; have HB := Lib.hid hB)
    go_ret
    exact ⟨ret_b H.out.symm, HB.out⟩
  · have hl := sigOk_len (valOk_sig e1)
    rw [← hs.len] at hl
    have har := sigOk_ar (valOk_sig e1)
    have C2 := Lib.hid (fun (w1 : World) (hB : Below w.heap.size w w1) => validTerm_any As A2 ns cs n2 c2 ss b w1 (hs.up hB) (hb.up hB) har hl.1 hl.2)
    obtain ⟨a1, a2, a3, _⟩ := valOk_term e1
    rw [← ha.len] at a1 a2
    have C3 := Lib.hid (fun (w1 : World) (hB : Below w.heap.size w w1) => renamed_any A1 n1 c1 a w1 (ha.up hB) a1 a2 (fun z hz => by have := a3 z hz; have := hs.len; omega))
    have E1 := Lib.hid e1
    cases e2 : termOk ss b
    · have H := Lib.hid (show alikeOk ss a b = false by simp [alikeOk, e2])
      have E2 := Lib.hid e2
      clear e1 e2 hs ha hb a1 a2 a3 har
      go_enter Try.func48, Try.ntmps48
      go_wp2_with (first
        | (go_at_call 55; refine C1.out.mono ?_; rintro e w1 ⟨rfl, hB⟩; rw [E1.out]; have HB := Lib.hid hB; clear hB)
        | (go_at_call 61; refine (C2.out _ HB.out).mono ?_; rintro e w2 ⟨rfl, hB2⟩; rw [E2.out]; have HB2 := Lib.hid (below_then HB.out hB2); clear hB2))
      go_ret
      exact ⟨ret_b H.out.symm, HB2.out⟩
    · have H := Lib.hid (show alikeOk ss a b = decide (canon a = canon b) by simp [alikeOk, e1, e2])
      have e3 : valOk ss b = true := by simp [valOk, valOk_sig e1, e2]
      obtain ⟨b1, b2, b3, _⟩ := valOk_term e3
      rw [← hb.len] at b1 b2
      have C4 := Lib.hid (fun (w1 : World) (hB : Below w.heap.size w w1) => renamed_any A2 n2 c2 b w1 (hb.up hB) b1 b2 (fun z hz => by have := b3 z hz; have := hs.len; omega))
      have E2 := Lib.hid e2
      have HLA := Lib.hid (show n1 = (canon a).length by rw [canon_length]; exact ha.len)
      have HLB := Lib.hid (show n2 = (canon b).length by rw [canon_length]; exact hb.len)
      obtain ⟨ca, hca⟩ : ∃ ca, canon a = ca := ⟨_, rfl⟩
      obtain ⟨cb, hcb⟩ : ∃ cb, canon b = cb := ⟨_, rfl⟩
      simp only [hca] at C3 HLA H
      simp only [hcb] at C4 HLB H
      clear e1 e2 e3 hs ha hb a3 b3 har hca hcb
      go_enter Try.func48, Try.ntmps48
      go_wp2_with (first
        | (go_at_call 55; refine C1.out.mono ?_; rintro e w1 ⟨rfl, hB⟩; rw [E1.out]; have HB := Lib.hid hB; clear hB)
        | (go_at_call 61; refine (C2.out _ HB.out).mono ?_; rintro e w2 ⟨rfl, hB2⟩; rw [E2.out]; have HB2 := Lib.hid (below_then HB.out hB2); clear hB2)
        | (go_at_call 84; ((with_reducible refine (C3.out _ HB2.out).mono ?_); rintro e w3 ⟨rfl, hB3, hK⟩; have HB3 := Lib.hid (below_then HB2.out hB3); have HI := Lib.hid (IntsAt.of_blk (n := n1) hK HLA.out (by rw [← HLA.out]; omega)); clear hB3 hK))
        | (go_at_call 84; ((with_reducible refine (C4.out _ HB3.out).mono ?_); rintro e w4 ⟨rfl, hB4, hK⟩; have HI2 := Lib.hid (HI.out.up hB4); have HJ := Lib.hid (IntsAt.of_blk (n := n2) hK HLB.out (by rw [← HLB.out]; omega)); have HB4 := Lib.hid (below_then HB3.out hB4); clear hB4 hK))
        | (go_at_call 65; refine (eqT_any _ _ _ _ _ _ ca cb _ _ HI2.out HJ.out).mono ?_; rintro e w5 ⟨rfl, j, rfl⟩))
      go_ret
      exact ⟨ret_b H.out.symm, below_drewN HB4.out _⟩

end Go.Proofs.Ytlciaecclcckbaa
