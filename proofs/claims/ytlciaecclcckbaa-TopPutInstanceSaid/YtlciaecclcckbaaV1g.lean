/- Contract: Valid. -/
import Derived.Test.YtlciaecclcckbaaE3g
namespace Go.Proofs.Ytlciaecclcckbaa
open Go.RowKit

theorem sigGo_ar : ∀ (ss : Sg) (l : List (List UInt8)), sigGo l ss = true → ArOk ss
  | [], _, _ => by intro x hx; cases hx
  | y :: r, l, h => by
    simp only [sigGo, symOk, Bool.and_eq_true, decide_eq_true_eq] at h
    intro x hx
    rcases List.mem_cons.1 hx with rfl | hx
    · exact h.1.2.2
    · exact sigGo_ar r _ h.2 x hx
theorem sigOk_ar {ss : Sg} (h : sigOk ss = true) : ArOk ss := by
  simp only [sigOk, Bool.and_eq_true, decide_eq_true_eq] at h
  exact sigGo_ar ss _ h.2.2.2
theorem sigOk_len {ss : Sg} (h : sigOk ss = true) : 1 ≤ ss.length ∧ ss.length ≤ 12 := by
  simp only [sigOk, Bool.and_eq_true, decide_eq_true_eq] at h
  exact ⟨h.1, h.2.1⟩

def valOk (ss : Sg) (zs : List Int) : Bool := sigOk ss && termOk ss zs

set_option maxHeartbeats 400000 in
theorem valid_any (As At : Option Addr) (ns cs nt ct : Nat) (ss : Sg) (zs : List Int) (w : World) (hs : SigAt w w.heap.size As ns ss) (ht : IntsAt w w.heap.size At nt zs) :
    Calls Try.prog 55 #[.slice As ns cs, .slice At nt ct] w fun e w' => e = .returned (.bool (valOk ss zs)) ∧ Below w.heap.size w w' := by
  cases e1 : sigOk ss
  · have H := Lib.hid (show valOk ss zs = false by simp [valOk, e1])
    have C := Lib.hid (validSign_any As ns cs ss w hs)
    have E1 := Lib.hid e1
    clear e1 hs ht
    go_enter Try.func55, Try.ntmps55
    go_wp2_with (go_at_call 89; refine C.out.mono ?_; rintro e w' ⟨rfl, hB⟩; rw [E1.out])
    go_ret
    exact ⟨ret_b H.out.symm, hB⟩
  · have H := Lib.hid (show valOk ss zs = termOk ss zs by simp [valOk, e1])
    have C := Lib.hid (validSign_any As ns cs ss w hs)
    have hl := sigOk_len e1
    rw [← hs.len] at hl
    have C2 := Lib.hid (fun (w' : World) (hB : Below w.heap.size w w') => validTerm_any As At ns cs nt ct ss zs w' ((hs.below hB).more hB.size) ((ht.below hB).more hB.size) (sigOk_ar e1) hl.1 hl.2)
    have E1 := Lib.hid e1
    clear e1 hs ht hl
    go_enter Try.func55, Try.ntmps55
    go_wp2_with (first
      | (go_at_call 89; refine C.out.mono ?_; rintro e w1 ⟨rfl, hB⟩; rw [E1.out]; have HB := Lib.hid hB)
      | (go_at_call 61; refine (C2.out _ HB.out).mono ?_; rintro e w2 ⟨rfl, hB2⟩; have HB2 := Lib.hid hB2))
    go_ret
    exact ⟨ret_b H.out.symm, HB.out.trans (HB2.out.mono HB.out.size)⟩

end Go.Proofs.Ytlciaecclcckbaa
