/- Contract: the statements' own 'awake'. -/
import Derived.Test.YtmccdmpemlmkkaaD1
import Derived.Test.YtmccdmpemlmkkaaQ1
namespace Go.Proofs.Ytmccdmpemlmkkaa
open Go.RowKit

def sgCN : Sg := [(⟨#[67]⟩, 2), (⟨#[78]⟩, 1)]
def cellsCN : Array Value := #[.string ⟨#[67]⟩, .int .i64 2, .string ⟨#[78]⟩, .int .i64 1]
theorem sig_of_blk {W : World} {b : Nat} (h : Blk W b 56 cellsCN) : SigAt W W.heap.size (some ⟨b, 0, none⟩) 2 sgCN := by
  refine ⟨rfl, ?_, by omega, fun _ => ⟨b, 0, rfl, h.lt, ⟨?_, ?_⟩⟩⟩
  · intro x hx
    simp only [sgCN, List.mem_cons, List.not_mem_nil, or_false] at hx
    rcases hx with rfl | rfl <;> (show (1 : Nat) ≤ maxLen; unfold maxLen; omega)
  · intro j hj
    rw [h.cell]
    match j, hj with
    | 0, _ => rfl
    | 1, _ => rfl
  · intro j hj
    rw [h.cell]
    match j, hj with
    | 0, _ => rfl
    | 1, _ => rfl
theorem ints_of_blk {W : World} {b : Nat} (zs : List Int) (n : Nat) (cs : Array Value) (hcs : cs = (zs.map (Value.int .i64)).toArray) (h : Blk W b 3 cs) (hn : n = zs.length) (hm : zs.length ≤ 1000000) : IntsAt W W.heap.size (some ⟨b, 0, none⟩) n zs := by
  subst hcs
  exact IntsAt.of_blk h hn hm

theorem awake_depth {W : World} {b b2 : Nat} (h : Blk W b 56 cellsCN) (h2 : Blk W b2 3 #[.int .i64 0, .int .i64 (-1), .int .i64 0, .int .i64 (-2), .int .i64 (-1)]) :
    Calls Try.prog 16 #[.slice (some ⟨b, 0, none⟩) 2 2, .slice (some ⟨b2, 0, none⟩) 5 5] W fun e w' => e = .returned (.tuple #[.int .i64 3, .int .i64 0]) ∧ Below W.heap.size W w' := by
  have hd : depthN sgCN [0, -1, 0, -2, -1] = 3 := by decide +kernel
  have := depth_ok _ _ 2 2 5 5 sgCN [0, -1, 0, -2, -1] W (sig_of_blk h) (ints_of_blk _ _ _ rfl h2 rfl (by decide)) (by omega) (by omega) (by decide +kernel)
  rw [hd] at this
  exact this
theorem awake_canon {W : World} {b b2 : Nat} (h : Blk W b 56 cellsCN) (h2 : Blk W b2 3 #[.int .i64 0, .int .i64 (-3), .int .i64 (-3)]) :
    Calls Try.prog 39 #[.slice (some ⟨b, 0, none⟩) 2 2, .slice (some ⟨b2, 0, none⟩) 3 3] W (RetT W [0, -1, -1] 0) := by
  have hd : canon [0, -3, -3] = [0, -1, -1] := by decide +kernel
  have := canonical_ok _ _ 2 2 3 3 sgCN [0, -3, -3] W (sig_of_blk h) (ints_of_blk _ _ _ rfl h2 rfl (by decide)) (by decide +kernel)
  rw [hd] at this
  exact this

set_option maxRecDepth 100000 in
set_option maxHeartbeats 1000000 in
theorem awake_any (w : World) : Calls Try.prog 11 #[] w fun e w' => e = .returned (.bool true) ∧ Below w.heap.size w w' := by
  have HD : Hid (Calls Try.prog 16 #[.slice (some ⟨w.heap.size, 0, none⟩) 2 2, .slice (some ⟨w.heap.size + 1, 0, none⟩) 5 5] ((w.alloc (.cells cellsCN 56)).alloc (.cells #[.int .i64 0, .int .i64 (-1), .int .i64 0, .int .i64 (-2), .int .i64 (-1)] 3)) fun e w' =>
      e = .returned (.tuple #[.int .i64 3, .int .i64 0]) ∧ Below w.heap.size w w' ∧ Blk w' w.heap.size 56 cellsCN) := by
    have k1 : Blk ((w.alloc (.cells cellsCN 56)).alloc (.cells #[.int .i64 0, .int .i64 (-1), .int .i64 0, .int .i64 (-2), .int .i64 (-1)] 3)) w.heap.size 56 cellsCN := (Blk.new w _ _).alloc _
    have k2 : Blk ((w.alloc (.cells cellsCN 56)).alloc (.cells #[.int .i64 0, .int .i64 (-1), .int .i64 0, .int .i64 (-2), .int .i64 (-1)] 3)) (w.heap.size + 1) 3 #[.int .i64 0, .int .i64 (-1), .int .i64 0, .int .i64 (-2), .int .i64 (-1)] := by
      have := Blk.new (w.alloc (.cells cellsCN 56)) 3 #[.int .i64 0, .int .i64 (-1), .int .i64 0, .int .i64 (-2), .int .i64 (-1)]
      rw [World.size_alloc] at this
      exact this
    refine (awake_depth k1 k2).mono ?_
    rintro e w' ⟨rfl, hB⟩
    exact ⟨rfl, (((Below.refl _ w).alloc (Nat.le_refl _) _).alloc (by simp) _).trans (hB.mono (by simp; omega)), k1.below hB k1.lt⟩
  go_enter Try.func11, Try.ntmps11
  go_wp2_with (first
    | (go_at_call 16; refine HD.out.mono ?_; rintro e w3 ⟨rfl, hB3, kS⟩; have HB3 := Lib.hid hB3; have KS := Lib.hid kS; clear hB3 kS)
    | (go_at_call 39; refine (awake_canon (KS.out.alloc _) (Blk.new _ _ _)).mono ?_; rintro e w4 ⟨A, n, c, rfl, hI, hB4⟩; have HI := Lib.hid hI; have HB4 := Lib.hid hB4; clear hI hB4)
    | (go_at_call 27; refine (same_any _ _ n c 3 3 [0, -1, -1] [0, -1, -1] _ _ (HI.out.alloc _) (ints_of_blk [0, -1, -1] 3 _ rfl (Blk.new _ _ _) rfl (by decide))).mono ?_; rintro e w5 ⟨rfl, k, rfl⟩; rw [show decide (([0, -1, -1] : List Int) = [0, -1, -1]) = true from rfl]))
  go_ret
  have h3 := HB3.out
  have h4 := (h3.alloc h3.size (.cells #[.int .i64 0, .int .i64 (-3), .int .i64 (-3)] 3)).trans (HB4.out.mono (by have := h3.size; simp; omega))
  exact ⟨rfl, below_drewN (h4.alloc h4.size _) _⟩

end Go.Proofs.Ytmccdmpemlmkkaa
