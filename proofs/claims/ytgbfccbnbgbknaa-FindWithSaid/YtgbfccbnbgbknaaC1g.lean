/- Contracts: slices.Clone at []int and at Term. -/
import Derived.Test.YtgbfccbnbgbknaaR2g
import Derived.Maps.AppendAt
import Derived.Deep.AppendLies
import Derived.Lib.SliceRun
import Derived.Test.YtgbfccbnbgbknaaA2g
/- Words: an address moved; a row of ints that is returned. -/
namespace Go.Proofs.Ytgbfccbnbgbknaa
open Go.RowKit

theorem add0 (b off j : Nat) : (⟨b, off, none⟩ : Addr).add j = ⟨b, off + j, none⟩ := by
  unfold Addr.add
  split
  · subst_vars; rfl
  · rfl

/-- A row of the call's own is returned. -/
def RetRow (w : World) (xs : List Value) (e : Ending) (w' : World) : Prop := ∃ v, e = .returned v ∧ w'.ownsRow w.heap.size 3 1 v xs.length xs ∧ Below w.heap.size w w'

end Go.Proofs.Ytgbfccbnbgbknaa

namespace Go.Proofs.Ytgbfccbnbgbknaa
open Go.RowKit

set_option maxHeartbeats 400000 in
theorem cloneI_nil (w : World) : Calls Try.prog 190 #[.slice none 0 0] w (RetRow w []) := by
  have hnl : (binOp .eql 24 (.slice none 0 0) (.slice none 0 0)).run Try.prog w = .ok (.bool true) w := Lib.run_eql_slice_nil w 24 3 none 0 0 0 0 Try.underlying24
  go_enter Try.func190, Try.ntmps190
  go_wp2
  go_ret
  exact ⟨.slice none 0 0, rfl, World.ownsRow_nil _ _ _ _, Below.refl _ _⟩

set_option maxRecDepth 100000 in
set_option maxHeartbeats 1000000 in
theorem cloneI_any (w : World) (b off n c : Nat) (zs : List Int) (hn : 1 ≤ n) (hn2 : n ≤ 1000000) (hl : zs.length = n) (hc : ∀ j (h : j < zs.length), w.cell? ⟨b, off + j, none⟩ = some (.int .i64 zs[j])) (hb : b < w.heap.size) :
    Calls Try.prog 190 #[.slice (some ⟨b, off, none⟩) n c] w (RetRow w (zs.map (Value.int .i64))) := by
  obtain ⟨i0, hi, hz0, hz1, hz2⟩ := info_parts info_int
  have hnl : (binOp .eql 24 (.slice (some ⟨b, off, none⟩) n c) (.slice none 0 0)).run Try.prog w = .ok (.bool false) w := Lib.run_eql_slice_nil w 24 3 (some ⟨b, off, none⟩) n c 0 0 Try.underlying24
  have H1 : (zs.map (Value.int .i64)).length = n * 1 := by simp [hl]
  have H2 : ∀ j u, (zs.map (Value.int .i64))[j]? = some u → (w.alloc (.cells #[] 3)).cell? ((⟨b, off, none⟩ : Addr).add j) = some u := by
    intro j u hu
    rw [add0, alloc_keep _ _ _ hb]
    simp only [List.getElem?_map, Option.map_eq_some_iff] at hu
    obtain ⟨z, hz, rfl⟩ := hu
    obtain ⟨hj, rfl⟩ := List.getElem?_eq_some_iff.1 hz
    exact hc j hj
  have H3 : ∀ u ∈ zs.map (Value.int .i64), u.oneCell' = true := by
    intro u hu
    obtain ⟨z, _, rfl⟩ := List.mem_map.1 hu
    rfl
  have HH1 := Lib.hid H1
  have HH2 := Lib.hid H2
  have HH3 := Lib.hid H3
  have HO : (w.alloc (.cells #[] 3)).ownsRow w.heap.size 3 1 (.slice (some ⟨w.heap.size, 0, none⟩) 0 0) 0 [] :=
    ⟨rfl, .inr ⟨w.heap.size, 0, #[], rfl, Nat.le_refl _, heap_alloc_new w _, Nat.le_refl _, by unfold maxLen; omega, rfl, rfl⟩⟩
  have HO' := Lib.hid HO
  have HL := Lib.hid hl
  clear H1 H2 H3 HO hc hl
  go_enter Try.func190, Try.ntmps190
  go_wp2_with (at_builtin
               refine wpList_append_own_at _ rfl _ _ 24 rfl w.heap.size 3 i0 _ 1 8 Try.underlying24 hi hz0 hz1 hz2 rfl (by omega) (.slice (some ⟨w.heap.size, 0, none⟩) 0 0) 0 [] rfl HO'.out ⟨b, off, none⟩ n c (zs.map (Value.int .i64)) rfl HH1.out HH2.out HH3.out (by unfold maxLen; omega) (by omega) (by simp) ?_
               intro v' w1 hown hg _ _
               have HW := Lib.hid hown
               have HG := Lib.hid hg
               clear hown hg)
  go_ret
  refine ⟨v', rfl, ?_, ((Below.refl _ w).alloc (Nat.le_refl _) _).grown HG.out (by simp) (fun k e => by cases e; exact Nat.le_refl _)⟩
  have := HW.out
  simpa [HL.out] using this

end Go.Proofs.Ytgbfccbnbgbknaa
