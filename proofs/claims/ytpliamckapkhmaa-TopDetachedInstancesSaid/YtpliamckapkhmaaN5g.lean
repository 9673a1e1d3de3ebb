/- The iterator over what binds make of the variables: its closure; outcomes. -/
import Derived.Test.YtpliamckapkhmaaN4g
import Derived.Deep.RegionHeld3
import Derived.Deep.AppendLies
import Derived.LoopIn
import Derived.LoopNIn
import Derived.RegionIn
namespace Go.Proofs.Ytpliamckapkhmaa
open Go.RowKit
attribute [local go_sem] Oper.semAt_some

theorem BindsAt.le {w : World} {B n : Nat} {A : Option Addr} {ls : List Hd} {bb : List Bd} (h : BindsAt w B A n ls bb) (hB : B ≤ w.heap.size) : BindsAt w w.heap.size A n ls bb := h.more hB
def encO (k : Nat) (x : Hd) : Array Value := #[.int .i64 (k : Int), .slice x.1 x.2.1 x.2.2]
/-- What the iterator hands out at variable k. -/
def HxO (bb : List Bd) (k : Nat) (x : Hd) (W : World) : Prop := IntsAt W W.heap.size x.1 x.2.1 (ofB bb (k : Int))
theorem HxO.putObj {bb : List Bd} {k : Nat} {x : Hd} {W : World} {l : Nat} {o o' : Obj} (h : HxO bb k x W) (hl : W.heap[l]? = some o) (ho : o.isCells = false) : HxO bb k x (W.putObj l o') := by
  refine ⟨h.len, h.max, fun hn => ?_⟩
  obtain ⟨b, off, e, hb, hc⟩ := h.mem hn
  exact ⟨b, off, e, by simpa using hb, fun j hj => cell_kept (hc j hj) (grownBy_putObj' W l o') (fun r e => by cases e; exact ⟨o, hl, ho⟩)⟩

set_option maxHeartbeats 400000 in
theorem outcomes_any (Ab : Option Addr) (nb cb : Nat) (w : World) :
    Calls Try.prog 78 #[.slice Ab nb cb] w fun e w' => e = .returned (.func (.func 111) #[] #[.pointer (some ⟨w.heap.size, 0, none⟩)]) ∧ w' = w.alloc (.cells #[.slice Ab nb cb] 36) := by
  go_enter Try.func78, Try.ntmps78
  go_wp2
  go_ret
  exact ⟨rfl, rfl⟩

set_option maxRecDepth 100000 in
set_option maxHeartbeats 2000000 in
theorem outC_in (l n Bl nb cb : Nat) (Ab : Option Addr) (ls : List Hd) (bb : List Bd) (ss : Sg) (J : Nat → World → Prop) (JL : World → Prop) (hok : bindsOk ss bb = true) (hnb : nb ≤ 1000000)
    (hJ : ∀ k A B, J k A → Below A.heap.size A B → J k B) (hJL : ∀ A B, JL A → Below A.heap.size A B → JL B)
    (hJF : ∀ k A, J k A → Blk A Bl 36 #[.slice Ab nb cb] ∧ BindsAt A A.heap.size Ab nb ls bb)
    (hY : ∀ m k x A, J k A → HxO bb k x A → k < 12 → YieldAt Fence.wide m Try.prog l (encO k x) A fun e B => (e = .returned (.bool true) ∧ J (k + 1) B) ∨ (e = .returned (.bool false) ∧ JL B))
    (W : World) (hJ0 : J 0 W) :
    CallsIn Fence.wide n Try.prog 111 #[.func (.yield l) #[] #[], .pointer (some ⟨Bl, 0, none⟩)] W fun e W' => (∃ v, e = .returned v) ∧ (J 12 W' ∨ JL W') := by
  have HASC := Lib.hid (bindsTo_asc hok)
  have HZ := Lib.hid (Nxt.zero hok)
  have HJ := Lib.hid hJ
  have HJL := Lib.hid hJL
  have HJF := Lib.hid hJF
  have HY := Lib.hid hY
  have HJ0 := Lib.hid hJ0
  clear hJ hJL hJF hY hJ0 hok
  refine callsIn_of_wp Try.func111 rfl trivial ?_ rfl
  simp only [Try.ntmps111, List.size_toArray, List.length_cons, List.length_nil, Nat.reduceAdd, Nat.reduceSub, Array.replicate_succ, Array.replicate_zero, List.push_toArray, List.append_toArray, List.nil_append, List.cons_append]
  gi_wp2
  gi_loopw [3, 6] (fun nx i wr => ∃ k m : Nat, k ≤ 12 ∧ i = .int .i64 k ∧ nx = .int .i64 m ∧ m ≤ nb ∧ Nxt bb (k : Int) m ∧ J k wr) (fun _ i _ => 12 - (intOf i).toNat)
  case atStart => exact ⟨0, 0, by omega, rfl, rfl, Nat.zero_le _, HZ.out, HJ0.out⟩
  case round =>
    obtain ⟨k, m, hk, rfl, rfl, hm, hnx, hJr⟩ := hrel
    obtain ⟨hbl, hbb⟩ := HJF.out k wr hJr
    have cbl := hbl.cell 0
    simp only [Array.getElem?_singleton, if_true] at cbl
    by_cases hlt : k < 12
    · obtain ⟨W1, hW1⟩ : ∃ W1, wr.alloc (.cells #[.int .i64 (-(k : Int) - 1)] 3) = W1 := ⟨_, rfl⟩
      have hB1 : Below wr.heap.size wr W1 := by rw [← hW1]; exact (Below.refl _ _).alloc (Nat.le_refl _) _
      have hJ1 := HJ.out k wr W1 hJr hB1
      have c1 := (hB1.cell (p := ⟨Bl, 0, none⟩) hbl.lt).trans cbl
      have CV := Lib.hid (variable_any (k : Int) wr (by omega) (by omega))
      rw [hW1] at CV
      have hvar : IntsAt W1 W1.heap.size (some ⟨wr.heap.size, 0, none⟩) 1 [-(k : Int) - 1] := by rw [← hW1]; exact ints_var wr _
      by_cases hmb : m < nb
      · obtain ⟨b, off, v, t, A', n', c', rfl, hb, q1, q2, e1, e2, hI⟩ := hbb.cellAt hmb
        have r1 := (hB1.cell (p := ⟨b, off + m * 2, none⟩) hb).trans q1
        have r2 := (hB1.cell (p := ⟨b, off + m * 2 + 1, none⟩) hb).trans q2
        by_cases hv : v = (k : Int)
        · obtain ⟨ho, hn'⟩ := hnx.hit HASC.out e1 hv
          have hx : HxO bb k (A', n', c') W1 := by unfold HxO; rw [ho]; exact (hI.up hB1)
          subst hv
          obtain ⟨fn, tmps, assign, body, hy, hR⟩ := HY.out (n - 1) k (A', n', c') W1 hJ1 hx hlt
          have hy' : (Instr.yield l #[.int .i64 (k : Int), .slice A' n' c']).run Try.prog W1 = .ok (.round l fn tmps assign body) W1 := hy
          have HRR := Lib.hid (hR.mono (R' := fun e B => ∃ q : Bool, e = .returned (.bool q) ∧ (q = true → J (k + 1) B) ∧ (q = false → JL B)) (fun e B h => h.elim (fun h => ⟨true, h.1, fun _ => h.2, fun e => by cases e⟩) (fun h => ⟨false, h.1, fun e => (by cases e), fun _ => h.2⟩)))
          have HN := Lib.hid hn'
          clear hJr hbl hbb hJ1 hvar e1 e2 hI q1 q2 ho hn' hx hy hR hnx hW1 hB1
          gi_wp2_with (first
            | (refine ⟨trivial, fun h => (by cases h), ?_⟩; gi_at_call 72; refine (callsIn_wide.2 CV.out).mono ?_; rintro e W2 ⟨rfl, rfl⟩)
            | ((try refine ⟨fun h => (by cases h), ?_⟩); refine HRR.out.mono ?_; rintro e W2 ⟨q, rfl, hq1, hq2⟩))
          · have hqf : q = false := by simpa using ‹(!q) = true›
            refine bodyPost_ret (results_none rfl _ _ _) rfl ?_
            exact ⟨⟨_, rfl⟩, .inr (hq2 hqf)⟩
          · have hqt : q = true := by simpa using ‹(!q) = false›
            refine ⟨⟨k + 1, m + 1, by omega, by go_num, by go_num, by omega, by rw [Int.natCast_succ]; exact HN.out, hq1 hqt⟩, by simp [intOf]; omega⟩
        · obtain ⟨ho, hn'⟩ := hnx.miss HASC.out (fun x hx => by rw [e1] at hx; cases hx; exact hv)
          have hx : HxO bb k (some ⟨wr.heap.size, 0, none⟩, 1, 1) W1 := by unfold HxO; rw [ho]; exact hvar
          have hv' : (v == (k : Int)) = false := by simpa using hv
          obtain ⟨fn, tmps, assign, body, hy, hR⟩ := HY.out (n - 1) k (some ⟨wr.heap.size, 0, none⟩, 1, 1) W1 hJ1 hx hlt
          have hy' : (Instr.yield l #[.int .i64 (k : Int), .slice (some ⟨wr.heap.size, 0, none⟩) 1 1]).run Try.prog W1 = .ok (.round l fn tmps assign body) W1 := hy
          have HRR := Lib.hid (hR.mono (R' := fun e B => ∃ q : Bool, e = .returned (.bool q) ∧ (q = true → J (k + 1) B) ∧ (q = false → JL B)) (fun e B h => h.elim (fun h => ⟨true, h.1, fun _ => h.2, fun e => by cases e⟩) (fun h => ⟨false, h.1, fun e => (by cases e), fun _ => h.2⟩)))
          have HN := Lib.hid hn'
          clear hJr hbl hbb hJ1 hvar e1 e2 hI q1 q2 r2 ho hn' hx hy hR hnx hW1 hB1
          gi_wp2_with (first
            | (refine ⟨trivial, fun h => (by cases h), ?_⟩; gi_at_call 72; refine (callsIn_wide.2 CV.out).mono ?_; rintro e W2 ⟨rfl, rfl⟩)
            | ((try refine ⟨fun h => (by cases h), ?_⟩); refine HRR.out.mono ?_; rintro e W2 ⟨q, rfl, hq1, hq2⟩))
          · have hqf : q = false := by simpa using ‹(!q) = true›
            refine bodyPost_ret (results_none rfl _ _ _) rfl ?_
            exact ⟨⟨_, rfl⟩, .inr (hq2 hqf)⟩
          · have hqt : q = true := by simpa using ‹(!q) = false›
            refine ⟨⟨k + 1, m, by omega, by go_num, by go_num, by omega, by rw [Int.natCast_succ]; exact HN.out, hq1 hqt⟩, by simp [intOf]; omega⟩
      · obtain rfl : m = nb := by omega
        obtain ⟨ho, hn'⟩ := hnx.miss HASC.out (fun x hx => by
          have h1 := (List.getElem?_eq_some_iff.1 hx).1
          have h2 := hbb.len
          omega)
        have hx : HxO bb k (some ⟨wr.heap.size, 0, none⟩, 1, 1) W1 := by unfold HxO; rw [ho]; exact hvar
        obtain ⟨fn, tmps, assign, body, hy, hR⟩ := HY.out (n - 1) k (some ⟨wr.heap.size, 0, none⟩, 1, 1) W1 hJ1 hx hlt
        have hy' : (Instr.yield l #[.int .i64 (k : Int), .slice (some ⟨wr.heap.size, 0, none⟩) 1 1]).run Try.prog W1 = .ok (.round l fn tmps assign body) W1 := hy
        have HRR := Lib.hid (hR.mono (R' := fun e B => ∃ q : Bool, e = .returned (.bool q) ∧ (q = true → J (k + 1) B) ∧ (q = false → JL B)) (fun e B h => h.elim (fun h => ⟨true, h.1, fun _ => h.2, fun e => by cases e⟩) (fun h => ⟨false, h.1, fun e => (by cases e), fun _ => h.2⟩)))
        have HN := Lib.hid hn'
        clear hJr hbl hbb hJ1 hvar  ho hn' hx hy hR hnx hW1 hB1
        gi_wp2_with (first
          | (refine ⟨trivial, fun h => (by cases h), ?_⟩; gi_at_call 72; refine (callsIn_wide.2 CV.out).mono ?_; rintro e W2 ⟨rfl, rfl⟩)
          | ((try refine ⟨fun h => (by cases h), ?_⟩); refine HRR.out.mono ?_; rintro e W2 ⟨q, rfl, hq1, hq2⟩))
        · have hqf : q = false := by simpa using ‹(!q) = true›
          refine bodyPost_ret (results_none rfl _ _ _) rfl ?_
          exact ⟨⟨_, rfl⟩, .inr (hq2 hqf)⟩
        · have hqt : q = true := by simpa using ‹(!q) = false›
          refine ⟨⟨k + 1, m, by omega, by go_num, by go_num, by omega, by rw [Int.natCast_succ]; exact HN.out, hq1 hqt⟩, by simp [intOf]; omega⟩
    · obtain rfl : k = 12 := by omega
      clear hbl hbb cbl hnx
      gi_wp2
      go_end0
      exact ⟨⟨_, rfl⟩, .inl hJr⟩

end Go.Proofs.Ytpliamckapkhmaa
