/- Contracts: Needed and Cited of the kernel and of the reference. -/
import Derived.Test.YtojofbmpknpggaaN5g
import Derived.Test.YtojofbmpknpggaaKDg
import Derived.Test.YtojofbmpknpggaaPFg
import Derived.LoopIn
import Derived.LoopNIn
import Derived.RegionIn
import Derived.Test.YtojofbmpknpggaaQVg
import Derived.Test.YtojofbmpknpggaaPJg
import Derived.Test.YtojofbmpknpggaaRRg
import Derived.Test.YtojofbmpknpggaaN13g
import Derived.RangeFuncLeaves
import Derived.RangeFuncCalls
import Derived.RangeFuncBound
import Derived.Shelf.Abstract
import Derived.Shelf.RegionOpen
import Derived.OwnWalkIn
import Derived.TacticsInMore
import Derived.Test.YtojofbmpknpggaaQTg
import Derived.Test.YtojofbmpknpggaaPUg
/- A range over an iterator whose rounds lay the element into a box of its own first. -/
namespace Go.Proofs.Ytojofbmpknpggaa
open Go.RowKit

theorem range_ka {P : Program} {α : Type} {g : Operand} {ps : Array Tmp} {assign body : Code} {Q : Exit → Act → World → Prop} {a : Act} {w : World} {n gf : Nat} {lb : Array Value}
    (hg : a.eval g = .func (.func gf) #[] lb) (eg : ∀ args w, (callFunc gf args).run P w = .ok (.enter gf args) w) {encs : Nat → α → Array Value} (hps : ∀ k x, (encs k x).size = ps.size)
    (Hx : Nat → α → World → Prop) (N : Nat) (I : Nat → World → Prop) (Ix : World → Prop) (hI : OwnFrom w.heap.size I) (hIx : OwnFrom w.heap.size (fun (_ : Unit) W => Ix W))
    (_hHx : ∀ k x W l o o', Hx k x W → w.heap.size ≤ l → W.heap[l]? = some o → o.isCells = false → Hx k x (W.putObj l o'))
    (h0 : I 0 w)
    (hseq : ∀ (l : Nat) (J : Nat → World → Prop) (JL : World → Prop) (V : World), Below w.heap.size w V → (∀ k A B, J k A → Below A.heap.size A B → J k B) → (∀ A B, JL A → Below A.heap.size A B → JL B) → (∀ k A, J k A → I k A) →
      (∀ m k x A, J k A → Hx k x A → k < N → YieldAt Fence.wide m P l (encs k x) A fun e B => (e = .returned (.bool true) ∧ J (k + 1) B) ∨ (e = .returned (.bool false) ∧ JL B)) → J 0 V →
      CallsIn Fence.wide (n - 1) P gf (#[.func (.yield l) #[] #[]] ++ lb) V fun e B => (∃ v, e = .returned v) ∧ (J N B ∨ JL B))
    (a₁ : Nat → α → Nat → Act) (o : α → Obj)
    (hassign : ∀ (l m : Nat) (k : Nat) (x : α) (W : World) (s : Nat) (K : Act → World → Prop), W.heap.size = s → K (a₁ k x s) (W.alloc (o x)) →
      assign.wpIn (Fence.wide.inRound l) m P (Exit.then K (fun _ _ _ => False)) { tmps := (ps.zip (encs k x)).foldl (fun t (p, v) => t.setIfInBounds p v) a.tmps, defers := [] } W)
    (hbody : ∀ (l m : Nat) (k : Nat) (x : α) (A W : World), I k A → Hx k x A → I k W → W.heap[A.heap.size]? = some (o x) → k < N → body.wpIn (Fence.wide.inRound l) m P (fun e _ W' => (e = .normal ∧ KeepsFrom w.heap.size W W' ∧ I (k + 1) W') ∨ (e = .ret ∧ KeepsFrom w.heap.size W W' ∧ Ix W')) (a₁ k x A.heap.size) W)
    (hdone : ∀ (D : Nat) (W : World), w.heap.size ≤ D → I N W → W.heap[D]? = some (.deferred (some [])) → Q .normal { a with defers := { target := .collected D, args := #[] } :: a.defers } W)
    (hstop : ∀ (D : Nat) (W : World), w.heap.size ≤ D → Ix W → W.heap[D]? = some (.deferred (some [])) → Code.ret.wpIn Fence.wide n P Q { a with defers := { target := .collected D, args := #[] } :: a.defers } W) :
    (Code.rangeFunc g ps assign body).wpIn Fence.wide n P Q a w := by
  refine wpIn_rangeFunc fun fn _ => ?_
  let rec0 (st : LoopState) (pe : Option Code) : Loop := { state := st, pending := pe, fn, tmps := a.tmps, params := ps, assign, body, defers := w.heap.size }
  let V := (w.alloc (.deferred (some []))).alloc (.loop (rec0 .ready none))
  have sizeD : (w.alloc (.deferred (some []))).heap.size = w.heap.size + 1 := by simp
  have bV : Below w.heap.size w V := ((Below.refl _ w).alloc (Nat.le_refl _) _).alloc (by omega) _
  have atL : V.heap[w.heap.size + 1]? = some (.loop (rec0 .ready none)) := by
    have := World.alloc_heap_new (w.alloc (.deferred (some []))) (.loop (rec0 .ready none))
    rwa [sizeD] at this
  have atD : V.heap[w.heap.size]? = some (.deferred (some [])) := (Below.heap_alloc _ _ _ (by omega)).trans (World.alloc_heap_new w _)
  have iV : I 0 V := hI.alloc _ (hI.alloc _ h0)
  let J (k : Nat) (A : World) : Prop := I k A ∧ A.heap[w.heap.size + 1]? = some (.loop (rec0 .ready none)) ∧ A.heap[w.heap.size]? = some (.deferred (some []))
  let JL (A : World) : Prop := Ix A ∧ A.heap[w.heap.size + 1]? = some (.loop (rec0 .done (some .ret))) ∧ A.heap[w.heap.size]? = some (.deferred (some []))
  have round : ∀ m k x A, J k A → Hx k x A → k < N → YieldAt Fence.wide m P (w.heap.size + 1) (encs k x) A fun e B => (e = .returned (.bool true) ∧ J (k + 1) B) ∨ (e = .returned (.bool false) ∧ JL B) := by
    intro m k x A ⟨i1, i2, i3⟩ hx hlen
    have ltL : w.heap.size + 1 < A.heap.size := (Array.getElem?_eq_some_iff.1 i2).1
    have i2' : (A.alloc (o x)).heap[w.heap.size + 1]? = some (.loop (rec0 .ready none)) := (Below.heap_alloc A _ _ ltL).trans i2
    have i3' : (A.alloc (o x)).heap[w.heap.size]? = some (.deferred (some [])) := (Below.heap_alloc A _ _ (by omega)).trans i3
    have ltL' : w.heap.size + 1 < (A.alloc (o x)).heap.size := (Array.getElem?_eq_some_iff.1 i2').1
    refine ⟨fn, _, assign, body, run_yield (P := P) i2 (hps k x), roundIn_of_wpIn trivial (hassign _ _ k x A _ _ rfl ⟨_, run_beginRound i2' rfl, ?_⟩)⟩
    refine wpIn_mono (hbody _ _ k x A _ i1 hx (hI.putObj _ (hI.alloc _ i1) (by omega) i2' rfl) ((World.putObj_heap_other (by omega)).trans (World.alloc_heap_new A _)) hlen) ?_
    rintro e a3 B (⟨rfl, hk, hi⟩ | ⟨rfl, hk, hi⟩)
    · have l2 := hk.same (w.heap.size + 1) _ (by omega) (World.putObj_heap_same ltL') rfl
      have d2 := hk.same w.heap.size _ (Nat.le_refl _) ((World.putObj_heap_other (by omega)).trans i3') rfl
      exact ⟨_, _, run_endRound (P := P) none l2, .inl ⟨rfl, hI.putObj _ hi (by omega) l2 rfl, World.putObj_heap_same (Array.getElem?_eq_some_iff.1 l2).1, (World.putObj_heap_other (by omega)).trans d2⟩⟩
    · have l2 := hk.same (w.heap.size + 1) _ (by omega) (World.putObj_heap_same ltL') rfl
      have d2 := hk.same w.heap.size _ (Nat.le_refl _) ((World.putObj_heap_other (by omega)).trans i3') rfl
      exact ⟨_, _, run_endRound (P := P) (some .ret) l2, .inr ⟨rfl, hIx.putObj (s := ()) _ hi (by omega) l2 rfl, World.putObj_heap_same (Array.getElem?_eq_some_iff.1 l2).1, (World.putObj_heap_other (by omega)).trans d2⟩⟩
  have abide : ∀ k A B, J k A → Below A.heap.size A B → J k B := fun k A B ⟨j1, j2, j3⟩ hb =>
    ⟨hI k A B none j1 (grown_of_below hb) (fun r e => by cases e), (hb.block _ (Array.getElem?_eq_some_iff.1 j2).1).trans j2, (hb.block _ (Array.getElem?_eq_some_iff.1 j3).1).trans j3⟩
  have abideL : ∀ A B, JL A → Below A.heap.size A B → JL B := fun A B ⟨j1, j2, j3⟩ hb =>
    ⟨hIx () A B none j1 (grown_of_below hb) (fun r e => by cases e), (hb.block _ (Array.getElem?_eq_some_iff.1 j2).1).trans j2, (hb.block _ (Array.getElem?_eq_some_iff.1 j3).1).trans j3⟩
  refine ⟨w.heap.size + 1, [{ target := .collected w.heap.size, args := #[] }], V, { target := .fn (.func gf) lb, args := #[.func (.yield (w.heap.size + 1)) #[] #[]] }, V, gf, #[.func (.yield (w.heap.size + 1)) #[] #[]] ++ lb, V,
    run_enterLoop_outer _ _ _ _ _, ?_, fun _ _ => trivial, by simp [invoke, go_sem, eg], fun h => (by cases h), ?_⟩
  · simp only [resolve, hg]
    simp [go_sem]
  · refine (hseq (w.heap.size + 1) J JL V bV abide abideL (fun k A h => h.1) round ⟨iV, atL, atD⟩).mono ?_
    rintro e B ⟨⟨v, rfl⟩, ⟨j1, j2, j3⟩ | ⟨j1, j2, j3⟩⟩
    · exact ⟨none, _, run_endLoop (P := P) j2 (by simp [rec0]), hdone _ _ (Nat.le_refl _) (hI.putObj _ j1 (by omega) j2 rfl) ((World.putObj_heap_other (by omega)).trans j3)⟩
    · exact ⟨some .ret, _, run_endLoop (P := P) j2 (by simp [rec0]), hstop _ _ (Nat.le_refl _) (hIx.putObj (s := ()) _ j1 (by omega) j2 rfl) ((World.putObj_heap_other (by omega)).trans j3)⟩

end Go.Proofs.Ytojofbmpknpggaa

/- Contract: slices.Backward of steps: its closure hands out the steps from the last one. -/
namespace Go.Proofs.Ytojofbmpknpggaa
open Go.RowKit
attribute [local go_sem] Oper.semAt_some

def encBS (N : Nat) (k : Nat) (x : Stp) : Array Value := #[.int .i64 ((N : Int) - 1 - (k : Int)), .agg #[.int .i64 x.1, .int .i64 x.2.1, .int .i64 x.2.2]]
/-- What is handed out in round k. -/
def HxBS (nums : List Stp) (k : Nat) (x : Stp) (_ : World) : Prop := nums[nums.length - 1 - k]? = some x

set_option maxHeartbeats 400000 in
theorem backwardS_any (A : Option Addr) (n c : Nat) (w : World) :
    Calls Try.prog 51 #[.slice A n c] w fun e w' => e = .returned (.func (.func 62) #[] #[.pointer (some ⟨w.heap.size, 0, none⟩)]) ∧ w' = w.alloc (.cells #[.slice A n c] 22) := by
  go_enter Try.func51, Try.ntmps51
  go_wp2
  go_ret
  exact ⟨rfl, rfl⟩

set_option maxRecDepth 100000 in
set_option maxHeartbeats 2000000 in
theorem bwdS_in (l n Bl g off c : Nat) (nums : List Stp) (J : Nat → World → Prop) (JL : World → Prop) (hN : nums.length ≤ 1000)
    (hJF : ∀ k A, J k A → Blk A Bl 22 #[.slice (some ⟨g, off, none⟩) nums.length c] ∧ ∀ (i : Nat) (x : Stp), nums[i]? = some x → A.cell? ⟨g, off + i * 3, none⟩ = some (.int .i64 x.1) ∧ A.cell? ⟨g, off + i * 3 + 1, none⟩ = some (.int .i64 x.2.1) ∧ A.cell? ⟨g, off + i * 3 + 2, none⟩ = some (.int .i64 x.2.2))
    (hY : ∀ m k x A, J k A → HxBS nums k x A → k < nums.length → YieldAt Fence.wide m Try.prog l (encBS nums.length k x) A fun e B => (e = .returned (.bool true) ∧ J (k + 1) B) ∨ (e = .returned (.bool false) ∧ JL B))
    (W : World) (hJ0 : J 0 W) :
    CallsIn Fence.wide n Try.prog 62 #[.func (.yield l) #[] #[], .pointer (some ⟨Bl, 0, none⟩)] W fun e W' => (∃ v, e = .returned v) ∧ (J nums.length W' ∨ JL W') := by
  have HJF := Lib.hid hJF
  have HY := Lib.hid hY
  have HJ0 := Lib.hid hJ0
  obtain ⟨cb0, _⟩ := hJF 0 W hJ0
  have cb0 := cb0.cell 0
  simp only [List.getElem?_toArray, List.getElem?_cons_zero] at cb0
  obtain ⟨N, hNN⟩ : ∃ N, nums.length = N := ⟨_, rfl⟩
  have HN := Lib.hid hNN
  rw [hNN] at cb0 hN HJF HY ⊢
  clear hJF hY hJ0 hNN
  refine callsIn_of_wp Try.func62 rfl trivial ?_ rfl
  simp only [Try.ntmps62, List.size_toArray, List.length_cons, List.length_nil, Nat.reduceAdd, Nat.reduceSub, Array.replicate_succ, Array.replicate_zero, List.push_toArray, List.append_toArray, List.nil_append, List.cons_append]
  gi_wp2
  gi_loopw [3] (fun i wr => ∃ k : Nat, k ≤ N ∧ i = .int .i64 ((N : Int) - 1 - (k : Int)) ∧ J k wr) (fun i _ => (intOf i + 1).toNat)
  case atStart => exact ⟨0, by omega, by go_num, HJ0.out⟩
  case round =>
    obtain ⟨k, hk, rfl, hJr⟩ := hrel
    obtain ⟨hbl, hcells⟩ := HJF.out k wr hJr
    have cbl := hbl.cell 0
    simp only [List.getElem?_toArray, List.getElem?_cons_zero] at cbl
    by_cases hlt : k < N
    · obtain ⟨i, hi⟩ : ∃ i : Nat, (N : Int) - 1 - (k : Int) = (i : Int) := ⟨N - 1 - k, by omega⟩
      have hiN : i < N := by omega
      have hil : i < nums.length := by rw [HN.out]; exact hiN
      have hx : nums[i]? = some nums[i] := List.getElem?_eq_getElem hil
      obtain ⟨x, hxx⟩ : ∃ x, nums[i] = x := ⟨_, rfl⟩
      rw [hxx] at hx
      have hHx : HxBS nums k x wr := by unfold HxBS; rw [HN.out, show N - 1 - k = i by omega]; exact hx
      obtain ⟨x1, x2, x3⟩ := x
      obtain ⟨hc1, hc2, hc3⟩ := hcells i _ hx
      simp only at hc1 hc2 hc3
      obtain ⟨fn, tmps, assign, body, hy, hR⟩ := HY.out (n - 1) k _ wr hJr hHx hlt
      have hy' : (Instr.yield l #[.int .i64 (i : Int), .agg #[.int .i64 x1, .int .i64 x2, .int .i64 x3]]).run Try.prog wr = .ok (.round l fn tmps assign body) wr := by rw [← hi]; exact hy
      have HRR := Lib.hid (hR.mono (R' := fun e B => ∃ q : Bool, e = .returned (.bool q) ∧ (q = true → J (k + 1) B) ∧ (q = false → JL B)) (fun e B h => h.elim (fun h => ⟨true, h.1, fun _ => h.2, fun e => by cases e⟩) (fun h => ⟨false, h.1, fun e => (by cases e), fun _ => h.2⟩)))
      have hi0 : (0 : Int) ≤ (i : Int) := by omega
      have hi9 : (i : Int) ≤ 1000 := by omega
      have hi1 : (i : Int) < (N : Int) := by omega
      rw [hi]
      have HI := Lib.hid hi
      clear hJr hbl hcells hHx hy hR hxx hx hil hi
      gi_wp2_with ((try refine ⟨fun h => (by cases h), ?_⟩); refine HRR.out.mono ?_; rintro e W2 ⟨q, rfl, hq1, hq2⟩)
      · have hqf : q = false := by simpa using ‹(!q) = true›
        refine bodyPost_ret (results_none rfl _ _ _) rfl ?_
        exact ⟨⟨_, rfl⟩, .inr (hq2 hqf)⟩
      · have hqt : q = true := by simpa using ‹(!q) = false›
        refine ⟨⟨k + 1, by omega, ?_, hq1 hqt⟩, ?_⟩
        · have := HI.out
          rw [show (N : Int) - 1 - ((k + 1 : Nat) : Int) = (i : Int) - 1 by omega]
        · have := HI.out
          simp [intOf]
    · obtain rfl : k = N := by omega
      clear hbl cbl hcells
      gi_wp2
      go_end0
      exact ⟨⟨_, rfl⟩, .inl hJr⟩

end Go.Proofs.Ytojofbmpknpggaa

/- The reference's needed; words for rows of flags. -/
namespace Go.Proofs.Ytojofbmpknpggaa
open Go.RowKit

theorem info_flag : (Try.prog.info? 4).map (fun i => (i.zero, i.size, i.bytes)) = some (some (.bool false), 1, 1) := by kernel_rfl
/-- The cells of flags. -/
def blC (l : List Bool) : Array Value := (l.map Value.bool).toArray
theorem blC_get {l : List Bool} {j : Nat} (h : j < l.length) : (blC l)[j]? = some (.bool (l.getD j false)) := by
  unfold blC
  rw [List.getElem?_toArray, List.getElem?_map, List.getElem?_eq_getElem h, List.getD_eq_getElem?_getD, List.getElem?_eq_getElem h]
  rfl
theorem blC_set (l : List Bool) (j : Nat) (q : Bool) : (blC l).setIfInBounds j (.bool q) = blC (l.set j q) := by
  unfold blC
  rw [List.setIfInBounds_toArray, List.map_set]
theorem ndStep_no {pp : List Stp} {k : Nat} {b : List Bool} (h : b.getD k false = false ∨ (pp.getD k (0, 0, 0)).1 ≠ 2) : ndStep pp k b = b := by
  unfold ndStep
  rw [if_neg]
  rintro ⟨h1, h2⟩
  rcases h with h | h
  · rw [h] at h1; cases h1
  · exact h h2
theorem ndStep_yes {pp : List Stp} {k yn zn : Nat} {b : List Bool} (h : b.getD k false = true) (hd : pp.getD k (0, 0, 0) = (2, (yn : Int), (zn : Int))) : ndStep pp k b = (b.set yn true).set zn true := by
  unfold ndStep
  rw [if_pos ⟨h, by rw [hd]⟩, hd]
  simp only [Int.toNat_natCast]
theorem needT_succ {pp : List Stp} {n k : Nat} (hn : n = pp.length) (hk : k < n) : needT pp (n - k) = ndStep pp k (needT pp (n - (k + 1))) := by
  subst hn
  rw [show pp.length - k = (pp.length - (k + 1)) + 1 by omega, needT, show pp.length - (pp.length - (k + 1) + 1) = k by omega]

end Go.Proofs.Ytojofbmpknpggaa

/- Contract: kernel.needed. -/
namespace Go.Proofs.Ytojofbmpknpggaa
open Go.RowKit Go.Shelf
attribute [local go_sem] Oper.semAt_some

/-- What the rounds over the steps keep: the flags, their header's box, the steps' box. -/
structure INd (w : World) (b off n c : Nat) (pp : List Stp) (k : Nat) (W : World) : Prop where
  kF : Blk W w.heap.size 4 (blC (needT pp k))
  kH : Blk W (w.heap.size + 1) 93 #[.slice (some ⟨w.heap.size, 0, none⟩) n n]
  kS : Blk W (w.heap.size + 2) 22 #[.slice (some ⟨b, off, none⟩) n c]
  kW : Below w.heap.size w W
theorem INd.own {w : World} {b off n c B : Nat} {pp : List Stp} (hB : w.heap.size ≤ B) : OwnFrom B (INd w b off n c pp) := by
  rintro k W W' row ⟨h1, h2, h3, h4⟩ hg hr
  have hr' := fun r e => (hr r e).2
  exact ⟨(grownBy_keeps_cells hg hr' h1 rfl).trans h1, (grownBy_keeps_cells hg hr' h2 rfl).trans h2, (grownBy_keeps_cells hg hr' h3 rfl).trans h3, below_grown h4 hg hr hB⟩

set_option maxRecDepth 100000 in
set_option maxHeartbeats 4000000 in
theorem needed_any (g : Int) (A : Option Addr) (n c : Nat) (pp : List Stp) (w : World) (hp : StepsAt w w.heap.size A n pp) (hok : proofOk g pp = true) :
    Calls Try.prog 59 #[.slice A n c] w (RetOwn w (idxT (needB pp) n)) := by
  obtain ⟨_, hl60, hto⟩ := proofOk_to hok
  have hlp := hp.len
  have hn1 : 1 ≤ n := by omega
  have hn60 : n ≤ 60 := by omega
  obtain ⟨i0, hi, hz0, hz1, hz2⟩ := info_parts info_flag
  have hmk : ∀ W : World, (Instr.makeSlice 93 (.int .i64 (n : Int)) (.int .i64 (n : Int))).run Try.prog W = .ok (.slice (some ⟨W.heap.size, 0, none⟩) n n) (W.alloc (.cells (blC (List.replicate n false)) 4)) := by
    intro W
    have e : blC (List.replicate n false) = madeCells #[.bool false] (n * 1) := by
      unfold blC madeCells
      apply Array.ext
      · simp
      · intro i h1 h2
        simp [Nat.mod_one]
    rw [e]
    have := run_make_rowN (P := Try.prog) 93 4 i0 _ Try.underlying93 hi hz0 .i64 .i64 n n (Nat.le_refl _) (by rw [hz2]; omega) (by omega) W
    rw [hz1] at this
    exact this
  have HTO := Lib.hid (fun k (hk : k < n) (x : Stp) (hx : pp[k]? = some x) => show (x.1 = 1 ∧ 0 ≤ x.2.1 ∧ x.2.1 < g ∧ x.2.2 = 0) ∨ (x.1 = 2 ∧ 0 ≤ x.2.1 ∧ x.2.1 < (k : Int) ∧ 0 ≤ x.2.2 ∧ x.2.2 < (k : Int)) from stepOk_num (hto k (by omega) x hx))
  obtain ⟨b, off, rfl, hb0, _⟩ := hp.mem (by omega)
  have HP := Lib.hid hp
  have HLP := Lib.hid hlp
  have HNL := Lib.hid (fun j => (needT_len pp j).trans hlp.symm)
  have HRL := Lib.hid (show (idxT (needB pp) n).length ≤ 60 from by have := idxT_len (needB pp) n; omega)
  obtain ⟨Wa, hWa⟩ : ∃ Wa, w.alloc (.cells (blC (List.replicate n false)) 4) = Wa := ⟨_, rfl⟩
  have sa : Wa.heap.size = w.heap.size + 1 := by rw [← hWa]; simp
  have ba : Below w.heap.size w Wa := by rw [← hWa]; exact bel_al (Below.refl _ _) _
  have ka : Blk Wa w.heap.size 4 (blC (List.replicate n false)) := by rw [← hWa]; exact Blk.new _ _ _
  obtain ⟨Wb, hWb⟩ : ∃ Wb, Wa.alloc (.cells #[.slice (some ⟨w.heap.size, 0, none⟩) n n] 93) = Wb := ⟨_, rfl⟩
  have sb : Wb.heap.size = w.heap.size + 2 := by rw [← hWb]; simp [sa]
  have bb : Below w.heap.size w Wb := by rw [← hWb]; exact bel_al ba _
  have kb : Blk Wb w.heap.size 4 (blC (List.replicate n false)) := by rw [← hWb]; exact ka.alloc _
  have kh : Blk Wb (w.heap.size + 1) 93 #[.slice (some ⟨w.heap.size, 0, none⟩) n n] := by rw [← hWb, ← sa]; exact Blk.new _ _ _
  have c0 : Wb.cell? ⟨w.heap.size + 1, 0, none⟩ = some (.slice (some ⟨w.heap.size, 0, none⟩) n n) := kh.cell 0
  have m0 : Wb.cell? ⟨w.heap.size, n - 1, none⟩ = some (.bool false) := by
    rw [kb.cell, blC_get (by rw [List.length_replicate]; omega), List.getD_eq_getElem?_getD, List.getElem?_replicate]
    split <;> rfl
  have m1 : Wb.frozen? ⟨w.heap.size, n - 1, none⟩ = false := kb.frozen _
  obtain ⟨W2, hW2⟩ : ∃ W2, Wb.setCell ⟨w.heap.size, n - 1, none⟩ (.bool true) = W2 := ⟨_, rfl⟩
  have s2 : W2.heap.size = w.heap.size + 2 := by rw [← hW2, World.size_setCell, sb]
  have k2 : Blk W2 w.heap.size 4 (blC (needT pp 0)) := by
    rw [← hW2]
    have h := kb.set_ (n - 1) (.bool true)
    rw [blC_set] at h
    rw [needT, ← hlp]
    exact h
  have kh2 : Blk W2 (w.heap.size + 1) 93 #[.slice (some ⟨w.heap.size, 0, none⟩) n n] := by rw [← hW2]; exact kh.far (p := ⟨w.heap.size, n - 1, none⟩) (by simp only; omega) _
  have b2 : Below w.heap.size w W2 := by rw [← hW2]; exact bb.setCell (p := ⟨w.heap.size, n - 1, none⟩) (Nat.le_refl _) _
  obtain ⟨W5, hW5⟩ : ∃ W5, W2.alloc (.cells #[.slice (some ⟨b, off, none⟩) n c] 22) = W5 := ⟨_, rfl⟩
  have s5 : W5.heap.size = w.heap.size + 3 := by rw [← hW5]; simp [s2]
  have HI0 : Hid (INd w b off n c pp 0 W5) := Lib.hid (by
    rw [← hW5]
    refine ⟨k2.alloc _, kh2.alloc _, ?_, bel_al b2 _⟩
    rw [← s2]
    exact Blk.new _ _ _)
  have hn0 : (0 : Int) ≤ (n : Int) - 1 := by omega
  have hn9 : (n : Int) - 1 < (n : Int) := by omega
  have HW2 := Lib.hid hW2
  have HW5 := Lib.hid hW5
  have HS2 := Lib.hid s2
  clear hp hok hto hl60 hlp ka kb kh kh2 k2 b2 bb ba hW2 hW5 s2 hb0
  refine callsIn_wide (n := 5) |>.1 ?_
  refine callsIn_of_wp_marks Try.func59 rfl trivial ?_ rfl
  simp only [Try.ntmps59, List.size_toArray, List.length_cons, List.length_nil, Nat.reduceAdd, Nat.reduceSub, Array.replicate_succ, Array.replicate_zero, List.push_toArray, List.append_toArray, List.nil_append, List.cons_append]
  gi_wp2_with (refine ⟨trivial, ?_⟩; gi_at_call 51; refine (callsIn_wide.2 (backwardS_any _ _ _ _)).mono ?_; rintro e w5 ⟨rfl, rfl⟩)
  rw [HW2.out, HW5.out]
  clear hmk hi hz0 hz1 hz2 m0 m1 hWa hWb sa sb c0
  refine' range_ka (gf := 62) (lb := #[.pointer (some ⟨w.heap.size + 2, 0, none⟩)]) rfl (enters_of Try.func62 (by kernel_rfl) rfl) (encs := encBS n) (fun _ _ => rfl)
    (HxBS pp) n (INd w b off n c pp) (fun _ => False) (INd.own (by omega)) (fun _ _ _ _ h _ _ => h.elim) (fun k x W l o o' hx _ _ _ => hx) HI0.out ?seq _ (fun x => .cells #[.int .i64 x.1, .int .i64 x.2.1, .int .i64 x.2.2] 33) ?assign ?body ?done ?stop
  case seq =>
    intro l J JL V hV hJ hJL hJI hY hJ0
    have := bwdS_in l 4 (w.heap.size + 2) b off c pp J JL (by rw [← HLP.out]; omega) (fun k A hA => by
      have h := hJI k A hA
      refine ⟨by rw [← HLP.out]; exact h.kS, fun i x hx => ?_⟩
      obtain ⟨hil, rfl⟩ := List.getElem?_eq_some_iff.1 hx
      have hin : i < n := by rw [HLP.out]; exact hil
      obtain ⟨b', off', x1, x2, x3, e', hb', q1, q2, q3, q4⟩ := HP.out.cellAt hin
      cases e'
      rw [List.getElem?_eq_getElem hil] at q4
      have q5 := Option.some.inj q4
      rw [q5]
      exact ⟨(h.kW.cell (p := ⟨b, off + i * 3, none⟩) hb').trans q1, (h.kW.cell (p := ⟨b, off + i * 3 + 1, none⟩) hb').trans q2, (h.kW.cell (p := ⟨b, off + i * 3 + 2, none⟩) hb').trans q3⟩) (by rw [← HLP.out]; exact hY) V hJ0
    rw [← HLP.out] at this
    exact this
  case assign =>
    intro l m k x W s K hs hK
    unfold encBS
    gi_wp2
    exact hK
  case body =>
    rintro l m k ⟨x, y, z⟩ A0 W hIA hx hI hbox hk
    obtain ⟨s, hs⟩ : ∃ s, A0.heap.size = s := ⟨_, rfl⟩
    have hs1 := hIA.kS.lt
    rw [hs] at hs1 hbox
    simp only at hbox
    obtain ⟨p, hp⟩ : ∃ p : Nat, (n : Int) - 1 - (k : Int) = (p : Int) := ⟨n - 1 - k, by omega⟩
    have hpn : p < n := by omega
    have hkp : k = n - (p + 1) := by omega
    have hxp : pp[p]? = some (x, y, z) := by
      unfold HxBS at hx
      rw [← HLP.out, show n - 1 - k = p by omega] at hx
      exact hx
    have hd : pp.getD p (0, 0, 0) = (x, y, z) := by rw [List.getD_eq_getElem?_getD, hxp]; rfl
    have hsucc := needT_succ HLP.out hpn
    rw [show n - p = k + 1 by omega, ← hkp] at hsucc
    have hlen := HNL.out k
    obtain ⟨L, hL⟩ : ∃ L, needT pp k = L := ⟨_, rfl⟩
    have hkF := hI.kF
    rw [hL] at hkF hsucc hlen
    have f1 : Blk W w.heap.size 4 (blC L) := hkF
    have f2 := hI.kH
    have f3 := hI.kS
    have f4 : Blk W s 33 #[.int .i64 x, .int .i64 y, .int .i64 z] := hbox
    have f5 := hI.kW
    have hk1 : KeepsFrom (w.heap.size + 3) W W := KeepsFrom.refl _ _
    have e0 : W.cell? ⟨s, 0, none⟩ = some (.int .i64 x) := f4.cell 0
    have e1 : W.cell? ⟨s, 1, none⟩ = some (.int .i64 y) := f4.cell 1
    have e2 : W.cell? ⟨s, 2, none⟩ = some (.int .i64 z) := f4.cell 2
    have e3 : W.cell? ⟨w.heap.size + 1, 0, none⟩ = some (.slice (some ⟨w.heap.size, 0, none⟩) n n) := f2.cell 0
    have e4 : W.cell? ⟨w.heap.size, p, none⟩ = some (.bool (L.getD p false)) := by rw [f1.cell, blC_get (by omega)]
    obtain ⟨q, hq⟩ : ∃ q, L.getD p false = q := ⟨_, rfl⟩
    rw [hq] at e4
    have hp0 : (0 : Int) ≤ (p : Int) := by omega
    have hp1 : (p : Int) < (n : Int) := by omega
    simp only [hs, hp]
    cases q
    · have HN := Lib.hid (show INd w b off n c pp (k + 1) W from ⟨by rw [hsucc, ndStep_no (.inl hq)]; exact f1, f2, f3, f5⟩)
      have HK1 := Lib.hid hk1
      clear hI hx hxp hd hsucc hlen hL hkF f1 f2 f3 f4 f5 hk1 hq hp hkp hIA hbox hs
      gi_wp2_with fail
      exact ⟨HK1.out, HN.out⟩
    · rcases HTO.out p hpn _ hxp with ⟨h1, h2, h3, h4⟩ | ⟨h1, h2, h3, h4, h5⟩
      · simp only at h1
        subst h1
        have HN := Lib.hid (show INd w b off n c pp (k + 1) W from ⟨by rw [hsucc, ndStep_no (.inr (by rw [hd]; simp))]; exact f1, f2, f3, f5⟩)
        have HK1 := Lib.hid hk1
        clear hI hx hxp hd hsucc hlen hL hkF f1 f2 f3 f4 f5 hk1 hq hp hkp hIA hbox hs h2 h3 h4
        gi_wp2_with fail
        exact ⟨HK1.out, HN.out⟩
      simp only at h1 h2 h3 h4 h5
      subst h1
      obtain ⟨yn, rfl⟩ := Int.eq_ofNat_of_zero_le h2
      obtain ⟨zn, rfl⟩ := Int.eq_ofNat_of_zero_le h4
      have hyn : yn < p := by omega
      have hzn : zn < p := by omega
      have hnd := ndStep_yes hq hd
      have b1 := f1.set_ yn (.bool true)
      rw [blC_set] at b1
      have b2 := b1.set_ zn (.bool true)
      rw [blC_set, ← hnd, ← hsucc] at b2
      have c1 : W.cell? ⟨w.heap.size, yn, none⟩ = some (.bool (L.getD yn false)) := by rw [f1.cell, blC_get (by omega)]
      have c2 : W.frozen? ⟨w.heap.size, yn, none⟩ = false := f1.frozen _
      have c3 : (W.setCell ⟨w.heap.size, yn, none⟩ (.bool true)).cell? ⟨w.heap.size, zn, none⟩ = some (.bool ((L.set yn true).getD zn false)) := by rw [b1.cell, blC_get (by rw [List.length_set]; omega)]
      have c4 : (W.setCell ⟨w.heap.size, yn, none⟩ (.bool true)).frozen? ⟨w.heap.size, zn, none⟩ = false := b1.frozen _
      have HN := Lib.hid (show INd w b off n c pp (k + 1) ((W.setCell ⟨w.heap.size, yn, none⟩ (.bool true)).setCell ⟨w.heap.size, zn, none⟩ (.bool true)) from
        ⟨b2, (f2.far (p := ⟨w.heap.size, yn, none⟩) (by simp only; omega) _).far (p := ⟨w.heap.size, zn, none⟩) (by simp only; omega) _, (f3.far (p := ⟨w.heap.size, yn, none⟩) (by simp only; omega) _).far (p := ⟨w.heap.size, zn, none⟩) (by simp only; omega) _, (f5.setCell (p := ⟨w.heap.size, yn, none⟩) (Nat.le_refl _) _).setCell (p := ⟨w.heap.size, zn, none⟩) (Nat.le_refl _) _⟩)
      have HK1 := Lib.hid ((hk1.trans ((KeepsOthers.setCell W ⟨w.heap.size, yn, none⟩ (.bool true)).from _)).trans ((KeepsOthers.setCell (W.setCell ⟨w.heap.size, yn, none⟩ (.bool true)) ⟨w.heap.size, zn, none⟩ (.bool true)).from _))
      have far : ∀ (V : World) (j d m : Nat) (u : Value), d ≠ w.heap.size → (V.setCell ⟨w.heap.size, j, none⟩ u).cell? ⟨d, m, none⟩ = V.cell? ⟨d, m, none⟩ := fun V j d m u hd => World.cell?_setCell_far V ⟨w.heap.size, j, none⟩ ⟨d, m, none⟩ u (show w.heap.size ≠ d from Ne.symm hd)
      have HPUT := Lib.hid (And.intro ((far W yn s 1 (.bool true) (by omega)).trans e1) (And.intro ((far W yn s 2 (.bool true) (by omega)).trans e2) ((far W yn (w.heap.size + 1) 0 (.bool true) (by omega)).trans e3)))
      have HPUT2 := Lib.hid (And.intro ((far _ zn s 1 (.bool true) (by omega)).trans HPUT.out.1) (And.intro ((far _ zn s 2 (.bool true) (by omega)).trans HPUT.out.2.1) ((far _ zn (w.heap.size + 1) 0 (.bool true) (by omega)).trans HPUT.out.2.2)))
      have y0 : (0 : Int) ≤ (yn : Int) := by omega
      have z0 : (0 : Int) ≤ (zn : Int) := by omega
      have y1 : (yn : Int) < (n : Int) := by omega
      have z1 : (zn : Int) < (n : Int) := by omega
      clear hI hx hxp hd hsucc hlen hL hkF f1 f2 f3 f4 f5 hk1 hq hp hkp hIA hbox hs h2 h3 h4 h5 hnd b1 b2 far
      gi_wp2_with fail
      refine region_round (S := (fun w' => w'.cell? ⟨s, 1, none⟩ = some (.int .i64 (yn : Int)) ∧ w'.cell? ⟨s, 2, none⟩ = some (.int .i64 (zn : Int)) ∧ w'.cell? ⟨w.heap.size + 1, 0, none⟩ = some (.slice (some ⟨w.heap.size, 0, none⟩) n n))) (by kernel_rfl) (by kernel_rfl) ?_ (fun hHeld => ?_)
      · first | exact HPUT2.out | exact HPUT.out | exact ⟨e1, e2, e3⟩ | go_keep
      refine wpAnyH_take (i := 0) (v := ?_) rfl (by kernel_rfl) (by kernel_rfl) (by kernel_rfl) (fun _ _ _ h => h) (Or.inl ⟨by rfl, ?_⟩) (by assumption) ?_
      rotate_left
      · intro w hSw; (try dsimp only at hSw); go_simp <;> with_reducible rfl
      try simp only [List.getElem_toArray, List.getElem_cons_zero, Act.put, List.setIfInBounds_toArray, List.set_cons_zero, List.set_cons_succ]
      refine wpAnyH_take (i := 1) (v := ?_) rfl (by kernel_rfl) (by kernel_rfl) (by kernel_rfl) (fun _ _ _ h => h) (Or.inl ⟨by rfl, ?_⟩) (by assumption) ?_
      rotate_left
      · intro w hSw; (try dsimp only at hSw); go_simp <;> with_reducible rfl
      try simp only [List.getElem_toArray, List.getElem_cons_succ, List.getElem_cons_zero, Act.put, List.setIfInBounds_toArray, List.set_cons_zero, List.set_cons_succ]
      refine wpAnyH_take (i := 2) (v := ?_) rfl (by kernel_rfl) (by kernel_rfl) (by kernel_rfl) (fun _ _ _ h => h) (Or.inl ⟨by rfl, ?_⟩) (by assumption) ?_
      rotate_left
      · intro w hSw; (try dsimp only at hSw); go_simp <;> with_reducible rfl
      try simp only [List.getElem_toArray, List.getElem_cons_succ, List.getElem_cons_zero, Act.put, List.setIfInBounds_toArray, List.set_cons_zero, List.set_cons_succ]
      refine wpAnyH_take (i := 3) (v := ?_) rfl (by kernel_rfl) (by kernel_rfl) (by kernel_rfl) (fun _ _ _ h => h) (Or.inl ⟨by rfl, ?_⟩) (by assumption) ?_
      rotate_left
      · intro w hSw; (try dsimp only at hSw); go_simp <;> with_reducible rfl
      try simp only [List.getElem_toArray, List.getElem_cons_succ, List.getElem_cons_zero, Act.put, List.setIfInBounds_toArray, List.set_cons_zero, List.set_cons_succ]
      refine wpAnyH_take (i := 4) (v := ?_) rfl (by kernel_rfl) (by kernel_rfl) (by kernel_rfl) (fun _ _ _ h => h) (Or.inl ⟨by rfl, ?_⟩) (by assumption) ?_
      rotate_left
      · intro w hSw; (try dsimp only at hSw); go_simp <;> with_reducible rfl
      try simp only [List.getElem_toArray, List.getElem_cons_succ, List.getElem_cons_zero, Act.put, List.setIfInBounds_toArray, List.set_cons_zero, List.set_cons_succ]
      refine wpAnyH_take (i := 5) (v := ?_) rfl (by kernel_rfl) (by kernel_rfl) (by kernel_rfl) (fun _ _ _ h => h) (Or.inl ⟨by rfl, ?_⟩) (by assumption) ?_
      rotate_left
      · intro w hSw; (try dsimp only at hSw); go_simp <;> with_reducible rfl
      try simp only [List.getElem_toArray, List.getElem_cons_succ, List.getElem_cons_zero, Act.put, List.setIfInBounds_toArray, List.set_cons_zero, List.set_cons_succ]
      refine wpAnyH_take (i := 6) (v := ?_) rfl (by kernel_rfl) (by kernel_rfl) (by kernel_rfl) (fun _ _ _ h => h) (Or.inl ⟨by rfl, ?_⟩) (by assumption) ?_
      rotate_left
      · intro w hSw; (try dsimp only at hSw); go_simp <;> with_reducible rfl
      try simp only [List.getElem_toArray, List.getElem_cons_succ, List.getElem_cons_zero, Act.put, List.setIfInBounds_toArray, List.set_cons_zero, List.set_cons_succ]
      refine wpAnyH_ready (rs := [7]) (by kernel_rfl) (by simp) (AllReadyH.cons rfl (fun K hK => ?_) AllReadyH.nil)
      go_simp
      try go_wp2_with fail
      refine hK.out _ _ ?_ (fun hHeld => ?_)
      · first | exact HPUT2.out | exact HPUT.out | exact ⟨e1, e2, e3⟩ | go_keep
      clear hK K
      try simp only [List.getElem_toArray, List.getElem_cons_succ, List.getElem_cons_zero, Act.put, List.setIfInBounds_toArray, List.set_cons_zero, List.set_cons_succ]
      refine wpAnyH_take (i := 8) (v := ?_) rfl (by kernel_rfl) (by kernel_rfl) (by kernel_rfl) (fun _ _ _ h => h) (Or.inl ⟨by rfl, ?_⟩) (by assumption) ?_
      rotate_left
      · intro w hSw; (try dsimp only at hSw); go_simp <;> with_reducible rfl
      try simp only [List.getElem_toArray, List.getElem_cons_succ, List.getElem_cons_zero, Act.put, List.setIfInBounds_toArray, List.set_cons_zero, List.set_cons_succ]
      refine wpAnyH_ready (rs := [9]) (by kernel_rfl) (by simp) (AllReadyH.cons rfl (fun K hK => ?_) AllReadyH.nil)
      go_simp
      try go_wp2_with fail
      refine hK.out _ _ ?_ (fun hHeld => ?_)
      · first | exact HPUT2.out | exact HPUT.out | exact ⟨e1, e2, e3⟩ | go_keep
      clear hK K
      try simp only [List.getElem_toArray, List.getElem_cons_succ, List.getElem_cons_zero, Act.put, List.setIfInBounds_toArray, List.set_cons_zero, List.set_cons_succ]
      refine wpAnyH_done (by kernel_rfl) ⟨(fun e => by cases e), ?_⟩ _
      gi_wp2_with fail
      refine ⟨?_, ?_⟩
      · first
          | exact HK1.out
          | exact HK1.out.trans ((KeepsOthers.drew _).from (w.heap.size + 3))
      · first
          | exact HN.out
          | exact ⟨HN.out.kF, HN.out.kH, HN.out.kS, HN.out.kW.drew⟩
  case done =>
    rintro D W hD hI hK
    have h1 : Blk W w.heap.size 4 (blC (needB pp)) := by unfold needB; rw [← HLP.out]; exact hI.kF
    have HB := Lib.hid hI.kW
    have HF := Lib.hid h1
    have HH := Lib.hid hI.kH
    have HK := Lib.hid hK
    have hD3 : w.heap.size + 3 ≤ D := by rw [← s5]; exact hD
    have hDl : D < W.heap.size := (Array.getElem?_eq_some_iff.1 hK).1
    have HBL := Lib.hid ((needT_len pp pp.length).trans HLP.out.symm)
    obtain ⟨i0, hi, hz0, hz1, hz2⟩ := info_parts info_int
    clear hI hK h1
    gi_wp2_with fail
    refine wpIn_wide.2 ?_
    go_loopw [6, 40] (fun v i wr => ∃ (k m : Nat) (Av : Option Addr) (cv : Nat), k ≤ n ∧ i = .int .i64 k ∧ v = .slice Av m cv ∧ m ≤ k ∧ wr.ownsRow W.heap.size 3 1 (.slice Av m cv) m ((idxT (needB pp) k).map (Value.int .i64)) ∧ Below W.heap.size W wr) (fun _ i _ => n - (intOf i).toNat)
    case atStart => exact ⟨0, 0, some ⟨W.heap.size, 0, none⟩, 0, Nat.zero_le _, rfl, rfl, Nat.le_refl _, ⟨rfl, .inr ⟨W.heap.size, 0, #[], rfl, Nat.le_refl _, heap_alloc_new W _, Nat.le_refl _, by unfold maxLen; omega, rfl, rfl⟩⟩, bel_al0 _ _⟩
    case round =>
      obtain ⟨k, m, Av, cv, hk, rfl, rfl, hmk, hrow, hBw⟩ := hrel
      have HBW := Lib.hid hBw
      have HR := Lib.hid hrow
      by_cases hlt : k < n
      · have e1 : wr.cell? ⟨w.heap.size + 1, 0, none⟩ = some (.slice (some ⟨w.heap.size, 0, none⟩) n n) := (hBw.cell (p := ⟨w.heap.size + 1, 0, none⟩) HH.out.lt).trans (HH.out.cell 0)
        have e2 : wr.cell? ⟨w.heap.size, k, none⟩ = some (.bool ((needB pp).getD k false)) := (hBw.cell (p := ⟨w.heap.size, k, none⟩) HF.out.lt).trans (by rw [HF.out.cell, blC_get (by have h := HBL.out; unfold needB; omega)])
        have hk0 : (0 : Int) ≤ (k : Int) := by omega
        have hk1 : (k : Int) < (n : Int) := by omega
        obtain ⟨q, hq⟩ : ∃ q, (needB pp).getD k false = q := ⟨_, rfl⟩
        rw [hq] at e2
        cases q
        · have HN := Lib.hid (show idxT (needB pp) (k + 1) = idxT (needB pp) k from by rw [idxT, hq]; simp)
          clear hrow hBw hq
          go_wp2_with fail
          go_roundw
          case rel => exact ⟨k + 1, m, Av, cv, by omega, by go_num, rfl, by omega, by rw [HN.out]; exact HR.out, HBW.out⟩
          case measure => simp [intOf]; omega
        · have HN := Lib.hid (show idxT (needB pp) (k + 1) = idxT (needB pp) k ++ [(k : Int)] from by rw [idxT, hq]; simp)
          clear hrow hBw hq
          go_wp2_with (first
            | (at_builtin
               refine wpList_append_own_at _ rfl _ _ 24 rfl W.heap.size 3 i0 _ 1 8 Try.underlying24 hi hz0 hz1 hz2 rfl (by omega) (.slice Av m cv) m ((idxT (needB pp) k).map (Value.int .i64)) rfl (row_below HR.out (bel_al0 _ _)) ⟨wr.heap.size, 0, none⟩ 1 1 [.int .i64 (k : Int)] rfl rfl
                 (World.news_of_block (cs := #[.int .i64 (k : Int)]) (t := 3) (fr := (0, 0)) (heap_alloc_new wr _)) (by simp [Value.oneCell']) (by unfold maxLen; omega) (by omega) (by have := HBW.out.size; simp only [World.size_alloc]; omega) ?_
               intro v5 w5 hown5 hg5 _ _
               have HO5 := Lib.hid (row_int_snoc hown5)
               obtain ⟨g5, cap5, rfl, _⟩ := hown5.form (by omega)
               have HB5 := Lib.hid ((bel_al HBW.out _).grown hg5 (by have := HBW.out.size; simp only [World.size_alloc]; omega) (fun j e => (HR.out.lt j e).1))
               clear hown5 hg5))
          go_roundw
          case rel => exact ⟨k + 1, m + 1, _, _, by omega, by go_num, rfl, by omega, by rw [HN.out]; exact HO5.out, HB5.out⟩
          case measure => simp [intOf]; omega
      · obtain rfl : n = k := by omega
        have kD : wr.heap[D]? = some (.deferred (some [])) := (hBw.block D hDl).trans HK.out
        have KD := Lib.hid kD
        clear hrow hBw kD
        go_wp2
        gi_wp2
        refine ⟨by simp, .inl ⟨_, _, rfl, run_takeDeferred KD.out, ?_⟩⟩
        refine ⟨_, results_tmp rfl _ _ _, ?_⟩
        have hml : m = (idxT (needB pp) n).length := by have := HR.out.1; rw [List.length_map] at this; omega
        have hg := grownBy_putObj' wr D (.deferred none)
        have h9 := below_then HB.out HBW.out
        refine ⟨_, W.heap.size, rfl, HB.out.size, ?_, h9.grown hg h9.size (fun q e => by have := Option.some.inj e; omega)⟩
        rw [← hml]
        exact HR.out.kept hg (.inr fun e => by have := (HR.out.lt D e).1; omega)
  case stop =>
    rintro D W hD hI
    exact hI.elim

end Go.Proofs.Ytojofbmpknpggaa

namespace Go.Proofs.Ytojofbmpknpggaa
open Go.RowKit

set_option maxRecDepth 100000 in
set_option maxHeartbeats 4000000 in
theorem knNeeded_any (g : Int) (A : Option Addr) (n c : Nat) (pp : List Stp) (w : World) (hp : StepsAt w w.heap.size A n pp) :
    Calls Try.prog 47 #[.int .i64 g, .slice A n c] w (RetT w (neeZ g pp).1 (neeZ g pp).2) := by
  have CV := Lib.hid (validProof_any g A n c pp w hp)
  cases hv : proofOk g pp
  · rw [hv] at CV
    rw [show neeZ g pp = ([], 1) from by unfold neeZ; rw [hv]; rfl]
    clear hv hp
    go_enter Try.func47, Try.ntmps47
    go_wp2_with (go_at_call 24; ((with_reducible refine CV.out.mono ?_); rintro e w1 ⟨rfl, hB1⟩; have HB1 := Lib.hid hB1; clear hB1))
    go_ret2
    exact ⟨none, 0, 0, rfl, IntsAt.nil _ _ 0, HB1.out⟩
  · rw [hv] at CV
    obtain ⟨hg0, hl60, hto⟩ := proofOk_to hv
    have hlp := hp.len
    have hn1 : 1 ≤ n := by omega
    have hn60 : n ≤ 60 := by omega
    have CC := Lib.hid (fun V (h : Below w.heap.size w V) => (needed_any g A n c pp V (hp.up h) hv).mono (R' := fun e w' => ∃ A' n' c', e = .returned (.slice A' n' c') ∧ IntsAt w' w'.heap.size A' n' (idxT (needB pp) n) ∧ Below V.heap.size V w') fun e w' ⟨v, base, h1, _, h3, h4⟩ => by
      obtain ⟨A', c', rfl, hI⟩ := row_ints h3 (by have := idxT_len (needB pp) n; omega)
      exact ⟨A', _, c', h1, hI, h4⟩)
    rw [show neeZ g pp = (idxT (needB pp) n, 0) from by unfold neeZ; rw [if_pos hv, ← hlp]]
    clear hv hp hl60 hto hlp hn1 hn60 hg0
    go_enter Try.func47, Try.ntmps47
    go_wp2_with (first
      | (go_at_call 24; ((with_reducible refine CV.out.mono ?_); rintro e w1 ⟨rfl, hB1⟩; have HB1 := Lib.hid hB1; clear hB1))
      | (go_at_call 59; ((with_reducible refine (CC.out _ HB1.out).mono ?_); rintro e w2 ⟨A2, n2, c2, rfl, hI2, hB2⟩; have HI2 := Lib.hid hI2; have HB2 := Lib.hid (below_then HB1.out hB2); clear hI2 hB2)))
    go_ret2
    exact ⟨_, _, _, rfl, HI2.out, HB2.out⟩

end Go.Proofs.Ytojofbmpknpggaa
