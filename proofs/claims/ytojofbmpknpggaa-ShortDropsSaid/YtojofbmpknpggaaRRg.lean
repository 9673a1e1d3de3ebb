/- A region that draws, in a round of a range over a function: as in a plain walk. -/
import Derived.Test.YtojofbmpknpggaaKOg
import Derived.Test.YtojofbmpknpggaaG1g
import Derived.Test.YtojofbmpknpggaaN5g
import Derived.Test.YtojofbmpknpggaaKDg
import Derived.LoopIn
import Derived.LoopNIn
import Derived.RegionIn
import Derived.Test.YtojofbmpknpggaaKFg
import Derived.Test.YtojofbmpknpggaaN13g
import Derived.Deep.RegionHeld
import Derived.OrdersIn
import Derived.RangeFuncCalls
/- Contract: slices.Index of ints tells the first place. -/
namespace Go.Proofs.Ytojofbmpknpggaa
open Go.RowKit

set_option maxHeartbeats 1000000 in
theorem indexK_any (A : Option Addr) (n c : Nat) (xs : List Int) (z : Int) (w : World) (B : Nat) (hx : IntsAt w B A n xs) (hz : z ∈ xs) :
    Calls Try.prog 60 #[.slice A n c, .int .i64 z] w fun e w' => e = .returned (.int .i64 (xs.idxOf z : Int)) ∧ w = w' := by
  have HLX := Lib.hid hx.len
  have hmx := hx.max
  have HX := Lib.hid hx
  have hil := List.idxOf_lt_length_of_mem hz
  have hge : xs[xs.idxOf z]? = some z := by rw [List.getElem?_eq_getElem hil, List.getElem_idxOf hil]
  have hfirst : ∀ j x, j < xs.idxOf z → xs[j]? = some x → x ≠ z := fun j x h e e2 => by
    obtain ⟨hj, rfl⟩ := List.getElem?_eq_some_iff.1 e
    have := List.not_of_lt_findIdx (p := (· == z)) (xs := xs) (i := j) h
    simp [e2] at this
  have hrn : xs.idxOf z < n := by have := hx.len; omega
  generalize xs.idxOf z = r at *
  have HG := Lib.hid hge
  have HF := Lib.hid hfirst
  clear hx hz hge hfirst hil
  go_enter Try.func60, Try.ntmps60
  go_wp2
  go_loop [8] (fun i => ∃ k : Nat, k ≤ r ∧ i = .int .i64 k) (fun i => n - (intOf i).toNat)
  case atStart => exact ⟨0, Nat.zero_le _, rfl⟩
  case round =>
    obtain ⟨k, hk, rfl⟩ := hrel
    obtain ⟨b, off, y, rfl, c1, k1, e1⟩ := HX.out.cellAt (show k < n by omega)
    have hk0 : (0 : Int) ≤ (k : Int) := by omega
    have hk1 : (k : Int) < (n : Int) := by omega
    by_cases e : k = r
    · subst e
      have he : (z == y) = true := by
        have := HG.out
        rw [List.getElem?_eq_getElem k1, e1] at this
        simpa using (Option.some.inj this).symm
      clear e1
      go_wp2
      go_ret
      exact ⟨rfl, rfl⟩
    · have he : (z == y) = false := by
        have := HF.out k y (by omega) (by rw [List.getElem?_eq_getElem k1, e1])
        simpa using fun h => this h.symm
      clear e1
      go_wp2
      go_round
      case rel => exact ⟨k + 1, by omega, by go_num⟩
      case measure => simp [intOf]; omega

end Go.Proofs.Ytojofbmpknpggaa

/- Contract: slices.Backward of ints: its closure hands out the numbers from the last one. -/
namespace Go.Proofs.Ytojofbmpknpggaa
open Go.RowKit
attribute [local go_sem] Oper.semAt_some

def encB (N : Nat) (k : Nat) (x : Int) : Array Value := #[.int .i64 ((N : Int) - 1 - (k : Int)), .int .i64 x]
/-- What is handed out in round k. -/
def HxB (nums : List Int) (k : Nat) (x : Int) (_ : World) : Prop := nums[nums.length - 1 - k]? = some x

set_option maxHeartbeats 400000 in
theorem backward_any (A : Option Addr) (n c : Nat) (w : World) :
    Calls Try.prog 88 #[.slice A n c] w fun e w' => e = .returned (.func (.func 97) #[] #[.pointer (some ⟨w.heap.size, 0, none⟩)]) ∧ w' = w.alloc (.cells #[.slice A n c] 24) := by
  go_enter Try.func88, Try.ntmps88
  go_wp2
  go_ret
  exact ⟨rfl, rfl⟩

set_option maxRecDepth 100000 in
set_option maxHeartbeats 2000000 in
theorem bwdC_in (l n Bl g c : Nat) (nums : List Int) (J : Nat → World → Prop) (JL : World → Prop) (hN : nums.length ≤ 1000)
    (hJF : ∀ k A, J k A → Blk A Bl 24 #[.slice (some ⟨g, 0, none⟩) nums.length c] ∧ ∀ (i : Nat) (x : Int), nums[i]? = some x → A.cell? ⟨g, i, none⟩ = some (.int .i64 x))
    (hY : ∀ m k x A, J k A → HxB nums k x A → k < nums.length → YieldAt Fence.wide m Try.prog l (encB nums.length k x) A fun e B => (e = .returned (.bool true) ∧ J (k + 1) B) ∨ (e = .returned (.bool false) ∧ JL B))
    (W : World) (hJ0 : J 0 W) :
    CallsIn Fence.wide n Try.prog 97 #[.func (.yield l) #[] #[], .pointer (some ⟨Bl, 0, none⟩)] W fun e W' => (∃ v, e = .returned v) ∧ (J nums.length W' ∨ JL W') := by
  have HJF := Lib.hid hJF
  have HY := Lib.hid hY
  have HJ0 := Lib.hid hJ0
  obtain ⟨cb0, _⟩ := hJF 0 W hJ0
  have cb0 := cb0.cell 0
  simp only [List.getElem?_toArray, List.getElem?_cons_zero] at cb0
  obtain ⟨N, hNN⟩ : ∃ N, nums.length = N := ⟨_, rfl⟩
  have HN := Lib.hid hNN
  rw [hNN] at cb0 hN HJF HY ⊢
  clear hJF hY hJ0 hNN
  refine callsIn_of_wp Try.func97 rfl trivial ?_ rfl
  simp only [Try.ntmps97, List.size_toArray, List.length_cons, List.length_nil, Nat.reduceAdd, Nat.reduceSub, Array.replicate_succ, Array.replicate_zero, List.push_toArray, List.append_toArray, List.nil_append, List.cons_append]
  gi_wp2
  gi_loopw [3] (fun i wr => ∃ k : Nat, k ≤ N ∧ i = .int .i64 ((N : Int) - 1 - (k : Int)) ∧ J k wr) (fun i _ => (intOf i + 1).toNat)
  case atStart => exact ⟨0, by omega, by go_num, HJ0.out⟩
  case round =>
    obtain ⟨k, hk, rfl, hJr⟩ := hrel
    obtain ⟨hbl, hcells⟩ := HJF.out k wr hJr
    have cbl := hbl.cell 0
    simp only [List.getElem?_toArray, List.getElem?_cons_zero] at cbl
    by_cases hlt : k < N
    · obtain ⟨i, hi⟩ : ∃ i : Nat, (N : Int) - 1 - (k : Int) = (i : Int) := ⟨N - 1 - k, by omega⟩
      have hiN : i < N := by omega
      have hil : i < nums.length := by rw [HN.out]; exact hiN
      have hx : nums[i]? = some nums[i] := List.getElem?_eq_getElem hil
      obtain ⟨x, hxx⟩ : ∃ x, nums[i] = x := ⟨_, rfl⟩
      rw [hxx] at hx
      have hHx : HxB nums k x wr := by unfold HxB; rw [HN.out, show N - 1 - k = i by omega]; exact hx
      have hcx := hcells i x hx
      obtain ⟨fn, tmps, assign, body, hy, hR⟩ := HY.out (n - 1) k x wr hJr hHx hlt
      have hy' : (Instr.yield l #[.int .i64 (i : Int), .int .i64 x]).run Try.prog wr = .ok (.round l fn tmps assign body) wr := by rw [← hi]; exact hy
      have HRR := Lib.hid (hR.mono (R' := fun e B => ∃ q : Bool, e = .returned (.bool q) ∧ (q = true → J (k + 1) B) ∧ (q = false → JL B)) (fun e B h => h.elim (fun h => ⟨true, h.1, fun _ => h.2, fun e => by cases e⟩) (fun h => ⟨false, h.1, fun e => (by cases e), fun _ => h.2⟩)))
      have hi0 : (0 : Int) ≤ (i : Int) := by omega
      have hi1 : (i : Int) < (N : Int) := by omega
      rw [hi]
      have HI := Lib.hid hi
      clear hJr hbl hcells hHx hy hR hxx hx hil hi
      gi_wp2_with ((try refine ⟨fun h => (by cases h), ?_⟩); refine HRR.out.mono ?_; rintro e W2 ⟨q, rfl, hq1, hq2⟩)
      · have hqf : q = false := by simpa using ‹(!q) = true›
        refine bodyPost_ret (results_none rfl _ _ _) rfl ?_
        exact ⟨⟨_, rfl⟩, .inr (hq2 hqf)⟩
      · have hqt : q = true := by simpa using ‹(!q) = false›
        refine ⟨⟨k + 1, by omega, ?_, hq1 hqt⟩, ?_⟩
        · have := HI.out
          rw [show (N : Int) - 1 - ((k + 1 : Nat) : Int) = (i : Int) - 1 by omega]
        · have := HI.out
          simp [intOf]
    · obtain rfl : k = N := by omega
      clear hbl cbl hcells
      gi_wp2
      go_end0
      exact ⟨⟨_, rfl⟩, .inl hJr⟩

end Go.Proofs.Ytojofbmpknpggaa

/- The kernel's fit: what lies there while fitted goes over the numbers from the last one. -/
namespace Go.Proofs.Ytojofbmpknpggaa
open Go.RowKit

/-- What lies there: behind each part lb, for each part lp. -/
structure IFitB (w : World) (fb g gb gp dx : Nat) (As : Option Addr) (ns cs c N : Nat) (ss : Sg) (nums : List Int) (lb lp : List Nat) (W : World) : Prop where
  kF : Blk W fb 111 #[.slice As ns cs, .slice (some ⟨g, 0, none⟩) N c, .slice (some ⟨gb, 0, none⟩) N N, .slice (some ⟨gp, 0, none⟩) N N]
  kC : Blk W (fb + 1) 107 #[.pointer (some ⟨fb, 0, none⟩)]
  kN : ∀ (i : Nat) (x : Int), nums[i]? = some x → W.cell? ⟨g, i, none⟩ = some (.int .i64 x)
  kB : Blk W gb 3 (natV lb).toArray
  kP : Blk W gp 3 (natV lp).toArray
  kS : SigAt W w.heap.size As ns ss
  kX : Blk W dx 24 #[.slice (some ⟨g, 0, none⟩) N c]
  kW : Below w.heap.size w W
/-- Behind k rounds. -/
def IFit (w : World) (fb g gb gp dx : Nat) (As : Option Addr) (ns cs c N : Nat) (ss : Sg) (nums : List Int) (k : Nat) (W : World) : Prop := IFitB w fb g gb gp dx As ns cs c N ss nums (endL (kbF ss nums) k) (endL (kpF nums) k) W
theorem IFit.own {w : World} {fb g gb gp dx ns cs c N B : Nat} {As : Option Addr} {ss : Sg} {nums : List Int} (hB : w.heap.size ≤ B) : OwnFrom B (IFit w fb g gb gp dx As ns cs c N ss nums) := by
  rintro k W W' row ⟨h1, h2, h3, h4, h5, h6, h7, h8⟩ hg hr
  have hr' := fun r e => (hr r e).2
  refine ⟨(grownBy_keeps_cells hg hr' h1 rfl).trans h1, (grownBy_keeps_cells hg hr' h2 rfl).trans h2, fun i x hi => cell_kept (h3 i x hi) hg hr', (grownBy_keeps_cells hg hr' h4 rfl).trans h4, (grownBy_keeps_cells hg hr' h5 rfl).trans h5, ⟨h6.len, h6.fit, h6.max, fun hn => ?_⟩, (grownBy_keeps_cells hg hr' h7 rfl).trans h7, below_grown h8 hg hr hB⟩
  obtain ⟨b, off, e, hb, hs⟩ := h6.mem hn
  exact ⟨b, off, e, hb, ⟨fun j hj => cell_kept (hs.name j hj) hg hr', fun j hj => cell_kept (hs.ar j hj) hg hr'⟩⟩
theorem IFitB.up {w W W' : World} {fb g gb gp dx ns cs c N : Nat} {As : Option Addr} {ss : Sg} {nums : List Int} {lb lp : List Nat} (h : IFitB w fb g gb gp dx As ns cs c N ss nums lb lp W) (hb : Below W.heap.size W W') : IFitB w fb g gb gp dx As ns cs c N ss nums lb lp W' :=
  ⟨h.kF.below hb h.kF.lt, h.kC.below hb h.kC.lt, fun i x hi => (hb.cell (p := ⟨g, i, none⟩) (World.block_lt_of_cell? W _ (h.kN i x hi))).trans (h.kN i x hi), h.kB.below hb h.kB.lt, h.kP.below hb h.kP.lt, h.kS.below (hb.mono h.kW.size), h.kX.below hb h.kX.lt, below_then h.kW hb⟩
/-- A store behind a part. -/
theorem IFitB.setB {w W : World} {fb g gb gp dx ns cs c N : Nat} {As : Option Addr} {ss : Sg} {nums : List Int} {lb lp : List Nat} (h : IFitB w fb g gb gp dx As ns cs c N ss nums lb lp W) (hne : fb ≠ gb ∧ fb + 1 ≠ gb ∧ g ≠ gb ∧ gp ≠ gb ∧ dx ≠ gb) (hw : w.heap.size ≤ gb) (p q : Nat) : IFitB w fb g gb gp dx As ns cs c N ss nums (lb.set p q) lp (W.setCell ⟨gb, p, none⟩ (.int .i64 (q : Int))) := by
  refine ⟨h.kF.far hne.1 _, h.kC.far hne.2.1 _, fun i x hi => ?_, ?_, h.kP.far hne.2.2.2.1 _, h.kS.keep fun a ha => World.cell?_setCell_far W ⟨gb, p, none⟩ a _ (fun e => by have e2 : gb = a.block := e; omega), h.kX.far hne.2.2.2.2 _, h.kW.setCell (p := ⟨gb, p, none⟩) hw _⟩
  · exact (World.cell?_setCell_far W ⟨gb, p, none⟩ ⟨g, i, none⟩ _ (fun e => hne.2.2.1 e.symm)).trans (h.kN i x hi)
  · have := h.kB.set_ p (.int .i64 (q : Int))
    have e : (natV lb).toArray.setIfInBounds p (.int .i64 (q : Int)) = (natV (lb.set p q)).toArray := by
      unfold natV
      rw [List.setIfInBounds_toArray, List.map_set]
    rw [e] at this
    exact this
/-- A store of what a part becomes. -/
theorem IFitB.setP {w W : World} {fb g gb gp dx ns cs c N : Nat} {As : Option Addr} {ss : Sg} {nums : List Int} {lb lp : List Nat} (h : IFitB w fb g gb gp dx As ns cs c N ss nums lb lp W) (hne : fb ≠ gp ∧ fb + 1 ≠ gp ∧ g ≠ gp ∧ gb ≠ gp ∧ dx ≠ gp) (hw : w.heap.size ≤ gp) (p q : Nat) : IFitB w fb g gb gp dx As ns cs c N ss nums lb (lp.set p q) (W.setCell ⟨gp, p, none⟩ (.int .i64 (q : Int))) := by
  refine ⟨h.kF.far hne.1 _, h.kC.far hne.2.1 _, fun i x hi => ?_, h.kB.far hne.2.2.2.1 _, ?_, h.kS.keep fun a ha => World.cell?_setCell_far W ⟨gp, p, none⟩ a _ (fun e => by have e2 : gp = a.block := e; omega), h.kX.far hne.2.2.2.2 _, h.kW.setCell (p := ⟨gp, p, none⟩) hw _⟩
  · exact (World.cell?_setCell_far W ⟨gp, p, none⟩ ⟨g, i, none⟩ _ (fun e => hne.2.2.1 e.symm)).trans (h.kN i x hi)
  · have := h.kP.set_ p (.int .i64 (q : Int))
    have e : (natV lp).toArray.setIfInBounds p (.int .i64 (q : Int)) = (natV (lp.set p q)).toArray := by
      unfold natV
      rw [List.setIfInBounds_toArray, List.map_set]
    rw [e] at this
    exact this
/-- All rounds are over. -/
theorem IFit.fit {w W : World} {fb g gb gp dx ns cs c N : Nat} {As : Option Addr} {ss : Sg} {nums : List Int} (h : IFit w fb g gb gp dx As ns cs c N ss nums N W) (hN : nums.length = N) (h1 : fb < gp ∧ g < gp ∧ gb < gp) (hm : N ≤ 1000) (hw : w.heap.size ≤ gp) : FitAt W fb g gb gp As ns cs c N N ss nums (kbF ss nums) (kpF nums) := by
  have e1 : endL (kbF ss nums) N = kbF ss nums := by
    have := endL_all (kbF ss nums)
    rw [kbF_len, hN] at this
    exact this
  have e2 : endL (kpF nums) N = kpF nums := by
    have := endL_all (kpF nums)
    rw [kpF_len, hN] at this
    exact this
  have hB := h.kB
  have hP := h.kP
  rw [e1] at hB
  rw [e2] at hP
  refine ⟨by rw [hN]; exact h.kF, h.kS.more hw, h.kN, fun i x hi => ?_, hP, kbF_len, kpF_len, h1, by omega⟩
  rw [hB.cell, List.getElem?_toArray, natV_get hi]

end Go.Proofs.Ytojofbmpknpggaa

namespace Go.Proofs.Ytojofbmpknpggaa
open Go.RowKit

section
variable {P : Program} {ops : Array Oper} {Q : Exit → Act → World → Prop} {l n : Nat}
/-- The exits but the one by want of memory. -/
abbrev NotOut (Q : Exit → Act → World → Prop) : Exit → Act → World → Prop := fun e a w => e ≠ .outgrown ∧ Q e a w
theorem notOut_lets : ¬ LetsOut (NotOut Q) := fun ⟨_, _, h⟩ => h.1 rfl
theorem upon_round {o : Oper} {a : Act} {K : Act → World → Prop} : ∀ {r : Result Next}, o.upon P a K (NotOut Q) r → o.uponIn (Fence.wide.inRound l) n P a K (NotOut Q) r := by
  intro r h
  cases r with
  | ok v w' =>
    cases v with
    | value v => exact h
    | skip => exact h
    | defer d => exact h
    | enter f args => exact ⟨fun e => (by cases e), CallsIn.inRound l (callsIn_wide.2 h)⟩
    | row row args =>
      refine ⟨fun e => (by cases e), fun c cs _ => ?_⟩
      obtain ⟨v, w2, h1, h2⟩ := h c cs
      exact ⟨v, w2, h1, stepsIn_wide.2 h2⟩
    | _ => exact h.elim
  | halt x w' =>
    cases x with
    | panic u => exact h
    | _ => exact h.elim
theorem op_round (hd : ∀ (i : Nat) (o : Oper), ops[i]? = some o → ∀ c, o.op ≠ .defer c) {i : Nat} {K K' : Act → World → Prop} (hK : ∀ a w, K a w → K' a w) {a : Act} {w : World} (h : wpOp P ops (NotOut Q) i K a w) : wpOpIn (Fence.wide.inRound l) n P ops (NotOut Q) i K' a w := by
  unfold wpOp at h
  unfold wpOpIn
  cases e : ops[i]? with
  | none => rw [e] at h; exact hK _ _ h
  | some o =>
    rw [e] at h
    simp only at h ⊢
    split at h
    · rename_i hw
      rw [if_pos hw]
      rcases h with h | ⟨_, h⟩
      · have h2 := Oper.wp_mono hK h
        refine ⟨fun _ _ => trivial, ?_⟩
        rw [show (Fence.wide.inRound l).round = some l from rfl, Oper.semAt_eq _ _ _ (hd i o e)]
        exact upon_round h2
      · exact absurd h notOut_lets
    · rename_i hw
      rw [if_neg hw]
      exact ⟨fun _ _ => trivial, hK _ _ h⟩
theorem any_round (hd : ∀ (i : Nat) (o : Oper), ops[i]? = some o → ∀ c, o.op ≠ .defer c) : ∀ (fuel : Nat) (listed : Array Bool) (a : Act) (w : World), wpAny P .any ops (NotOut Q) fuel listed a w → wpAnyIn (Fence.wide.inRound l) n P .any ops (NotOut Q) fuel listed a w
  | 0, _, _, _, h => h
  | fuel + 1, _, _, _, h => ⟨h.1, fun i hi => op_round hd (fun a w h => any_round hd fuel _ a w h) (h.2 i hi)⟩
def noDefer (o : Oper) : Bool := match o.op with
  | .defer _ => false
  | _ => true
theorem noDefer_spec (h : ops.all noDefer = true) (i : Nat) (o : Oper) (ho : ops[i]? = some o) (c : Call) : o.op ≠ .defer c := fun e => by
  have h1 := Array.all_eq_true'.1 h o (Array.mem_of_getElem? ho)
  unfold noDefer at h1
  rw [e] at h1
  cases h1
/-- A region that draws, in a round, walked by hand as in a plain walk. -/
theorem region_round {id : Nat} {a : Act} {w : World} {S : World → Prop} (hm : P.follows .mixedOrders = true) (hd : ops.all noDefer = true) (hS : S w.drew)
    (h : S w.drew → wpAnyH P .any ops (NotOut Q) S ops.size (Array.replicate ops.size false) a w.drew) : (Code.region id ops true).wpIn (Fence.wide.inRound l) n P Q a w :=
  wpIn_mono (wpIn_region_any hm (any_round (noDefer_spec hd) _ _ _ _ (wpAny_of_held _ _ _ _ (h hS)))) fun _ _ _ h => h.2
end

end Go.Proofs.Ytojofbmpknpggaa
