/- Contract: folded. -/
import Derived.Test.YtojofbmpknpggaaQVg
import Derived.Test.YtojofbmpknpggaaQZg
import Derived.Test.YtojofbmpknpggaaPFg
import Derived.LoopIn
import Derived.LoopNIn
import Derived.RegionIn
import Derived.Shelf.AbstractIn
import Derived.Test.YtojofbmpknpggaaRRg
import Derived.StillTailTactics
import Derived.Test.YtojofbmpknpggaaB4g
import Derived.Test.YtojofbmpknpggaaN13g
import Derived.RangeFuncLeaves
import Derived.RangeFuncCalls
import Derived.RangeFuncBound
import Derived.Shelf.Abstract
import Derived.Shelf.RegionOpen
import Derived.OwnWalkIn
import Derived.TacticsInMore
/- Proofs from which steps go (pure): what folded, Trimmed and Merged make. -/
namespace Go.Proofs.Ytojofbmpknpggaa
open Go.RowKit

/-- How many of the first k steps stay. -/
def kcn (st : Nat → Int) : Nat → Nat
  | 0 => 0
  | k + 1 => kcn st k + (if st k = (k : Int) then 1 else 0)
theorem kcn_stay {st : Nat → Int} {k : Nat} (h : st k = (k : Int)) : kcn st (k + 1) = kcn st k + 1 := by rw [kcn, if_pos h]
theorem kcn_go {st : Nat → Int} {k : Nat} (h : ¬ st k = (k : Int)) : kcn st (k + 1) = kcn st k := by rw [kcn, if_neg h]; rfl
theorem kcn_le (st : Nat → Int) : ∀ k, kcn st k ≤ k
  | 0 => Nat.le_refl _
  | k + 1 => by
    rw [kcn]
    have := kcn_le st k
    split <;> omega
theorem kcn_mono (st : Nat → Int) {j : Nat} : ∀ {k : Nat}, j ≤ k → kcn st j ≤ kcn st k
  | 0, h => by rw [Nat.le_zero.1 h]; exact Nat.le_refl _
  | k + 1, h => by
    by_cases e : j = k + 1
    · rw [e]; exact Nat.le_refl _
    · have := kcn_mono st (show j ≤ k by omega)
      rw [kcn]
      omega
/-- A step with its parts' new places. -/
def fixS (st : Nat → Int) (x : Stp) : Stp := if x.1 = 2 then (2, ((kcn st (st x.2.1.toNat).toNat : Nat) : Int), ((kcn st (st x.2.2.toNat).toNat : Nat) : Int)) else x
/-- The steps that stay, of the first k. -/
def foldL (pp : List Stp) (st : Nat → Int) : Nat → List Stp
  | 0 => []
  | k + 1 => foldL pp st k ++ (if st k = (k : Int) then [fixS st (pp.getD k (0, 0, 0))] else [])
theorem foldL_len (pp : List Stp) (st : Nat → Int) : ∀ k, (foldL pp st k).length = kcn st k
  | 0 => rfl
  | k + 1 => by
    rw [foldL, kcn, List.length_append, foldL_len pp st k]
    split <;> rfl
theorem foldL_stay {pp : List Stp} {st : Nat → Int} {k : Nat} (h : st k = (k : Int)) : foldL pp st (k + 1) = foldL pp st k ++ [fixS st (pp.getD k (0, 0, 0))] := by rw [foldL, if_pos h]
theorem foldL_at {pp : List Stp} {st : Nat → Int} {j : Nat} (h : st j = (j : Int)) : ∀ {k : Nat}, j < k → (foldL pp st k)[kcn st j]? = some (fixS st (pp.getD j (0, 0, 0)))
  | 0, hj => by omega
  | k + 1, hj => by
    by_cases e : j = k
    · subst e
      rw [foldL_stay h, List.getElem?_append_right (by rw [foldL_len]; exact Nat.le_refl _), foldL_len, Nat.sub_self]
      rfl
    · have ih := foldL_at (pp := pp) h (show j < k by omega)
      rw [foldL, List.getElem?_append_left (by rw [foldL_len]; have := kcn_mono st (show j + 1 ≤ k by omega); rw [kcn_stay h] at this; omega)]
      exact ih
/-- Which step stands for step i, when the steps that are not needed go. -/
def stT (b : List Bool) (i : Nat) : Int := if b.getD i false = true then (i : Int) else -1
theorem stT_stay {b : List Bool} {i : Nat} (h : b.getD i false = true) : stT b i = (i : Int) := by unfold stT; rw [if_pos h]
theorem stT_iff {b : List Bool} {i : Nat} : stT b i = (i : Int) ↔ b.getD i false = true := by
  unfold stT
  by_cases h : b.getD i false = true
  · rw [if_pos h]
    exact ⟨fun _ => h, fun _ => rfl⟩
  · rw [if_neg h]
    exact ⟨fun e => by omega, fun e => absurd e h⟩
/-- The first step that says what step i says. -/
def stM (L : List (List Int)) (i : Nat) : Int := (L.idxOf (L.getD i []) : Nat)
/-- What Trimmed makes of a valid proof, and Merged of one that says L. -/
def trimF (pp : List Stp) : List Stp := foldL pp (stT (needB pp)) pp.length
def mergF (L : List (List Int)) (pp : List Stp) : List Stp := foldL pp (stM L) ((stM L (pp.length - 1)).toNat + 1)
def trimZ (g : Int) (pp : List Stp) : List Stp × Int := if proofOk g pp = true then (trimF pp, 0) else ([], 1)

end Go.Proofs.Ytojofbmpknpggaa

/- Contract: folded, whatever function tells which step stands for which. -/
namespace Go.Proofs.Ytojofbmpknpggaa
open Go.RowKit Go.Shelf
attribute [local go_sem] Oper.semAt_some

theorem kcn_inj {st : Nat → Int} {i j : Nat} (hi : st i = (i : Int)) (hj : st j = (j : Int)) (h : kcn st i = kcn st j) : i = j := by
  rcases Nat.lt_trichotomy i j with h1 | h1 | h1
  · have := kcn_mono st (show i + 1 ≤ j by omega)
    rw [kcn_stay hi] at this
    omega
  · exact h1
  · have := kcn_mono st (show j + 1 ≤ i by omega)
    rw [kcn_stay hj] at this
    omega
/-- The places of the first k steps that stay. -/
def plC (st : Nat → Int) (n k : Nat) : Array Value := ((List.range n).map fun j => Value.int .i64 (if st j = (j : Int) ∧ kcn st j < k then (kcn st j : Int) else 0)).toArray
theorem plC_size (st : Nat → Int) (n k : Nat) : (plC st n k).size = n := by simp [plC]
theorem plC_at {st : Nat → Int} {n k j : Nat} (hj : j < n) : (plC st n k)[j]? = some (.int .i64 (if st j = (j : Int) ∧ kcn st j < k then (kcn st j : Int) else 0)) := by
  unfold plC
  rw [List.getElem?_toArray, List.getElem?_map, List.getElem?_range hj]
  rfl
theorem plC_made (st : Nat → Int) (n : Nat) : plC st n 0 = madeCells #[.int .i64 0] (n * 1) := by
  unfold plC madeCells
  apply Array.ext
  · simp
  · intro i h1 h2
    simp [Nat.mod_one]
theorem plC_set {st : Nat → Int} {n k i : Nat} (hi : i < n) (hs : st i = (i : Int)) (hk : kcn st i = k) : (plC st n k).setIfInBounds i (.int .i64 (k : Int)) = plC st n (k + 1) := by
  apply Array.ext_getElem?
  intro j
  by_cases hj : j < n
  · by_cases e : i = j
    · subst e
      rw [Array.getElem?_setIfInBounds_self_of_lt (by rw [plC_size]; exact hi), plC_at hi, if_pos ⟨hs, by omega⟩, hk]
    · rw [Array.getElem?_setIfInBounds_ne e, plC_at hj, plC_at hj]
      congr 2
      by_cases hc : st j = (j : Int) ∧ kcn st j < k
      · rw [if_pos hc, if_pos ⟨hc.1, by omega⟩]
      · rw [if_neg hc, if_neg (fun h => hc ⟨h.1, by
          have : kcn st j ≠ k := fun e2 => e (kcn_inj hs h.1 (hk.trans e2.symm))
          omega⟩)]
  · rw [Array.getElem?_eq_none (by rw [Array.size_setIfInBounds, plC_size]; omega), Array.getElem?_eq_none (by rw [plC_size]; omega)]
/-- The steps that stay, the first k of them. -/
theorem foldL_take {pp : List Stp} {st : Nat → Int} {m i : Nat} (hs : st i = (i : Int)) (hi : i < m) : (foldL pp st m).take (kcn st i + 1) = (foldL pp st m).take (kcn st i) ++ [fixS st (pp.getD i (0, 0, 0))] := by
  have h := foldL_at (pp := pp) hs hi
  rw [List.take_add_one, h]
  rfl
/-- What is handed out in round k. -/
def HxF (st : Nat → Int) (pp : List Stp) (m : Nat) (k : Nat) (x : Nat × Stp) (_ : World) : Prop := st x.1 = (x.1 : Int) ∧ kcn st x.1 = k ∧ x.1 < m ∧ pp[x.1]? = some x.2
def encF (_ : Nat) (x : Nat × Stp) : Array Value := #[.int .i64 (x.1 : Int), .agg #[.int .i64 x.2.1, .int .i64 x.2.2.1, .int .i64 x.2.2.2]]

theorem staying_any (A : Option Addr) (n c gS : Nat) (lbS : Array Value) (w : World) :
    Calls Try.prog 58 #[.slice A n c, .func (.func gS) #[] lbS] w fun e w' => e = .returned (.func (.func 68) #[] #[.pointer (some ⟨w.heap.size + 1, 0, none⟩), .pointer (some ⟨w.heap.size, 0, none⟩)]) ∧ w' = (w.alloc (.cells #[.slice A n c] 22)).alloc (.cells #[.func (.func gS) #[] lbS] 67) := by
  go_enter Try.func58, Try.ntmps58
  go_wp2
  go_ret
  exact ⟨rfl, rfl⟩

set_option maxRecDepth 100000 in
set_option maxHeartbeats 2000000 in
theorem staying_in (l N Bs Bp gS : Nat) (lbS : Array Value) (eg : ∀ args w, (callFunc gS args).run Try.prog w = .ok (.enter gS args) w) (b off c n M : Nat) (st : Nat → Int) (pp : List Stp) (J : Nat → World → Prop) (JL : World → Prop)
    (hn : n = pp.length) (hn9 : n ≤ 1000) (hM : M < n) (hst : st (n - 1) = (M : Int)) (hnc : n ≤ c) (hc9 : c ≤ 9223372036854775807)
    (hJF : ∀ k A, J k A → Blk A Bp 22 #[.slice (some ⟨b, off, none⟩) n c] ∧ Blk A Bs 67 #[.func (.func gS) #[] lbS] ∧ (∀ (i : Nat) (x : Stp), pp[i]? = some x → A.cell? ⟨b, off + i * 3, none⟩ = some (.int .i64 x.1) ∧ A.cell? ⟨b, off + i * 3 + 1, none⟩ = some (.int .i64 x.2.1) ∧ A.cell? ⟨b, off + i * 3 + 2, none⟩ = some (.int .i64 x.2.2)) ∧
      ∀ i : Nat, i < n → Calls Try.prog gS (#[.int .i64 (i : Int)] ++ lbS) A fun e w' => e = .returned (.int .i64 (st i)) ∧ A = w')
    (hJA : ∀ k A B, J k A → Below A.heap.size A B → J k B)
    (hY : ∀ m k x A, J k A → HxF st pp (M + 1) k x A → k < kcn st (M + 1) → YieldAt Fence.wide m Try.prog l (encF k x) A fun e B => (e = .returned (.bool true) ∧ J (k + 1) B) ∨ (e = .returned (.bool false) ∧ JL B))
    (W : World) (hJ0 : J 0 W) :
    CallsIn Fence.wide N Try.prog 68 #[.func (.yield l) #[] #[], .pointer (some ⟨Bs, 0, none⟩), .pointer (some ⟨Bp, 0, none⟩)] W fun e W' => (∃ v, e = .returned v) ∧ (J (kcn st (M + 1)) W' ∨ JL W') := by
  have HJF := Lib.hid hJF
  have HJA := Lib.hid hJA
  have HY := Lib.hid hY
  have HJ0 := Lib.hid hJ0
  obtain ⟨kb0, ks0, _, cs0⟩ := hJF 0 W hJ0
  have cb0 := kb0.cell 0
  have cf0 := ks0.cell 0
  simp only [List.getElem?_toArray, List.getElem?_cons_zero] at cb0 cf0
  have CS0 := Lib.hid (cs0 (n - 1) (by omega))
  rw [hst, show ((n - 1 : Nat) : Int) = (n : Int) - 1 by omega] at CS0
  have HN := Lib.hid hn
  have hM0 : (0 : Int) ≤ (M : Int) + 1 := by omega
  have hMc : (M : Int) + 1 ≤ (c : Int) := by omega
  have hMn : (M : Int) + 1 ≤ (n : Int) := by omega
  clear hJF hY hJ0 hJA kb0 ks0 cs0 hst hn
  refine callsIn_of_wp Try.func68 rfl trivial ?_ rfl
  simp only [Try.ntmps68, List.size_toArray, List.length_cons, List.length_nil, Nat.reduceAdd, Nat.reduceSub, Array.replicate_succ, Array.replicate_zero, List.push_toArray, List.append_toArray, List.nil_append, List.cons_append]
  gi_wp2_with (refine ⟨trivial, fun h => (by cases h), ?_⟩; gi_at_fn gS; refine (callsIn_wide.2 CS0.out).mono ?_; rintro e w1 ⟨rfl, rfl⟩)
  gi_loopw [17] (fun i wr => ∃ k : Nat, k ≤ M + 1 ∧ i = .int .i64 k ∧ J (kcn st k) wr) (fun i _ => M + 1 - (intOf i).toNat)
  case atStart => exact ⟨0, by omega, by go_num, HJ0.out⟩
  case round =>
    obtain ⟨k, hk, rfl, hJr⟩ := hrel
    by_cases hlt : k < M + 1
    · have hkl : k < pp.length := by have := HN.out; omega
      have hx : pp[k]? = some pp[k] := List.getElem?_eq_getElem hkl
      obtain ⟨x, hxx⟩ : ∃ x, pp[k] = x := ⟨_, rfl⟩
      rw [hxx] at hx
      obtain ⟨x1, x2, x3⟩ := x
      obtain ⟨_, _, hcells, _⟩ := HJF.out _ wr hJr
      obtain ⟨hc1, hc2, hc3⟩ := hcells k _ hx
      simp only at hc1 hc2 hc3
      obtain ⟨W1, hW1⟩ : ∃ W1, wr.alloc (.cells #[.int .i64 x1, .int .i64 x2, .int .i64 x3] 33) = W1 := ⟨_, rfl⟩
      have hJ1 : J (kcn st k) W1 := by rw [← hW1]; exact HJA.out _ _ _ hJr (bel_al0 _ _)
      have hbox : Blk W1 wr.heap.size 33 #[.int .i64 x1, .int .i64 x2, .int .i64 x3] := by rw [← hW1]; exact Blk.new _ _ _
      obtain ⟨_, ks1, _, cs1⟩ := HJF.out _ W1 hJ1
      have cf1 := ks1.cell 0
      have d1 := hbox.cell 0
      have d2 := hbox.cell 1
      have d3 := hbox.cell 2
      simp only [List.getElem?_toArray, List.getElem?_cons_zero, List.getElem?_cons_succ] at cf1 d1 d2 d3
      have CS1 := Lib.hid (cs1 k (by omega))
      have hk0 : (0 : Int) ≤ (k : Int) := by omega
      have hk1 : (k : Int) < (M : Int) + 1 := by omega
      have HW1 := Lib.hid hW1
      by_cases hs : st k = (k : Int)
      · rw [hs] at CS1
        have hHx : HxF st pp (M + 1) (kcn st k) (k, (x1, x2, x3)) W1 := ⟨hs, rfl, hlt, hx⟩
        have hklt : kcn st k < kcn st (M + 1) := by have := kcn_mono st (show k + 1 ≤ M + 1 by omega); rw [kcn_stay hs] at this; omega
        obtain ⟨fn, tmps, assign, body, hy, hR⟩ := HY.out (N - 1) (kcn st k) (k, (x1, x2, x3)) W1 hJ1 hHx hklt
        have hy' : (Instr.yield l #[.int .i64 (k : Int), .agg #[.int .i64 x1, .int .i64 x2, .int .i64 x3]]).run Try.prog W1 = .ok (.round l fn tmps assign body) W1 := hy
        rw [← kcn_stay hs] at hR
        have HRR := Lib.hid (hR.mono (R' := fun e B => ∃ q : Bool, e = .returned (.bool q) ∧ (q = true → J (kcn st (k + 1)) B) ∧ (q = false → JL B)) (fun e B h => h.elim (fun h => ⟨true, h.1, fun _ => h.2, fun e => by cases e⟩) (fun h => ⟨false, h.1, fun e => (by cases e), fun _ => h.2⟩)))
        clear hJr hHx hy hR hxx hx hs hklt hcells hJ1 hbox ks1 cs1 hkl
        gi_wp2_with (first
          | (refine ⟨trivial, fun h => (by cases h), ?_⟩; gi_at_fn gS; refine (callsIn_wide.2 CS1.out).mono ?_; rintro e w1 ⟨rfl, rfl⟩)
          | ((try refine ⟨fun h => (by cases h), ?_⟩); refine HRR.out.mono ?_; rintro e W2 ⟨q, rfl, hq1, hq2⟩))
        · have hqf : q = false := by simpa using ‹(!q) = true›
          refine bodyPost_ret (results_none rfl _ _ _) rfl ?_
          exact ⟨⟨_, rfl⟩, .inr (hq2 hqf)⟩
        · have hqt : q = true := by simpa using ‹(!q) = false›
          exact ⟨⟨k + 1, by omega, by go_num, hq1 hqt⟩, by simp [intOf]; omega⟩
      · have hgo := kcn_go hs
        have hsb : (st k == (k : Int)) = false := by simpa using hs
        obtain ⟨sk, hsk⟩ : ∃ sk, st k = sk := ⟨_, rfl⟩
        rw [hsk] at CS1 hsb
        have HJ1 := Lib.hid (show J (kcn st (k + 1)) W1 from by rw [hgo]; exact hJ1)
        have hne : ¬ sk = (k : Int) := by rw [← hsk]; exact hs
        clear hJr hxx hx hs hcells hJ1 hbox ks1 cs1 hkl hgo hsk
        gi_wp2_with (refine ⟨trivial, fun h => (by cases h), ?_⟩; gi_at_fn gS; refine (callsIn_wide.2 CS1.out).mono ?_; rintro e w1 ⟨rfl, rfl⟩)
        refine ⟨fun f h => (by cases h), ?_⟩
        gi_wp2_with fail
        exact ⟨⟨k + 1, by omega, by go_num, HJ1.out⟩, by simp [intOf]; omega⟩
    · obtain rfl : k = M + 1 := by omega
      gi_wp2
      go_end0
      exact ⟨⟨_, rfl⟩, .inl hJr⟩

end Go.Proofs.Ytojofbmpknpggaa

/- A range over an iterator whose rounds lay the element into a box (with what was there), and a region that draws with a tail, in a round. -/
namespace Go.Proofs.Ytojofbmpknpggaa
open Go.RowKit

theorem range_kb {P : Program} {α : Type} {g : Operand} {ps : Array Tmp} {assign body : Code} {Q : Exit → Act → World → Prop} {a : Act} {w : World} {n gf : Nat} {lb : Array Value}
    (hg : a.eval g = .func (.func gf) #[] lb) (eg : ∀ args w, (callFunc gf args).run P w = .ok (.enter gf args) w) {encs : Nat → α → Array Value} (hps : ∀ k x, (encs k x).size = ps.size)
    (Hx : Nat → α → World → Prop) (N : Nat) (I : Nat → World → Prop) (Ix : World → Prop) (hI : OwnFrom w.heap.size I) (hIx : OwnFrom w.heap.size (fun (_ : Unit) W => Ix W))
    (_hHx : ∀ k x W l o o', Hx k x W → w.heap.size ≤ l → W.heap[l]? = some o → o.isCells = false → Hx k x (W.putObj l o'))
    (h0 : I 0 w)
    (hseq : ∀ (l : Nat) (J : Nat → World → Prop) (JL : World → Prop) (V : World), Below w.heap.size w V → (∀ k A B, J k A → Below A.heap.size A B → J k B) → (∀ A B, JL A → Below A.heap.size A B → JL B) → (∀ k A, J k A → I k A) →
      (∀ m k x A, J k A → Hx k x A → k < N → YieldAt Fence.wide m P l (encs k x) A fun e B => (e = .returned (.bool true) ∧ J (k + 1) B) ∨ (e = .returned (.bool false) ∧ JL B)) → J 0 V →
      CallsIn Fence.wide (n - 1) P gf (#[.func (.yield l) #[] #[]] ++ lb) V fun e B => (∃ v, e = .returned v) ∧ (J N B ∨ JL B))
    (a₁ : Nat → α → Nat → Act) (o : α → Obj)
    (hassign : ∀ (l m : Nat) (k : Nat) (x : α) (W : World) (s : Nat) (K : Act → World → Prop), W.heap.size = s → K (a₁ k x s) (W.alloc (o x)) →
      assign.wpIn (Fence.wide.inRound l) m P (Exit.then K (fun _ _ _ => False)) { tmps := (ps.zip (encs k x)).foldl (fun t (p, v) => t.setIfInBounds p v) a.tmps, defers := [] } W)
    (hbody : ∀ (l m : Nat) (k : Nat) (x : α) (A W : World), I k A → Hx k x A → I k W → (∀ (j : Nat) (ob : Obj), A.heap[j]? = some ob → ob.isCells = true → W.heap[j]? = some ob) → W.heap[A.heap.size]? = some (o x) → k < N → body.wpIn (Fence.wide.inRound l) m P (fun e _ W' => (e = .normal ∧ KeepsFrom w.heap.size W W' ∧ I (k + 1) W') ∨ (e = .ret ∧ KeepsFrom w.heap.size W W' ∧ Ix W')) (a₁ k x A.heap.size) W)
    (hdone : ∀ (D : Nat) (W : World), w.heap.size ≤ D → I N W → W.heap[D]? = some (.deferred (some [])) → Q .normal { a with defers := { target := .collected D, args := #[] } :: a.defers } W)
    (hstop : ∀ (D : Nat) (W : World), w.heap.size ≤ D → Ix W → W.heap[D]? = some (.deferred (some [])) → Code.ret.wpIn Fence.wide n P Q { a with defers := { target := .collected D, args := #[] } :: a.defers } W) :
    (Code.rangeFunc g ps assign body).wpIn Fence.wide n P Q a w := by
  refine wpIn_rangeFunc fun fn _ => ?_
  let rec0 (st : LoopState) (pe : Option Code) : Loop := { state := st, pending := pe, fn, tmps := a.tmps, params := ps, assign, body, defers := w.heap.size }
  let V := (w.alloc (.deferred (some []))).alloc (.loop (rec0 .ready none))
  have sizeD : (w.alloc (.deferred (some []))).heap.size = w.heap.size + 1 := by simp
  have bV : Below w.heap.size w V := ((Below.refl _ w).alloc (Nat.le_refl _) _).alloc (by omega) _
  have atL : V.heap[w.heap.size + 1]? = some (.loop (rec0 .ready none)) := by
    have := World.alloc_heap_new (w.alloc (.deferred (some []))) (.loop (rec0 .ready none))
    rwa [sizeD] at this
  have atD : V.heap[w.heap.size]? = some (.deferred (some [])) := (Below.heap_alloc _ _ _ (by omega)).trans (World.alloc_heap_new w _)
  have iV : I 0 V := hI.alloc _ (hI.alloc _ h0)
  let J (k : Nat) (A : World) : Prop := I k A ∧ A.heap[w.heap.size + 1]? = some (.loop (rec0 .ready none)) ∧ A.heap[w.heap.size]? = some (.deferred (some []))
  let JL (A : World) : Prop := Ix A ∧ A.heap[w.heap.size + 1]? = some (.loop (rec0 .done (some .ret))) ∧ A.heap[w.heap.size]? = some (.deferred (some []))
  have round : ∀ m k x A, J k A → Hx k x A → k < N → YieldAt Fence.wide m P (w.heap.size + 1) (encs k x) A fun e B => (e = .returned (.bool true) ∧ J (k + 1) B) ∨ (e = .returned (.bool false) ∧ JL B) := by
    intro m k x A ⟨i1, i2, i3⟩ hx hlen
    have ltL : w.heap.size + 1 < A.heap.size := (Array.getElem?_eq_some_iff.1 i2).1
    have i2' : (A.alloc (o x)).heap[w.heap.size + 1]? = some (.loop (rec0 .ready none)) := (Below.heap_alloc A _ _ ltL).trans i2
    have i3' : (A.alloc (o x)).heap[w.heap.size]? = some (.deferred (some [])) := (Below.heap_alloc A _ _ (by omega)).trans i3
    have ltL' : w.heap.size + 1 < (A.alloc (o x)).heap.size := (Array.getElem?_eq_some_iff.1 i2').1
    refine ⟨fn, _, assign, body, run_yield (P := P) i2 (hps k x), roundIn_of_wpIn trivial (hassign _ _ k x A _ _ rfl ⟨_, run_beginRound i2' rfl, ?_⟩)⟩
    refine wpIn_mono (hbody _ _ k x A _ i1 hx (hI.putObj _ (hI.alloc _ i1) (by omega) i2' rfl) (fun j ob hj hc => by
      have hjA : j < A.heap.size := (Array.getElem?_eq_some_iff.1 hj).1
      by_cases e : j = w.heap.size + 1
      · subst e
        rw [i2] at hj
        cases hj
        cases hc
      · exact (World.putObj_heap_other e).trans ((Below.heap_alloc A _ _ hjA).trans hj)) ((World.putObj_heap_other (by omega)).trans (World.alloc_heap_new A _)) hlen) ?_
    rintro e a3 B (⟨rfl, hk, hi⟩ | ⟨rfl, hk, hi⟩)
    · have l2 := hk.same (w.heap.size + 1) _ (by omega) (World.putObj_heap_same ltL') rfl
      have d2 := hk.same w.heap.size _ (Nat.le_refl _) ((World.putObj_heap_other (by omega)).trans i3') rfl
      exact ⟨_, _, run_endRound (P := P) none l2, .inl ⟨rfl, hI.putObj _ hi (by omega) l2 rfl, World.putObj_heap_same (Array.getElem?_eq_some_iff.1 l2).1, (World.putObj_heap_other (by omega)).trans d2⟩⟩
    · have l2 := hk.same (w.heap.size + 1) _ (by omega) (World.putObj_heap_same ltL') rfl
      have d2 := hk.same w.heap.size _ (Nat.le_refl _) ((World.putObj_heap_other (by omega)).trans i3') rfl
      exact ⟨_, _, run_endRound (P := P) (some .ret) l2, .inr ⟨rfl, hIx.putObj (s := ()) _ hi (by omega) l2 rfl, World.putObj_heap_same (Array.getElem?_eq_some_iff.1 l2).1, (World.putObj_heap_other (by omega)).trans d2⟩⟩
  have abide : ∀ k A B, J k A → Below A.heap.size A B → J k B := fun k A B ⟨j1, j2, j3⟩ hb =>
    ⟨hI k A B none j1 (grown_of_below hb) (fun r e => by cases e), (hb.block _ (Array.getElem?_eq_some_iff.1 j2).1).trans j2, (hb.block _ (Array.getElem?_eq_some_iff.1 j3).1).trans j3⟩
  have abideL : ∀ A B, JL A → Below A.heap.size A B → JL B := fun A B ⟨j1, j2, j3⟩ hb =>
    ⟨hIx () A B none j1 (grown_of_below hb) (fun r e => by cases e), (hb.block _ (Array.getElem?_eq_some_iff.1 j2).1).trans j2, (hb.block _ (Array.getElem?_eq_some_iff.1 j3).1).trans j3⟩
  refine ⟨w.heap.size + 1, [{ target := .collected w.heap.size, args := #[] }], V, { target := .fn (.func gf) lb, args := #[.func (.yield (w.heap.size + 1)) #[] #[]] }, V, gf, #[.func (.yield (w.heap.size + 1)) #[] #[]] ++ lb, V,
    run_enterLoop_outer _ _ _ _ _, ?_, fun _ _ => trivial, by simp [invoke, go_sem, eg], fun h => (by cases h), ?_⟩
  · simp only [resolve, hg]
    simp [go_sem]
  · refine (hseq (w.heap.size + 1) J JL V bV abide abideL (fun k A h => h.1) round ⟨iV, atL, atD⟩).mono ?_
    rintro e B ⟨⟨v, rfl⟩, ⟨j1, j2, j3⟩ | ⟨j1, j2, j3⟩⟩
    · exact ⟨none, _, run_endLoop (P := P) j2 (by simp [rec0]), hdone _ _ (Nat.le_refl _) (hI.putObj _ j1 (by omega) j2 rfl) ((World.putObj_heap_other (by omega)).trans j3)⟩
    · exact ⟨some .ret, _, run_endLoop (P := P) j2 (by simp [rec0]), hstop _ _ (Nat.le_refl _) (hIx.putObj (s := ()) _ j1 (by omega) j2 rfl) ((World.putObj_heap_other (by omega)).trans j3)⟩


/-- A region that draws, all of whose reads and quiet calls stand before a tail that is forced, in a round. -/
theorem region_round_tail {P : Program} {Q : Exit → Act → World → Prop} {id ll m : Nat} {a : Act} {w : World} {l : List Oper} (n : Nat) (hm : P.follows .mixedOrders = true) (hd : l.toArray.all noDefer = true) (hB : Region.lexTailB .any l.toArray n = true)
    (h : wpStill P l.toArray { w with drawn := w.drawn + 1 } (fun a' => wpList P l.toArray (NotOut Q) (l.drop n) a' { w with drawn := w.drawn + 1 }) (l.take n) a) : (Code.region id l.toArray true).wpIn (Fence.wide.inRound ll) m P Q a w := by
  simp only [Region.lexTailB, Bool.and_eq_true, decide_eq_true_eq] at hB
  obtain ⟨⟨⟨⟨hsel, hn⟩, hs⟩, hc⟩, hlex⟩ := hB
  have hn' : n < l.length := by simpa using hn
  have htl : (l.take n).length = n := by simp; omega
  have hdl : (l.drop n).length = l.toArray.size - n := by simp
  have inv0 : HeadInv .any l.toArray n (Array.replicate l.toArray.size false) :=
    ⟨by simp, fun j oj _ hl => (by rw [getD_replicate_false] at hl; cases hl), fun t _ ht => getD_in (by simpa using ht) (getD_replicate_false _ _)⟩
  have H := wpAnyL_lex (md := .any) (g := l.toArray.size - n) hsel hs hc hn (l.take n) 0 _ a (fun j hj => by
    have hj' : j < n := by rw [htl] at hj; exact hj
    simp [hj']) (by simpa using htl) inv0 (by rw [htl]; exact hlex) h
  have := wpAny_of_head (Q' := NotOut Q) (g := l.toArray.size - n) (fun listed a' hL => by
    have := wpAny_of_seq (md := .any) (Q' := NotOut Q) (l.drop n) n listed a' { w with drawn := w.drawn + 1 } (fun j => by simp [List.getElem?_drop]) (by rw [hdl]; exact hL.1) hL.2
    rwa [hdl] at this) _ _ _ H
  rw [htl, show n + (l.toArray.size - n) = l.toArray.size by omega] at this
  exact wpIn_mono (wpIn_region_any hm (any_round (noDefer_spec hd) _ _ _ _ this)) fun _ _ _ h => h.2

end Go.Proofs.Ytojofbmpknpggaa

namespace Go.Proofs.Ytojofbmpknpggaa
open Go.RowKit Go.Shelf
attribute [local go_sem] Oper.semAt_some

/-- What the rounds keep: the boxes of the function, the list's header, the places and their header; what the iterator has; the list. -/
structure IFo (w : World) (b off n c gS : Nat) (lbS : Array Value) (st : Nat → Int) (pp : List Stp) (m k : Nat) (W : World) : Prop where
  kS : Blk W w.heap.size 67 #[.func (.func gS) #[] lbS]
  kH : ∃ g cg, Blk W (w.heap.size + 2) 22 #[.slice (some ⟨g, 0, none⟩) k cg] ∧ W.ownsRow w.heap.size 33 3 (.slice (some ⟨g, 0, none⟩) k cg) k (flatS ((foldL pp st m).take k)) ∧ (g = w.heap.size + 1 ∨ w.heap.size + 7 ≤ g)
  kP : Blk W (w.heap.size + 3) 3 (plC st n k)
  kQ : Blk W (w.heap.size + 4) 24 #[.slice (some ⟨w.heap.size + 3, 0, none⟩) n n]
  kA : Blk W (w.heap.size + 5) 22 #[.slice (some ⟨b, off, none⟩) n c]
  kB : Blk W (w.heap.size + 6) 67 #[.func (.func gS) #[] lbS]
  kW : Below w.heap.size w W
theorem own_cells7 {w : World} {base size n : Nat} {e : TypeId} {v : Value} {xs : List Value} (h : w.ownsRow base e size v n xs) {b : Nat} (hb : v.ownBlock = some b) : ∃ cs, w.heap[b]? = some (.cells cs e (0, 0)) := by
  obtain ⟨_, ⟨rfl, _⟩ | ⟨g, cap, cur, rfl, _, h3, _⟩⟩ := h
  · cases hb
  · cases hb
    exact ⟨cur, h3⟩
theorem own_far {w : World} {base size n : Nat} {e : TypeId} {v : Value} {xs : List Value} {g fb k : Nat} {u : Value} (ha : w.ownsRow base e size v n xs) (hg : v.ownBlock = some g) (hne : g ≠ fb) : (w.setCell ⟨fb, k, none⟩ u).ownsRow base e size v n xs :=
  ha.kept (row := some fb) ⟨rfl, rfl, rfl, by simp, fun j _ hne => heap_setCell_other w ⟨fb, k, none⟩ j u (fun e => hne (by rw [e]))⟩ (.inr (by rw [hg]; intro e; cases e; exact hne rfl))
theorem own_row_kept {w w' : World} {base sz n : Nat} {T : TypeId} {v : Value} {xs : List Value} {row : Option Nat} (h : w.ownsRow base T sz v n xs) (hg : w.grownBy w' row) (hr : ∀ r, row = some r → ∃ o : Obj, w.heap[r]? = some o ∧ o.isCells = false) : w'.ownsRow base T sz v n xs := by
  refine h.kept hg ?_
  cases e : v.ownBlock with
  | none => exact .inl rfl
  | some g =>
    refine .inr fun e2 => ?_
    obtain ⟨cs, hcs⟩ := own_cells7 h e
    obtain ⟨o, ho, hc⟩ := hr g e2.symm
    rw [hcs] at ho
    cases ho
    cases hc
theorem IFo.own {w : World} {b off n c gS B m : Nat} {lbS : Array Value} {st : Nat → Int} {pp : List Stp} (hB : w.heap.size ≤ B) : OwnFrom B (IFo w b off n c gS lbS st pp m) := by
  rintro k W W' row ⟨h1, ⟨g, cg, h2, h3, h4⟩, h5, h6, h7, h8, h9⟩ hg hr
  have hr' := fun r e => (hr r e).2
  exact ⟨(grownBy_keeps_cells hg hr' h1 rfl).trans h1, ⟨g, cg, (grownBy_keeps_cells hg hr' h2 rfl).trans h2, own_row_kept h3 hg hr', h4⟩, (grownBy_keeps_cells hg hr' h5 rfl).trans h5, (grownBy_keeps_cells hg hr' h6 rfl).trans h6, (grownBy_keeps_cells hg hr' h7 rfl).trans h7, (grownBy_keeps_cells hg hr' h8 rfl).trans h8, below_grown h9 hg hr hB⟩

set_option maxRecDepth 100000 in
set_option maxHeartbeats 8000000 in
theorem folded_any (A : Option Addr) (n c gS : Nat) (lbS : Array Value) (eg : ∀ args w, (callFunc gS args).run Try.prog w = .ok (.enter gS args) w) (st : Nat → Int) (M : Nat) (pp : List Stp) (w : World)
    (hp : StepsAt w w.heap.size A n pp) (hn9 : n ≤ 1000) (hM : M < n) (hst : st (n - 1) = (M : Int)) (hnc : n ≤ c) (hc9 : c ≤ 9223372036854775807)
    (href : ∀ i : Nat, i ≤ M → st i = (i : Int) → ∀ y z : Int, pp[i]? = some (2, y, z) → ∃ a d a' d' : Nat, y = (a : Int) ∧ z = (d : Int) ∧ a < n ∧ d < n ∧ st a = (a' : Int) ∧ st d = (d' : Int) ∧ st a' = (a' : Int) ∧ st d' = (d' : Int) ∧ a' < i ∧ d' < i)
    (hS : ∀ (V : World) (i : Nat), Below w.heap.size w V → i < n → Calls Try.prog gS (#[.int .i64 (i : Int)] ++ lbS) V fun e w' => e = .returned (.int .i64 (st i)) ∧ V = w') :
    Calls Try.prog 45 #[.slice A n c, .func (.func gS) #[] lbS] w fun e w' => ∃ A' n' c', e = .returned (.slice A' n' c') ∧ StepsAt w' w'.heap.size A' n' (foldL pp st (M + 1)) ∧ n' ≤ c' ∧ c' ≤ 9223372036854775807 ∧ Below w.heap.size w w' := by
  have hlp := hp.len
  have hn1 : 1 ≤ n := by omega
  obtain ⟨i0, hi, hz0, hz1, hz2⟩ := info_parts info_int
  obtain ⟨i1, hj, hy0, hy1, hy2⟩ := info_parts info_step
  have hmk : ∀ W : World, (Instr.makeSlice 24 (.int .i64 (n : Int)) (.int .i64 (n : Int))).run Try.prog W = .ok (.slice (some ⟨W.heap.size, 0, none⟩) n n) (W.alloc (.cells (plC st n 0) 3)) := by
    intro W
    rw [plC_made]
    have := run_make_rowN (P := Try.prog) 24 3 i0 _ Try.underlying24 hi hz0 .i64 .i64 n n (Nat.le_refl _) (by rw [hz2]; omega) (by omega) W
    rw [hz1] at this
    exact this
  obtain ⟨b, off, rfl, hb0, _⟩ := hp.mem (by omega)
  have HP := Lib.hid hp
  have HLP := Lib.hid hlp
  have HREF := Lib.hid href
  have HSS := Lib.hid hS
  have HST := Lib.hid hst
  obtain ⟨W1, hW1⟩ : ∃ W1, w.alloc (.cells #[.func (.func gS) #[] lbS] 67) = W1 := ⟨_, rfl⟩
  have s1 : W1.heap.size = w.heap.size + 1 := by rw [← hW1]; simp
  have b1 : Below w.heap.size w W1 := by rw [← hW1]; exact bel_al (Below.refl _ _) _
  have kS1 : Blk W1 w.heap.size 67 #[.func (.func gS) #[] lbS] := by rw [← hW1]; exact Blk.new _ _ _
  obtain ⟨W2, hW2⟩ : ∃ W2, W1.alloc (.cells #[] 33) = W2 := ⟨_, rfl⟩
  have s2 : W2.heap.size = w.heap.size + 2 := by rw [← hW2]; simp [s1]
  have b2 : Below w.heap.size w W2 := by rw [← hW2]; exact bel_al b1 _
  have r2 : W2.ownsRow w.heap.size 33 3 (.slice (some ⟨w.heap.size + 1, 0, none⟩) 0 0) 0 [] := by
    rw [← hW2, ← s1]
    exact World.ownsRow_lit (e := 33) (size := 3) W1 #[] 0 (by omega) (by unfold maxLen; omega) rfl
  obtain ⟨W3, hW3⟩ : ∃ W3, W2.alloc (.cells #[.slice (some ⟨w.heap.size + 1, 0, none⟩) 0 0] 22) = W3 := ⟨_, rfl⟩
  have s3 : W3.heap.size = w.heap.size + 3 := by rw [← hW3]; simp [s2]
  have b3 : Below w.heap.size w W3 := by rw [← hW3]; exact bel_al b2 _
  obtain ⟨W4, hW4⟩ : ∃ W4, W3.alloc (.cells (plC st n 0) 3) = W4 := ⟨_, rfl⟩
  have s4 : W4.heap.size = w.heap.size + 4 := by rw [← hW4]; simp [s3]
  have b4 : Below w.heap.size w W4 := by rw [← hW4]; exact bel_al b3 _
  obtain ⟨W5, hW5⟩ : ∃ W5, W4.alloc (.cells #[.slice (some ⟨w.heap.size + 3, 0, none⟩) n n] 24) = W5 := ⟨_, rfl⟩
  have s5 : W5.heap.size = w.heap.size + 5 := by rw [← hW5]; simp [s4]
  have b5 : Below w.heap.size w W5 := by rw [← hW5]; exact bel_al b4 _
  obtain ⟨W6, hW6⟩ : ∃ W6, W5.alloc (.cells #[.slice (some ⟨b, off, none⟩) n c] 22) = W6 := ⟨_, rfl⟩
  have s6 : W6.heap.size = w.heap.size + 6 := by rw [← hW6]; simp [s5]
  have b6 : Below w.heap.size w W6 := by rw [← hW6]; exact bel_al b5 _
  obtain ⟨W7, hW7⟩ : ∃ W7, W6.alloc (.cells #[.func (.func gS) #[] lbS] 67) = W7 := ⟨_, rfl⟩
  have s7 : W7.heap.size = w.heap.size + 7 := by rw [← hW7]; simp [s6]
  have b7 : Below w.heap.size w W7 := by rw [← hW7]; exact bel_al b6 _
  have HI0 : Hid (IFo w b off n c gS lbS st pp (M + 1) 0 W7) := Lib.hid (by
    refine ⟨?_, ⟨w.heap.size + 1, 0, ?_, ?_, .inl rfl⟩, ?_, ?_, ?_, ?_, b7⟩
    · rw [← hW7, ← hW6, ← hW5, ← hW4, ← hW3, ← hW2]; exact (((((kS1.alloc _).alloc _).alloc _).alloc _).alloc _).alloc _
    · rw [← hW7, ← hW6, ← hW5, ← hW4, ← hW3, ← s2]; exact ((((Blk.new _ _ _).alloc _).alloc _).alloc _).alloc _
    · rw [List.take_zero, ← hW7, ← hW6, ← hW5, ← hW4, ← hW3]; exact ((((r2.alloc _).alloc _).alloc _).alloc _).alloc _
    · rw [← hW7, ← hW6, ← hW5, ← hW4, ← s3]; exact (((Blk.new _ _ _).alloc _).alloc _).alloc _
    · rw [← hW7, ← hW6, ← hW5, ← s4, s4]
      have := ((Blk.new W4 24 #[.slice (some ⟨w.heap.size + 3, 0, none⟩) n n]).alloc (.cells #[.slice (some ⟨b, off, none⟩) n c] 22)).alloc (.cells #[.func (.func gS) #[] lbS] 67)
      rw [s4] at this
      exact this
    · rw [← hW7, ← hW6, ← s5]; exact (Blk.new _ _ _).alloc _
    · rw [← hW7, ← s6]; exact Blk.new _ _ _)
  have c0 : W5.cell? ⟨w.heap.size, 0, none⟩ = some (.func (.func gS) #[] lbS) := by
    have : Blk W5 w.heap.size 67 #[.func (.func gS) #[] lbS] := by rw [← hW5, ← hW4, ← hW3, ← hW2]; exact (((kS1.alloc _).alloc _).alloc _).alloc _
    exact this.cell 0
  have HW6 := Lib.hid hW6
  have HW7 := Lib.hid hW7
  have HS7 := Lib.hid s7
  have HS5 := Lib.hid s5
  clear hp href hS hst b1 b2 b3 b4 b5 b6 b7 kS1 r2 hb0 hW6 hW7 s6 s7 hlp
  refine callsIn_wide (n := 5) |>.1 ?_
  refine callsIn_of_wp_marks Try.func45 rfl trivial ?_ rfl
  simp only [Try.ntmps45, List.size_toArray, List.length_cons, List.length_nil, Nat.reduceAdd, Nat.reduceSub, Array.replicate_succ, Array.replicate_zero, List.push_toArray, List.append_toArray, List.nil_append, List.cons_append]
  gi_wp2_with (refine ⟨trivial, ?_⟩; gi_at_call 58; refine (callsIn_wide.2 (staying_any _ _ _ _ _ _)).mono ?_; rintro e w5 ⟨rfl, rfl⟩)
  rw [HW6.out, HW7.out]
  clear hmk hW1 hW2 hW3 hW4 hW5 s1 s2 s3 s4 s5 c0 hz0 hz1 hz2 hi
  refine' range_kb (gf := 68) (lb := #[.pointer (some ⟨w.heap.size + 6, 0, none⟩), .pointer (some ⟨w.heap.size + 5, 0, none⟩)]) rfl (enters_of Try.func68 (by kernel_rfl) rfl) (encs := encF) (fun _ _ => rfl)
    (HxF st pp (M + 1)) (kcn st (M + 1)) (IFo w b off n c gS lbS st pp (M + 1)) (fun _ => False) (IFo.own (by rw [HS7.out]; omega)) (fun _ _ _ _ h _ _ => h.elim) (fun k x W l o o' hx _ _ _ => hx) HI0.out ?seq _ (fun x => .cells #[.int .i64 x.2.1, .int .i64 x.2.2.1, .int .i64 x.2.2.2] 33) ?assign ?body ?done ?stop
  case seq =>
    intro l J JL V hV hJ hJL hJI hY hJ0
    exact staying_in l 4 (w.heap.size + 6) (w.heap.size + 5) gS lbS eg b off c n M st pp J JL HLP.out hn9 hM HST.out hnc hc9 (fun k A hA => by
      have h := hJI k A hA
      refine ⟨h.kA, h.kB, fun i x hx => ?_, fun i hi => HSS.out A i h.kW hi⟩
      obtain ⟨hil, rfl⟩ := List.getElem?_eq_some_iff.1 hx
      have hin : i < n := by rw [HLP.out]; exact hil
      obtain ⟨b', off', x1, x2, x3, e', hb', q1, q2, q3, q4⟩ := HP.out.cellAt hin
      cases e'
      rw [List.getElem?_eq_getElem hil] at q4
      have q5 := Option.some.inj q4
      rw [q5]
      exact ⟨(h.kW.cell (p := ⟨b, off + i * 3, none⟩) hb').trans q1, (h.kW.cell (p := ⟨b, off + i * 3 + 1, none⟩) hb').trans q2, (h.kW.cell (p := ⟨b, off + i * 3 + 2, none⟩) hb').trans q3⟩) hJ hY V hJ0
  case assign =>
    intro l m k x W s K hs hK
    unfold encF
    gi_wp2
    exact hK
  case body =>
    rintro l m k ⟨i, x, y, z⟩ A0 W hIA hx hI hrel hbox hk
    obtain ⟨s, hs⟩ : ∃ s, A0.heap.size = s := ⟨_, rfl⟩
    have hs1 := hIA.kB.lt
    rw [hs] at hs1 hbox
    simp only at hbox
    obtain ⟨hsi, hki, him, hxp⟩ := hx
    simp only at hsi hki him hxp
    have hin : i < n := by omega
    obtain ⟨g, cg, vH, vR, gd⟩ := hI.kH
    obtain ⟨g1, cg1, gH1, gR1, gd1⟩ := hIA.kH
    have hsame := hrel _ _ gH1 rfl
    have hgg : g = g1 := by
      have h1 : W.heap[w.heap.size + 2]? = _ := vH
      rw [hsame] at h1
      cases h1
      rfl
    have hgs : g < s := by rw [hgg, ← hs]; exact (gR1.lt g1 rfl).2
    clear hgg hsame gH1 gR1 gd1 hrel hIA
    have vS := hI.kS
    have vP := hI.kP
    have vQ := hI.kQ
    have vA := hI.kA
    have vB := hI.kB
    have vW := hI.kW
    have vX : Blk W s 33 #[.int .i64 x, .int .i64 y, .int .i64 z] := hbox
    have vK : KeepsFrom (w.heap.size + 7) W W := KeepsFrom.refl _ _
    have hk9 : k ≤ 1000 := by have := kcn_le st i; omega
    have hd : pp.getD i (0, 0, 0) = (x, y, z) := by rw [List.getD_eq_getElem?_getD, hxp]; rfl
    have hi0 : (0 : Int) ≤ (i : Int) := by omega
    have hi1 : (i : Int) < (n : Int) := by omega
    simp only [hs]
    rw [HS7.out]
    have t0 : W.cell? ⟨s, 0, none⟩ = some (.int .i64 x) := vX.cell 0
    by_cases hkd : x = 2
    · subst hkd
      obtain ⟨a, d, a', d', rfl, rfl, han, hdn, ea, ed, ea', ed', hai, hdi⟩ := HREF.out i (by omega) hsi y z hxp
      have hka : kcn st a' < k := by have := kcn_mono st (show a' + 1 ≤ i by omega); rw [kcn_stay ea'] at this; omega
      have hkd2 : kcn st d' < k := by have := kcn_mono st (show d' + 1 ≤ i by omega); rw [kcn_stay ed'] at this; omega
      have hfix : fixS st (pp.getD i (0, 0, 0)) = (2, (kcn st a' : Int), (kcn st d' : Int)) := by
        rw [hd]
        unfold fixS
        rw [if_pos rfl]
        simp only [Int.toNat_natCast, ea, ed]
      have CA := Lib.hid (HSS.out W.drew a (vW.drew) han)
      have CD := Lib.hid (HSS.out W.drew d (vW.drew) hdn)
      rw [ea] at CA
      rw [ed] at CD
      have t1 : W.cell? ⟨s, 1, none⟩ = some (.int .i64 (a : Int)) := vX.cell 1
      have t2 : W.cell? ⟨s, 2, none⟩ = some (.int .i64 (d : Int)) := vX.cell 2
      have t3 : W.cell? ⟨w.heap.size + 4, 0, none⟩ = some (.slice (some ⟨w.heap.size + 3, 0, none⟩) n n) := vQ.cell 0
      have t4 : W.cell? ⟨w.heap.size, 0, none⟩ = some (.func (.func gS) #[] lbS) := vS.cell 0
      have t5 : W.cell? ⟨w.heap.size + 3, a', none⟩ = some (.int .i64 (kcn st a' : Int)) := by rw [vP.cell, plC_at (by omega), if_pos ⟨ea', hka⟩]
      have t6 : W.cell? ⟨w.heap.size + 3, d', none⟩ = some (.int .i64 (kcn st d' : Int)) := by rw [vP.cell, plC_at (by omega), if_pos ⟨ed', hkd2⟩]
      have a0 : (0 : Int) ≤ (a' : Int) := by omega
      have a1 : (a' : Int) < (n : Int) := by omega
      have d0 : (0 : Int) ≤ (d' : Int) := by omega
      have d1 : (d' : Int) < (n : Int) := by omega
      obtain ⟨V0, hV0⟩ : ∃ V0, ((W.setCell ⟨s, 1, none⟩ (.int .i64 (kcn st a' : Int))).setCell ⟨s, 2, none⟩ (.int .i64 (kcn st d' : Int))).drew = V0 := ⟨_, rfl⟩
      have yS : Blk V0 w.heap.size 67 #[.func (.func gS) #[] lbS] := by rw [← hV0]; exact (vS.far (p := ⟨s, 1, none⟩) (by simp only; omega) _).far (p := ⟨s, 2, none⟩) (by simp only; omega) _
      have yH : Blk V0 (w.heap.size + 2) 22 #[.slice (some ⟨g, 0, none⟩) k cg] := by rw [← hV0]; exact (vH.far (p := ⟨s, 1, none⟩) (by simp only; omega) _).far (p := ⟨s, 2, none⟩) (by simp only; omega) _
      have yP : Blk V0 (w.heap.size + 3) 3 (plC st n k) := by rw [← hV0]; exact (vP.far (p := ⟨s, 1, none⟩) (by simp only; omega) _).far (p := ⟨s, 2, none⟩) (by simp only; omega) _
      have yQ : Blk V0 (w.heap.size + 4) 24 #[.slice (some ⟨w.heap.size + 3, 0, none⟩) n n] := by rw [← hV0]; exact (vQ.far (p := ⟨s, 1, none⟩) (by simp only; omega) _).far (p := ⟨s, 2, none⟩) (by simp only; omega) _
      have yA : Blk V0 (w.heap.size + 5) 22 #[.slice (some ⟨b, off, none⟩) n c] := by rw [← hV0]; exact (vA.far (p := ⟨s, 1, none⟩) (by simp only; omega) _).far (p := ⟨s, 2, none⟩) (by simp only; omega) _
      have yB : Blk V0 (w.heap.size + 6) 67 #[.func (.func gS) #[] lbS] := by rw [← hV0]; exact (vB.far (p := ⟨s, 1, none⟩) (by simp only; omega) _).far (p := ⟨s, 2, none⟩) (by simp only; omega) _
      have yX1 : Blk (W.drew.setCell ⟨s, 1, none⟩ (.int .i64 (kcn st a' : Int))) s 33 #[.int .i64 2, .int .i64 (kcn st a' : Int), .int .i64 (d : Int)] := (show Blk W.drew _ _ _ from vX).set_ 1 (.int .i64 (kcn st a' : Int))
      have yX : Blk V0 s 33 #[.int .i64 2, .int .i64 (kcn st a' : Int), .int .i64 (kcn st d' : Int)] := by rw [← hV0]; exact (vX.set_ 1 (.int .i64 (kcn st a' : Int))).set_ 2 (.int .i64 (kcn st d' : Int))
      have yR : V0.ownsRow w.heap.size 33 3 (.slice (some ⟨g, 0, none⟩) k cg) k (flatS ((foldL pp st (M + 1)).take k)) := by rw [← hV0]; exact (own_far (g := g) (own_far (g := g) vR rfl (by omega)) rfl (by omega)).drew
      have yW : Below w.heap.size w V0 := by rw [← hV0]; exact ((vW.setCell (p := ⟨s, 1, none⟩) (by simp only; omega) _).setCell (p := ⟨s, 2, none⟩) (by simp only; omega) _).drew
      have yK : KeepsFrom (w.heap.size + 7) W V0 := by rw [← hV0]; exact ((KeepsOthers.setCell W ⟨s, 1, none⟩ _).from _).trans (((KeepsOthers.setCell _ ⟨s, 2, none⟩ _).from _).trans ((KeepsOthers.drew _).from _))
      have u1 : W.drew.cell? ⟨s, 1, none⟩ = some (.int .i64 (a : Int)) := t1
      have u2 : W.drew.frozen? ⟨s, 1, none⟩ = false := (show Blk W.drew _ _ _ from vX).frozen 1
      have u3 : (W.drew.setCell ⟨s, 1, none⟩ (.int .i64 (kcn st a' : Int))).cell? ⟨s, 2, none⟩ = some (.int .i64 (d : Int)) := yX1.cell 2
      have u4 : (W.drew.setCell ⟨s, 1, none⟩ (.int .i64 (kcn st a' : Int))).frozen? ⟨s, 2, none⟩ = false := yX1.frozen 2
      have yX2 : Blk (W.setCell ⟨s, 1, none⟩ (.int .i64 (kcn st a' : Int))).drew s 33 #[.int .i64 2, .int .i64 (kcn st a' : Int), .int .i64 (d : Int)] := vX.set_ 1 (.int .i64 (kcn st a' : Int))
      have u5 : (W.setCell ⟨s, 1, none⟩ (.int .i64 (kcn st a' : Int))).drew.cell? ⟨s, 2, none⟩ = some (.int .i64 (d : Int)) := yX2.cell 2
      have u6 : (W.setCell ⟨s, 1, none⟩ (.int .i64 (kcn st a' : Int))).drew.frozen? ⟨s, 2, none⟩ = false := yX2.frozen 2
      have hfar : ∀ (U : World) (j m : Nat) (r x : Nat) (v : Value), j ≠ s → (U.setCell ⟨s, r, none⟩ v).cell? ⟨j, m, none⟩ = U.cell? ⟨j, m, none⟩ := fun U j m r x v hj => World.cell?_setCell_far U ⟨s, r, none⟩ ⟨j, m, none⟩ v (show s ≠ j from Ne.symm hj)
      have HPUT1 := Lib.hid (show (W.drew.setCell ⟨s, 1, none⟩ (.int .i64 (kcn st a' : Int))).cell? ⟨w.heap.size + 4, 0, none⟩ = some (.slice (some ⟨w.heap.size + 3, 0, none⟩) n n) ∧ (W.drew.setCell ⟨s, 1, none⟩ (.int .i64 (kcn st a' : Int))).cell? ⟨w.heap.size, 0, none⟩ = some (.func (.func gS) #[] lbS) ∧ (W.drew.setCell ⟨s, 1, none⟩ (.int .i64 (kcn st a' : Int))).cell? ⟨w.heap.size + 3, a', none⟩ = some (.int .i64 (kcn st a' : Int)) ∧ (W.drew.setCell ⟨s, 1, none⟩ (.int .i64 (kcn st a' : Int))).cell? ⟨w.heap.size + 3, d', none⟩ = some (.int .i64 (kcn st d' : Int)) from
        ⟨(hfar _ _ _ _ 0 _ (by omega)).trans t3, (hfar _ _ _ _ 0 _ (by omega)).trans t4, (hfar _ _ _ _ 0 _ (by omega)).trans t5, (hfar _ _ _ _ 0 _ (by omega)).trans t6⟩)
      have HPUT2 := Lib.hid (show ((W.drew.setCell ⟨s, 1, none⟩ (.int .i64 (kcn st a' : Int))).setCell ⟨s, 2, none⟩ (.int .i64 (kcn st d' : Int))).cell? ⟨w.heap.size + 4, 0, none⟩ = some (.slice (some ⟨w.heap.size + 3, 0, none⟩) n n) ∧ ((W.drew.setCell ⟨s, 1, none⟩ (.int .i64 (kcn st a' : Int))).setCell ⟨s, 2, none⟩ (.int .i64 (kcn st d' : Int))).cell? ⟨w.heap.size, 0, none⟩ = some (.func (.func gS) #[] lbS) ∧ ((W.drew.setCell ⟨s, 1, none⟩ (.int .i64 (kcn st a' : Int))).setCell ⟨s, 2, none⟩ (.int .i64 (kcn st d' : Int))).cell? ⟨w.heap.size + 3, a', none⟩ = some (.int .i64 (kcn st a' : Int)) ∧ ((W.drew.setCell ⟨s, 1, none⟩ (.int .i64 (kcn st a' : Int))).setCell ⟨s, 2, none⟩ (.int .i64 (kcn st d' : Int))).cell? ⟨w.heap.size + 3, d', none⟩ = some (.int .i64 (kcn st d' : Int)) from
        ⟨(hfar _ _ _ _ 0 _ (by omega)).trans HPUT1.out.1, (hfar _ _ _ _ 0 _ (by omega)).trans HPUT1.out.2.1, (hfar _ _ _ _ 0 _ (by omega)).trans HPUT1.out.2.2.1, (hfar _ _ _ _ 0 _ (by omega)).trans HPUT1.out.2.2.2⟩)
      have HV0 := Lib.hid hV0
      clear hfar vS vH vP vQ vA vB vX vW vK vR yX1 yX2 hV0 hI hbox hd hxp ea ed ea' ed' hka hkd2 hai hdi han hdn
      have hcp : V0.cell? ⟨w.heap.size + 3, i, none⟩ = some (.int .i64 0) := by rw [yP.cell, plC_at hin, if_neg (by omega)]
      have hfp : V0.frozen? ⟨w.heap.size + 3, i, none⟩ = false := yP.frozen i
      have hcq : V0.cell? ⟨w.heap.size + 4, 0, none⟩ = some (.slice (some ⟨w.heap.size + 3, 0, none⟩) n n) := yQ.cell 0
      have hch : V0.cell? ⟨w.heap.size + 2, 0, none⟩ = some (.slice (some ⟨g, 0, none⟩) k cg) := yH.cell 0
      obtain ⟨V1, hV1⟩ : ∃ V1, V0.setCell ⟨w.heap.size + 3, i, none⟩ (.int .i64 (k : Int)) = V1 := ⟨_, rfl⟩
      have p1 : Blk V1 (w.heap.size + 3) 3 (plC st n (k + 1)) := by rw [← hV1]; have := yP.set_ i (.int .i64 (k : Int)); rw [plC_set hin hsi hki] at this; exact this
      have h1 : Blk V1 (w.heap.size + 2) 22 #[.slice (some ⟨g, 0, none⟩) k cg] := by rw [← hV1]; exact yH.far (p := ⟨w.heap.size + 3, i, none⟩) (by simp only; omega) _
      have q1 : Blk V1 (w.heap.size + 4) 24 #[.slice (some ⟨w.heap.size + 3, 0, none⟩) n n] := by rw [← hV1]; exact yQ.far (p := ⟨w.heap.size + 3, i, none⟩) (by simp only; omega) _
      have a1 : Blk V1 (w.heap.size + 5) 22 #[.slice (some ⟨b, off, none⟩) n c] := by rw [← hV1]; exact yA.far (p := ⟨w.heap.size + 3, i, none⟩) (by simp only; omega) _
      have b1 : Blk V1 (w.heap.size + 6) 67 #[.func (.func gS) #[] lbS] := by rw [← hV1]; exact yB.far (p := ⟨w.heap.size + 3, i, none⟩) (by simp only; omega) _
      have f1 : Blk V1 w.heap.size 67 #[.func (.func gS) #[] lbS] := by rw [← hV1]; exact yS.far (p := ⟨w.heap.size + 3, i, none⟩) (by simp only; omega) _
      have x1 : Blk V1 s 33 #[.int .i64 2, .int .i64 (kcn st a' : Int), .int .i64 (kcn st d' : Int)] := by rw [← hV1]; exact yX.far (p := ⟨w.heap.size + 3, i, none⟩) (by simp only; omega) _
      have r1 : V1.ownsRow w.heap.size 33 3 (.slice (some ⟨g, 0, none⟩) k cg) k (flatS ((foldL pp st (M + 1)).take k)) := by rw [← hV1]; exact own_far (g := g) yR rfl (by omega)
      have w1 : Below w.heap.size w V1 := by rw [← hV1]; exact yW.setCell (p := ⟨w.heap.size + 3, i, none⟩) (by simp only; omega) _
      have k1 : KeepsFrom (w.heap.size + 7) W V1 := by rw [← hV1]; exact yK.trans ((KeepsOthers.setCell V0 ⟨w.heap.size + 3, i, none⟩ _).from _)
      have z1 : s < V1.heap.size := x1.lt
      have g1 : g < V1.heap.size := (r1.lt g rfl).2
      have d0 := x1.cell 0
      have d1 := x1.cell 1
      have d2 := x1.cell 2
      have d3 := h1.cell 0
      simp only [List.getElem?_toArray, List.getElem?_cons_zero, List.getElem?_cons_succ] at d0 d1 d2 d3
      obtain ⟨V2, hV2⟩ : ∃ V2, V1.alloc (.cells #[.int .i64 2, .int .i64 (kcn st a' : Int), .int .i64 (kcn st d' : Int)] 33) = V2 := ⟨_, rfl⟩
      have s2 : V2.heap.size = V1.heap.size + 1 := by rw [← hV2]; simp
      have p2 : Blk V2 (w.heap.size + 3) 3 (plC st n (k + 1)) := by rw [← hV2]; exact p1.alloc _
      have h2 : Blk V2 (w.heap.size + 2) 22 #[.slice (some ⟨g, 0, none⟩) k cg] := by rw [← hV2]; exact h1.alloc _
      have q2 : Blk V2 (w.heap.size + 4) 24 #[.slice (some ⟨w.heap.size + 3, 0, none⟩) n n] := by rw [← hV2]; exact q1.alloc _
      have a2 : Blk V2 (w.heap.size + 5) 22 #[.slice (some ⟨b, off, none⟩) n c] := by rw [← hV2]; exact a1.alloc _
      have b2 : Blk V2 (w.heap.size + 6) 67 #[.func (.func gS) #[] lbS] := by rw [← hV2]; exact b1.alloc _
      have f2 : Blk V2 w.heap.size 67 #[.func (.func gS) #[] lbS] := by rw [← hV2]; exact f1.alloc _
      have r2 : V2.ownsRow w.heap.size 33 3 (.slice (some ⟨g, 0, none⟩) k cg) k (flatS ((foldL pp st (M + 1)).take k)) := by rw [← hV2]; exact r1.alloc _
      have w2 : Below w.heap.size w V2 := by rw [← hV2]; exact bel_al w1 _
      have k2 : KeepsFrom (w.heap.size + 7) W V2 := by rw [← hV2]; exact k1.trans ((KeepsOthers.alloc V1 _).from _)
      have HN2 := Lib.hid (show ∀ j u, [Value.int .i64 2, .int .i64 (kcn st a' : Int), .int .i64 (kcn st d' : Int)][j]? = some u → V2.cell? ((⟨V1.heap.size, 0, none⟩ : Addr).add j) = some u from by rw [← hV2]; exact World.news_of_block (cs := #[.int .i64 2, .int .i64 (kcn st a' : Int), .int .i64 (kcn st d' : Int)]) (t := 33) (fr := (0, 0)) (heap_alloc_new V1 _))
      have HFIN := Lib.hid (fun (g5 cap5 : Nat) (w5 : World) (hown5 : w5.ownsRow w.heap.size 33 3 (.slice (some ⟨g5, 0, none⟩) (k + 1) cap5) (k + 1) (flatS ((foldL pp st (M + 1)).take k) ++ [.int .i64 2, .int .i64 (kcn st a' : Int), .int .i64 (kcn st d' : Int)])) (hg5 : V2.grownBy w5 (some g)) (ho5 : g5 = g ∨ g5 = V2.heap.size) => show KeepsFrom (w.heap.size + 7) W (w5.setCell ⟨w.heap.size + 2, 0, none⟩ (.slice (some ⟨g5, 0, none⟩) (k + 1) cap5)) ∧ IFo w b off n c gS lbS st pp (M + 1) (k + 1) (w5.setCell ⟨w.heap.size + 2, 0, none⟩ (.slice (some ⟨g5, 0, none⟩) (k + 1) cap5)) from by
        have hx : ∀ j, j < w.heap.size + 7 → j ≠ w.heap.size + 1 → some j ≠ some g := fun j h1 h2 e => by cases e; omega
        have hs := s2
        have hkc : g5 = w.heap.size + 1 ∨ w.heap.size + 7 ≤ g5 := by omega
        refine ⟨(k2.trans ((KeepsOthers.of_grownBy hg5 (fun j o e ho => by cases e; obtain ⟨cs, hcs⟩ := own_cells7 r2 (b := g) rfl; rw [hcs] at ho; cases ho; rfl)).from _)).trans ((KeepsOthers.setCell w5 ⟨w.heap.size + 2, 0, none⟩ _).from _), ?_, ?_, ?_, ?_, ?_, ?_, ?_⟩
        · exact (f2.grown hg5 (hx _ (by omega) (by omega))).far (p := ⟨w.heap.size + 2, 0, none⟩) (by simp only; omega) _
        · refine ⟨g5, cap5, ?_, ?_, hkc⟩
          · have := (h2.grown hg5 (hx _ (by omega) (by omega))).set_ 0 (.slice (some ⟨g5, 0, none⟩) (k + 1) cap5)
            exact this
          · refine own_far (g := g5) ?_ rfl (by omega)
            rw [← hki, foldL_take hsi him, hki, flatS_snoc, hfix]
            exact hown5
        · exact (p2.grown hg5 (hx _ (by omega) (by omega))).far (p := ⟨w.heap.size + 2, 0, none⟩) (by simp only; omega) _
        · exact (q2.grown hg5 (hx _ (by omega) (by omega))).far (p := ⟨w.heap.size + 2, 0, none⟩) (by simp only; omega) _
        · exact (a2.grown hg5 (hx _ (by omega) (by omega))).far (p := ⟨w.heap.size + 2, 0, none⟩) (by simp only; omega) _
        · exact (b2.grown hg5 (hx _ (by omega) (by omega))).far (p := ⟨w.heap.size + 2, 0, none⟩) (by simp only; omega) _
        · exact (w2.grown hg5 (by omega) (fun j e => by cases e; exact (r2.lt g rfl).1)).setCell (p := ⟨w.heap.size + 2, 0, none⟩) (by simp only; omega) _)
      have HR2 := Lib.hid r2
      have HH2 := Lib.hid h2
      have HSZ := Lib.hid (show w.heap.size ≤ V2.heap.size ∧ w.heap.size + 2 < V2.heap.size ∧ w.heap.size + 2 ≠ g from ⟨by omega, by omega, by omega⟩)
      clear p1 h1 q1 a1 b1 f1 x1 r1 w1 k1 p2 h2 q2 a2 b2 f2 r2 w2 k2 yS yH yR yP yQ yA yB yX yW yK z1 g1 s2 hfix hsi hki him
      gi_wp2_with fail
      refine region_round (S := (fun w' => w'.cell? ⟨w.heap.size + 4, 0, none⟩ = some (.slice (some ⟨w.heap.size + 3, 0, none⟩) n n) ∧ w'.cell? ⟨w.heap.size, 0, none⟩ = some (.func (.func gS) #[] lbS) ∧ w'.cell? ⟨w.heap.size + 3, a', none⟩ = some (.int .i64 (kcn st a' : Int)) ∧ w'.cell? ⟨w.heap.size + 3, d', none⟩ = some (.int .i64 (kcn st d' : Int)))) (by kernel_rfl) (by kernel_rfl) ?_ (fun hHeld => ?_)
      · first | exact ⟨t3, t4, t5, t6⟩ | exact HPUT1.out | exact HPUT2.out | assumption | go_keep
      refine wpAnyH_take (i := 0) (v := ?_) rfl (by kernel_rfl) (by kernel_rfl) (by kernel_rfl) (fun _ _ _ h => h) (Or.inl ⟨by rfl, ?_⟩) (by assumption) ?_
      rotate_left
      · intro w hSw; (try dsimp only at hSw); go_simp <;> with_reducible rfl
      try simp only [List.getElem_toArray, List.getElem_cons_zero, Act.put, List.setIfInBounds_toArray, List.set_cons_zero, List.set_cons_succ]
      refine wpAnyH_take (i := 1) (v := ?_) rfl (by kernel_rfl) (by kernel_rfl) (by kernel_rfl) (fun _ _ _ h => h) (Or.inl ⟨by rfl, ?_⟩) (by assumption) ?_
      rotate_left
      · intro w hSw; (try dsimp only at hSw); go_simp <;> with_reducible rfl
      try simp only [List.getElem_toArray, List.getElem_cons_succ, List.getElem_cons_zero, Act.put, List.setIfInBounds_toArray, List.set_cons_zero, List.set_cons_succ]
      refine wpAnyH_take (i := 2) (v := ?_) rfl (by kernel_rfl) (by kernel_rfl) (by kernel_rfl) (fun _ _ _ h => h) (Or.inl ⟨by rfl, ?_⟩) (by assumption) ?_
      rotate_left
      · intro w hSw; (try dsimp only at hSw); go_simp <;> with_reducible rfl
      try simp only [List.getElem_toArray, List.getElem_cons_succ, List.getElem_cons_zero, Act.put, List.setIfInBounds_toArray, List.set_cons_zero, List.set_cons_succ]
      refine wpAnyH_take (i := 7) (v := ?_) rfl (by kernel_rfl) (by kernel_rfl) (by kernel_rfl) (fun _ _ _ h => h) (Or.inl ⟨by rfl, ?_⟩) (by assumption) ?_
      rotate_left
      · intro w hSw; (try dsimp only at hSw); go_simp <;> with_reducible rfl
      try simp only [List.getElem_toArray, List.getElem_cons_succ, List.getElem_cons_zero, Act.put, List.setIfInBounds_toArray, List.set_cons_zero, List.set_cons_succ]
      refine wpAnyH_take (i := 8) (v := ?_) rfl (by kernel_rfl) (by kernel_rfl) (by kernel_rfl) (fun _ _ _ h => h) (Or.inl ⟨by rfl, ?_⟩) (by assumption) ?_
      rotate_left
      · intro w hSw; (try dsimp only at hSw); go_simp <;> with_reducible rfl
      try simp only [List.getElem_toArray, List.getElem_cons_succ, List.getElem_cons_zero, Act.put, List.setIfInBounds_toArray, List.set_cons_zero, List.set_cons_succ]
      refine wpAnyH_take (i := 9) (v := ?_) rfl (by kernel_rfl) (by kernel_rfl) (by kernel_rfl) (fun _ _ _ h => h) (Or.inl ⟨by rfl, ?_⟩) (by assumption) ?_
      rotate_left
      · intro w hSw; (try dsimp only at hSw); go_simp <;> with_reducible rfl
      try simp only [List.getElem_toArray, List.getElem_cons_succ, List.getElem_cons_zero, Act.put, List.setIfInBounds_toArray, List.set_cons_zero, List.set_cons_succ]
      refine wpAnyH_ready (rs := [3, 10]) (by kernel_rfl) (by simp) (AllReadyH.cons rfl (fun K hK => ?_) (AllReadyH.cons rfl (fun K hK => ?_) AllReadyH.nil))
      · go_simp
        try go_wp2_with fail
        refine hK.out _ _ ?_ (fun hHeld => ?_)
        · first | exact ⟨t3, t4, t5, t6⟩ | exact HPUT1.out | exact HPUT2.out | assumption | go_keep
        clear hK K
        try simp only [List.getElem_toArray, List.getElem_cons_succ, List.getElem_cons_zero, Act.put, List.setIfInBounds_toArray, List.set_cons_zero, List.set_cons_succ]
        refine wpAnyH_ready (rs := [4, 10]) (by kernel_rfl) (by simp) (AllReadyH.cons rfl (fun K hK => ?_) (AllReadyH.cons rfl (fun K hK => ?_) AllReadyH.nil))
        · go_simp
          try go_wp2_with (first
            | (go_at_fn gS; ((with_reducible refine CA.out.mono ?_); rintro e w9 ⟨rfl, rfl⟩))
            | (go_at_fn gS; ((with_reducible refine CD.out.mono ?_); rintro e w9 ⟨rfl, rfl⟩)))
          refine hK.out _ _ ?_ (fun hHeld => ?_)
          · first | exact ⟨t3, t4, t5, t6⟩ | exact HPUT1.out | exact HPUT2.out | assumption | go_keep
          clear hK K
          try simp only [List.getElem_toArray, List.getElem_cons_succ, List.getElem_cons_zero, Act.put, List.setIfInBounds_toArray, List.set_cons_zero, List.set_cons_succ]
          refine wpAnyH_take (i := 5) (v := ?_) rfl (by kernel_rfl) (by kernel_rfl) (by kernel_rfl) (fun _ _ _ h => h) (Or.inl ⟨by rfl, ?_⟩) (by assumption) ?_
          rotate_left
          · intro w hSw; (try dsimp only at hSw); go_simp <;> with_reducible rfl
          try simp only [List.getElem_toArray, List.getElem_cons_succ, List.getElem_cons_zero, Act.put, List.setIfInBounds_toArray, List.set_cons_zero, List.set_cons_succ]
          refine wpAnyH_take (i := 6) (v := ?_) rfl (by kernel_rfl) (by kernel_rfl) (by kernel_rfl) (fun _ _ _ h => h) (Or.inl ⟨by rfl, ?_⟩) (by assumption) ?_
          rotate_left
          · intro w hSw; (try dsimp only at hSw); go_simp <;> with_reducible rfl
          try simp only [List.getElem_toArray, List.getElem_cons_succ, List.getElem_cons_zero, Act.put, List.setIfInBounds_toArray, List.set_cons_zero, List.set_cons_succ]
          refine wpAnyH_ready (rs := [10]) (by kernel_rfl) (by simp) (AllReadyH.cons rfl (fun K hK => ?_) AllReadyH.nil)
          go_simp
          try go_wp2_with fail
          refine hK.out _ _ ?_ (fun hHeld => ?_)
          · first | exact ⟨t3, t4, t5, t6⟩ | exact HPUT1.out | exact HPUT2.out | assumption | go_keep
          clear hK K
          try simp only [List.getElem_toArray, List.getElem_cons_succ, List.getElem_cons_zero, Act.put, List.setIfInBounds_toArray, List.set_cons_zero, List.set_cons_succ]
          refine wpAnyH_take (i := 14) (v := ?_) rfl (by kernel_rfl) (by kernel_rfl) (by kernel_rfl) (fun _ _ _ h => h) (Or.inl ⟨by rfl, ?_⟩) (by assumption) ?_
          rotate_left
          · intro w hSw; (try dsimp only at hSw); go_simp <;> with_reducible rfl
          try simp only [List.getElem_toArray, List.getElem_cons_succ, List.getElem_cons_zero, Act.put, List.setIfInBounds_toArray, List.set_cons_zero, List.set_cons_succ]
          refine wpAnyH_ready (rs := [11]) (by kernel_rfl) (by simp) (AllReadyH.cons rfl (fun K hK => ?_) AllReadyH.nil)
          go_simp
          try go_wp2_with (first
            | (go_at_fn gS; ((with_reducible refine CA.out.mono ?_); rintro e w9 ⟨rfl, rfl⟩))
            | (go_at_fn gS; ((with_reducible refine CD.out.mono ?_); rintro e w9 ⟨rfl, rfl⟩)))
          refine hK.out _ _ ?_ (fun hHeld => ?_)
          · first | exact ⟨t3, t4, t5, t6⟩ | exact HPUT1.out | exact HPUT2.out | assumption | go_keep
          clear hK K
          try simp only [List.getElem_toArray, List.getElem_cons_succ, List.getElem_cons_zero, Act.put, List.setIfInBounds_toArray, List.set_cons_zero, List.set_cons_succ]
          refine wpAnyH_take (i := 12) (v := ?_) rfl (by kernel_rfl) (by kernel_rfl) (by kernel_rfl) (fun _ _ _ h => h) (Or.inl ⟨by rfl, ?_⟩) (by assumption) ?_
          rotate_left
          · intro w hSw; (try dsimp only at hSw); go_simp <;> with_reducible rfl
          try simp only [List.getElem_toArray, List.getElem_cons_succ, List.getElem_cons_zero, Act.put, List.setIfInBounds_toArray, List.set_cons_zero, List.set_cons_succ]
          refine wpAnyH_take (i := 13) (v := ?_) rfl (by kernel_rfl) (by kernel_rfl) (by kernel_rfl) (fun _ _ _ h => h) (Or.inl ⟨by rfl, ?_⟩) (by assumption) ?_
          rotate_left
          · intro w hSw; (try dsimp only at hSw); go_simp <;> with_reducible rfl
          try simp only [List.getElem_toArray, List.getElem_cons_succ, List.getElem_cons_zero, Act.put, List.setIfInBounds_toArray, List.set_cons_zero, List.set_cons_succ]
          refine wpAnyH_ready (rs := [15]) (by kernel_rfl) (by simp) (AllReadyH.cons rfl (fun K hK => ?_) AllReadyH.nil)
          go_simp
          try go_wp2_with fail
          refine hK.out _ _ ?_ (fun hHeld => ?_)
          · first | exact ⟨t3, t4, t5, t6⟩ | exact HPUT1.out | exact HPUT2.out | assumption | go_keep
          clear hK K
          try simp only [List.getElem_toArray, List.getElem_cons_succ, List.getElem_cons_zero, Act.put, List.setIfInBounds_toArray, List.set_cons_zero, List.set_cons_succ]
          refine wpAnyH_take (i := 16) (v := ?_) rfl (by kernel_rfl) (by kernel_rfl) (by kernel_rfl) (fun _ _ _ h => h) (Or.inl ⟨by rfl, ?_⟩) (by assumption) ?_
          rotate_left
          · intro w hSw; (try dsimp only at hSw); go_simp <;> with_reducible rfl
          try simp only [List.getElem_toArray, List.getElem_cons_succ, List.getElem_cons_zero, Act.put, List.setIfInBounds_toArray, List.set_cons_zero, List.set_cons_succ]
          refine wpAnyH_ready (rs := [17]) (by kernel_rfl) (by simp) (AllReadyH.cons rfl (fun K hK => ?_) AllReadyH.nil)
          go_simp
          try go_wp2_with fail
          refine hK.out _ _ ?_ (fun hHeld => ?_)
          · first | exact ⟨t3, t4, t5, t6⟩ | exact HPUT1.out | exact HPUT2.out | assumption | go_keep
          clear hK K
          try simp only [List.getElem_toArray, List.getElem_cons_succ, List.getElem_cons_zero, Act.put, List.setIfInBounds_toArray, List.set_cons_zero, List.set_cons_succ]
          refine wpAnyH_done (by kernel_rfl) ⟨(fun e => by cases e), ?_⟩ _
          rw [HV0.out]
          gi_wp2_with (gi_at_builtin
                       (refine wpListIn_append_own_at _ rfl _ _ 22 rfl w.heap.size 33 i1 _ 3 24 Try.underlying22 hj hy0 hy1 hy2 rfl (by omega) (.slice (some ⟨g, 0, none⟩) k cg) k (flatS ((foldL pp st (M + 1)).take k)) rfl HR2.out ⟨V1.heap.size, 0, none⟩ 1 1 [.int .i64 2, .int .i64 (kcn st a' : Int), .int .i64 (kcn st d' : Int)] rfl rfl HN2.out (by simp [Value.oneCell']) (by unfold maxLen; omega) (by omega) HSZ.out.1 ?_)
                       intro v5 w5 hown5 hg5 _ ho5
                       obtain ⟨g5, cap5, rfl, _⟩ := hown5.form (by omega)
                       have hfin := HFIN.out g5 cap5 w5 hown5 hg5 (ho5.elim (fun e => .inl (by simpa [Value.ownBlock] using e)) (fun e => .inr (by simpa [Value.ownBlock] using e)))
                       have c5 : w5.cell? ⟨w.heap.size + 2, 0, none⟩ = some (.slice (some ⟨g, 0, none⟩) k cg) := (hg5.cell_far ⟨w.heap.size + 2, 0, none⟩ HSZ.out.2.1 (fun e => HSZ.out.2.2 (Option.some.inj e))).trans (HH2.out.cell 0)
                       have f5 : w5.frozen? ⟨w.heap.size + 2, 0, none⟩ = false := (hg5.frozen_far ⟨w.heap.size + 2, 0, none⟩ HSZ.out.2.1 (fun e => HSZ.out.2.2 (Option.some.inj e))).trans (HH2.out.frozen 0)
                       have HFI := Lib.hid hfin
                       clear hown5 hg5 ho5 hfin)
          exact ⟨HFI.out.1, HFI.out.2⟩
        · go_simp
          try go_wp2_with fail
          refine hK.out _ _ ?_ (fun hHeld => ?_)
          · first | exact ⟨t3, t4, t5, t6⟩ | exact HPUT1.out | exact HPUT2.out | assumption | go_keep
          clear hK K
          try simp only [List.getElem_toArray, List.getElem_cons_succ, List.getElem_cons_zero, Act.put, List.setIfInBounds_toArray, List.set_cons_zero, List.set_cons_succ]
          refine wpAnyH_ready (rs := [4]) (by kernel_rfl) (by simp) (AllReadyH.cons rfl (fun K hK => ?_) AllReadyH.nil)
          go_simp
          try go_wp2_with (first
            | (go_at_fn gS; ((with_reducible refine CA.out.mono ?_); rintro e w9 ⟨rfl, rfl⟩))
            | (go_at_fn gS; ((with_reducible refine CD.out.mono ?_); rintro e w9 ⟨rfl, rfl⟩)))
          refine hK.out _ _ ?_ (fun hHeld => ?_)
          · first | exact ⟨t3, t4, t5, t6⟩ | exact HPUT1.out | exact HPUT2.out | assumption | go_keep
          clear hK K
          try simp only [List.getElem_toArray, List.getElem_cons_succ, List.getElem_cons_zero, Act.put, List.setIfInBounds_toArray, List.set_cons_zero, List.set_cons_succ]
          refine wpAnyH_take (i := 5) (v := ?_) rfl (by kernel_rfl) (by kernel_rfl) (by kernel_rfl) (fun _ _ _ h => h) (Or.inl ⟨by rfl, ?_⟩) (by assumption) ?_
          rotate_left
          · intro w hSw; (try dsimp only at hSw); go_simp <;> with_reducible rfl
          try simp only [List.getElem_toArray, List.getElem_cons_succ, List.getElem_cons_zero, Act.put, List.setIfInBounds_toArray, List.set_cons_zero, List.set_cons_succ]
          refine wpAnyH_take (i := 6) (v := ?_) rfl (by kernel_rfl) (by kernel_rfl) (by kernel_rfl) (fun _ _ _ h => h) (Or.inl ⟨by rfl, ?_⟩) (by assumption) ?_
          rotate_left
          · intro w hSw; (try dsimp only at hSw); go_simp <;> with_reducible rfl
          try simp only [List.getElem_toArray, List.getElem_cons_succ, List.getElem_cons_zero, Act.put, List.setIfInBounds_toArray, List.set_cons_zero, List.set_cons_succ]
          refine wpAnyH_take (i := 14) (v := ?_) rfl (by kernel_rfl) (by kernel_rfl) (by kernel_rfl) (fun _ _ _ h => h) (Or.inl ⟨by rfl, ?_⟩) (by assumption) ?_
          rotate_left
          · intro w hSw; (try dsimp only at hSw); go_simp <;> with_reducible rfl
          try simp only [List.getElem_toArray, List.getElem_cons_succ, List.getElem_cons_zero, Act.put, List.setIfInBounds_toArray, List.set_cons_zero, List.set_cons_succ]
          refine wpAnyH_ready (rs := [11]) (by kernel_rfl) (by simp) (AllReadyH.cons rfl (fun K hK => ?_) AllReadyH.nil)
          go_simp
          try go_wp2_with (first
            | (go_at_fn gS; ((with_reducible refine CA.out.mono ?_); rintro e w9 ⟨rfl, rfl⟩))
            | (go_at_fn gS; ((with_reducible refine CD.out.mono ?_); rintro e w9 ⟨rfl, rfl⟩)))
          refine hK.out _ _ ?_ (fun hHeld => ?_)
          · first | exact ⟨t3, t4, t5, t6⟩ | exact HPUT1.out | exact HPUT2.out | assumption | go_keep
          clear hK K
          try simp only [List.getElem_toArray, List.getElem_cons_succ, List.getElem_cons_zero, Act.put, List.setIfInBounds_toArray, List.set_cons_zero, List.set_cons_succ]
          refine wpAnyH_take (i := 12) (v := ?_) rfl (by kernel_rfl) (by kernel_rfl) (by kernel_rfl) (fun _ _ _ h => h) (Or.inl ⟨by rfl, ?_⟩) (by assumption) ?_
          rotate_left
          · intro w hSw; (try dsimp only at hSw); go_simp <;> with_reducible rfl
          try simp only [List.getElem_toArray, List.getElem_cons_succ, List.getElem_cons_zero, Act.put, List.setIfInBounds_toArray, List.set_cons_zero, List.set_cons_succ]
          refine wpAnyH_take (i := 13) (v := ?_) rfl (by kernel_rfl) (by kernel_rfl) (by kernel_rfl) (fun _ _ _ h => h) (Or.inl ⟨by rfl, ?_⟩) (by assumption) ?_
          rotate_left
          · intro w hSw; (try dsimp only at hSw); go_simp <;> with_reducible rfl
          try simp only [List.getElem_toArray, List.getElem_cons_succ, List.getElem_cons_zero, Act.put, List.setIfInBounds_toArray, List.set_cons_zero, List.set_cons_succ]
          refine wpAnyH_ready (rs := [15]) (by kernel_rfl) (by simp) (AllReadyH.cons rfl (fun K hK => ?_) AllReadyH.nil)
          go_simp
          try go_wp2_with fail
          refine hK.out _ _ ?_ (fun hHeld => ?_)
          · first | exact ⟨t3, t4, t5, t6⟩ | exact HPUT1.out | exact HPUT2.out | assumption | go_keep
          clear hK K
          try simp only [List.getElem_toArray, List.getElem_cons_succ, List.getElem_cons_zero, Act.put, List.setIfInBounds_toArray, List.set_cons_zero, List.set_cons_succ]
          refine wpAnyH_take (i := 16) (v := ?_) rfl (by kernel_rfl) (by kernel_rfl) (by kernel_rfl) (fun _ _ _ h => h) (Or.inl ⟨by rfl, ?_⟩) (by assumption) ?_
          rotate_left
          · intro w hSw; (try dsimp only at hSw); go_simp <;> with_reducible rfl
          try simp only [List.getElem_toArray, List.getElem_cons_succ, List.getElem_cons_zero, Act.put, List.setIfInBounds_toArray, List.set_cons_zero, List.set_cons_succ]
          refine wpAnyH_ready (rs := [17]) (by kernel_rfl) (by simp) (AllReadyH.cons rfl (fun K hK => ?_) AllReadyH.nil)
          go_simp
          try go_wp2_with fail
          refine hK.out _ _ ?_ (fun hHeld => ?_)
          · first | exact ⟨t3, t4, t5, t6⟩ | exact HPUT1.out | exact HPUT2.out | assumption | go_keep
          clear hK K
          try simp only [List.getElem_toArray, List.getElem_cons_succ, List.getElem_cons_zero, Act.put, List.setIfInBounds_toArray, List.set_cons_zero, List.set_cons_succ]
          refine wpAnyH_done (by kernel_rfl) ⟨(fun e => by cases e), ?_⟩ _
          rw [HV0.out]
          gi_wp2_with (gi_at_builtin
                       (refine wpListIn_append_own_at _ rfl _ _ 22 rfl w.heap.size 33 i1 _ 3 24 Try.underlying22 hj hy0 hy1 hy2 rfl (by omega) (.slice (some ⟨g, 0, none⟩) k cg) k (flatS ((foldL pp st (M + 1)).take k)) rfl HR2.out ⟨V1.heap.size, 0, none⟩ 1 1 [.int .i64 2, .int .i64 (kcn st a' : Int), .int .i64 (kcn st d' : Int)] rfl rfl HN2.out (by simp [Value.oneCell']) (by unfold maxLen; omega) (by omega) HSZ.out.1 ?_)
                       intro v5 w5 hown5 hg5 _ ho5
                       obtain ⟨g5, cap5, rfl, _⟩ := hown5.form (by omega)
                       have hfin := HFIN.out g5 cap5 w5 hown5 hg5 (ho5.elim (fun e => .inl (by simpa [Value.ownBlock] using e)) (fun e => .inr (by simpa [Value.ownBlock] using e)))
                       have c5 : w5.cell? ⟨w.heap.size + 2, 0, none⟩ = some (.slice (some ⟨g, 0, none⟩) k cg) := (hg5.cell_far ⟨w.heap.size + 2, 0, none⟩ HSZ.out.2.1 (fun e => HSZ.out.2.2 (Option.some.inj e))).trans (HH2.out.cell 0)
                       have f5 : w5.frozen? ⟨w.heap.size + 2, 0, none⟩ = false := (hg5.frozen_far ⟨w.heap.size + 2, 0, none⟩ HSZ.out.2.1 (fun e => HSZ.out.2.2 (Option.some.inj e))).trans (HH2.out.frozen 0)
                       have HFI := Lib.hid hfin
                       clear hown5 hg5 ho5 hfin)
          exact ⟨HFI.out.1, HFI.out.2⟩
      · go_simp
        try go_wp2_with fail
        refine hK.out _ _ ?_ (fun hHeld => ?_)
        · first | exact ⟨t3, t4, t5, t6⟩ | exact HPUT1.out | exact HPUT2.out | assumption | go_keep
        clear hK K
        try simp only [List.getElem_toArray, List.getElem_cons_succ, List.getElem_cons_zero, Act.put, List.setIfInBounds_toArray, List.set_cons_zero, List.set_cons_succ]
        refine wpAnyH_ready (rs := [3]) (by kernel_rfl) (by simp) (AllReadyH.cons rfl (fun K hK => ?_) AllReadyH.nil)
        go_simp
        try go_wp2_with fail
        refine hK.out _ _ ?_ (fun hHeld => ?_)
        · first | exact ⟨t3, t4, t5, t6⟩ | exact HPUT1.out | exact HPUT2.out | assumption | go_keep
        clear hK K
        try simp only [List.getElem_toArray, List.getElem_cons_succ, List.getElem_cons_zero, Act.put, List.setIfInBounds_toArray, List.set_cons_zero, List.set_cons_succ]
        refine wpAnyH_ready (rs := [4]) (by kernel_rfl) (by simp) (AllReadyH.cons rfl (fun K hK => ?_) AllReadyH.nil)
        go_simp
        try go_wp2_with (first
          | (go_at_fn gS; ((with_reducible refine CA.out.mono ?_); rintro e w9 ⟨rfl, rfl⟩))
          | (go_at_fn gS; ((with_reducible refine CD.out.mono ?_); rintro e w9 ⟨rfl, rfl⟩)))
        refine hK.out _ _ ?_ (fun hHeld => ?_)
        · first | exact ⟨t3, t4, t5, t6⟩ | exact HPUT1.out | exact HPUT2.out | assumption | go_keep
        clear hK K
        try simp only [List.getElem_toArray, List.getElem_cons_succ, List.getElem_cons_zero, Act.put, List.setIfInBounds_toArray, List.set_cons_zero, List.set_cons_succ]
        refine wpAnyH_take (i := 5) (v := ?_) rfl (by kernel_rfl) (by kernel_rfl) (by kernel_rfl) (fun _ _ _ h => h) (Or.inl ⟨by rfl, ?_⟩) (by assumption) ?_
        rotate_left
        · intro w hSw; (try dsimp only at hSw); go_simp <;> with_reducible rfl
        try simp only [List.getElem_toArray, List.getElem_cons_succ, List.getElem_cons_zero, Act.put, List.setIfInBounds_toArray, List.set_cons_zero, List.set_cons_succ]
        refine wpAnyH_take (i := 6) (v := ?_) rfl (by kernel_rfl) (by kernel_rfl) (by kernel_rfl) (fun _ _ _ h => h) (Or.inl ⟨by rfl, ?_⟩) (by assumption) ?_
        rotate_left
        · intro w hSw; (try dsimp only at hSw); go_simp <;> with_reducible rfl
        try simp only [List.getElem_toArray, List.getElem_cons_succ, List.getElem_cons_zero, Act.put, List.setIfInBounds_toArray, List.set_cons_zero, List.set_cons_succ]
        refine wpAnyH_take (i := 14) (v := ?_) rfl (by kernel_rfl) (by kernel_rfl) (by kernel_rfl) (fun _ _ _ h => h) (Or.inl ⟨by rfl, ?_⟩) (by assumption) ?_
        rotate_left
        · intro w hSw; (try dsimp only at hSw); go_simp <;> with_reducible rfl
        try simp only [List.getElem_toArray, List.getElem_cons_succ, List.getElem_cons_zero, Act.put, List.setIfInBounds_toArray, List.set_cons_zero, List.set_cons_succ]
        refine wpAnyH_ready (rs := [11]) (by kernel_rfl) (by simp) (AllReadyH.cons rfl (fun K hK => ?_) AllReadyH.nil)
        go_simp
        try go_wp2_with (first
          | (go_at_fn gS; ((with_reducible refine CA.out.mono ?_); rintro e w9 ⟨rfl, rfl⟩))
          | (go_at_fn gS; ((with_reducible refine CD.out.mono ?_); rintro e w9 ⟨rfl, rfl⟩)))
        refine hK.out _ _ ?_ (fun hHeld => ?_)
        · first | exact ⟨t3, t4, t5, t6⟩ | exact HPUT1.out | exact HPUT2.out | assumption | go_keep
        clear hK K
        try simp only [List.getElem_toArray, List.getElem_cons_succ, List.getElem_cons_zero, Act.put, List.setIfInBounds_toArray, List.set_cons_zero, List.set_cons_succ]
        refine wpAnyH_take (i := 12) (v := ?_) rfl (by kernel_rfl) (by kernel_rfl) (by kernel_rfl) (fun _ _ _ h => h) (Or.inl ⟨by rfl, ?_⟩) (by assumption) ?_
        rotate_left
        · intro w hSw; (try dsimp only at hSw); go_simp <;> with_reducible rfl
        try simp only [List.getElem_toArray, List.getElem_cons_succ, List.getElem_cons_zero, Act.put, List.setIfInBounds_toArray, List.set_cons_zero, List.set_cons_succ]
        refine wpAnyH_take (i := 13) (v := ?_) rfl (by kernel_rfl) (by kernel_rfl) (by kernel_rfl) (fun _ _ _ h => h) (Or.inl ⟨by rfl, ?_⟩) (by assumption) ?_
        rotate_left
        · intro w hSw; (try dsimp only at hSw); go_simp <;> with_reducible rfl
        try simp only [List.getElem_toArray, List.getElem_cons_succ, List.getElem_cons_zero, Act.put, List.setIfInBounds_toArray, List.set_cons_zero, List.set_cons_succ]
        refine wpAnyH_ready (rs := [15]) (by kernel_rfl) (by simp) (AllReadyH.cons rfl (fun K hK => ?_) AllReadyH.nil)
        go_simp
        try go_wp2_with fail
        refine hK.out _ _ ?_ (fun hHeld => ?_)
        · first | exact ⟨t3, t4, t5, t6⟩ | exact HPUT1.out | exact HPUT2.out | assumption | go_keep
        clear hK K
        try simp only [List.getElem_toArray, List.getElem_cons_succ, List.getElem_cons_zero, Act.put, List.setIfInBounds_toArray, List.set_cons_zero, List.set_cons_succ]
        refine wpAnyH_take (i := 16) (v := ?_) rfl (by kernel_rfl) (by kernel_rfl) (by kernel_rfl) (fun _ _ _ h => h) (Or.inl ⟨by rfl, ?_⟩) (by assumption) ?_
        rotate_left
        · intro w hSw; (try dsimp only at hSw); go_simp <;> with_reducible rfl
        try simp only [List.getElem_toArray, List.getElem_cons_succ, List.getElem_cons_zero, Act.put, List.setIfInBounds_toArray, List.set_cons_zero, List.set_cons_succ]
        refine wpAnyH_ready (rs := [17]) (by kernel_rfl) (by simp) (AllReadyH.cons rfl (fun K hK => ?_) AllReadyH.nil)
        go_simp
        try go_wp2_with fail
        refine hK.out _ _ ?_ (fun hHeld => ?_)
        · first | exact ⟨t3, t4, t5, t6⟩ | exact HPUT1.out | exact HPUT2.out | assumption | go_keep
        clear hK K
        try simp only [List.getElem_toArray, List.getElem_cons_succ, List.getElem_cons_zero, Act.put, List.setIfInBounds_toArray, List.set_cons_zero, List.set_cons_succ]
        refine wpAnyH_done (by kernel_rfl) ⟨(fun e => by cases e), ?_⟩ _
        rw [HV0.out]
        gi_wp2_with (gi_at_builtin
                     (refine wpListIn_append_own_at _ rfl _ _ 22 rfl w.heap.size 33 i1 _ 3 24 Try.underlying22 hj hy0 hy1 hy2 rfl (by omega) (.slice (some ⟨g, 0, none⟩) k cg) k (flatS ((foldL pp st (M + 1)).take k)) rfl HR2.out ⟨V1.heap.size, 0, none⟩ 1 1 [.int .i64 2, .int .i64 (kcn st a' : Int), .int .i64 (kcn st d' : Int)] rfl rfl HN2.out (by simp [Value.oneCell']) (by unfold maxLen; omega) (by omega) HSZ.out.1 ?_)
                     intro v5 w5 hown5 hg5 _ ho5
                     obtain ⟨g5, cap5, rfl, _⟩ := hown5.form (by omega)
                     have hfin := HFIN.out g5 cap5 w5 hown5 hg5 (ho5.elim (fun e => .inl (by simpa [Value.ownBlock] using e)) (fun e => .inr (by simpa [Value.ownBlock] using e)))
                     have c5 : w5.cell? ⟨w.heap.size + 2, 0, none⟩ = some (.slice (some ⟨g, 0, none⟩) k cg) := (hg5.cell_far ⟨w.heap.size + 2, 0, none⟩ HSZ.out.2.1 (fun e => HSZ.out.2.2 (Option.some.inj e))).trans (HH2.out.cell 0)
                     have f5 : w5.frozen? ⟨w.heap.size + 2, 0, none⟩ = false := (hg5.frozen_far ⟨w.heap.size + 2, 0, none⟩ HSZ.out.2.1 (fun e => HSZ.out.2.2 (Option.some.inj e))).trans (HH2.out.frozen 0)
                     have HFI := Lib.hid hfin
                     clear hown5 hg5 ho5 hfin)
        exact ⟨HFI.out.1, HFI.out.2⟩
    · have hfix : fixS st (pp.getD i (0, 0, 0)) = (x, y, z) := by
        rw [hd]
        unfold fixS
        rw [if_neg hkd]
      have hkb : (x == 2) = false := by simpa using hkd
      clear hI hbox hd hxp
      have hcp : W.cell? ⟨w.heap.size + 3, i, none⟩ = some (.int .i64 0) := by rw [vP.cell, plC_at hin, if_neg (by omega)]
      have hfp : W.frozen? ⟨w.heap.size + 3, i, none⟩ = false := vP.frozen i
      have hcq : W.cell? ⟨w.heap.size + 4, 0, none⟩ = some (.slice (some ⟨w.heap.size + 3, 0, none⟩) n n) := vQ.cell 0
      have hch : W.cell? ⟨w.heap.size + 2, 0, none⟩ = some (.slice (some ⟨g, 0, none⟩) k cg) := vH.cell 0
      obtain ⟨V1, hV1⟩ : ∃ V1, W.setCell ⟨w.heap.size + 3, i, none⟩ (.int .i64 (k : Int)) = V1 := ⟨_, rfl⟩
      have p1 : Blk V1 (w.heap.size + 3) 3 (plC st n (k + 1)) := by rw [← hV1]; have := vP.set_ i (.int .i64 (k : Int)); rw [plC_set hin hsi hki] at this; exact this
      have h1 : Blk V1 (w.heap.size + 2) 22 #[.slice (some ⟨g, 0, none⟩) k cg] := by rw [← hV1]; exact vH.far (p := ⟨w.heap.size + 3, i, none⟩) (by simp only; omega) _
      have q1 : Blk V1 (w.heap.size + 4) 24 #[.slice (some ⟨w.heap.size + 3, 0, none⟩) n n] := by rw [← hV1]; exact vQ.far (p := ⟨w.heap.size + 3, i, none⟩) (by simp only; omega) _
      have a1 : Blk V1 (w.heap.size + 5) 22 #[.slice (some ⟨b, off, none⟩) n c] := by rw [← hV1]; exact vA.far (p := ⟨w.heap.size + 3, i, none⟩) (by simp only; omega) _
      have b1 : Blk V1 (w.heap.size + 6) 67 #[.func (.func gS) #[] lbS] := by rw [← hV1]; exact vB.far (p := ⟨w.heap.size + 3, i, none⟩) (by simp only; omega) _
      have f1 : Blk V1 w.heap.size 67 #[.func (.func gS) #[] lbS] := by rw [← hV1]; exact vS.far (p := ⟨w.heap.size + 3, i, none⟩) (by simp only; omega) _
      have x1 : Blk V1 s 33 #[.int .i64 x, .int .i64 y, .int .i64 z] := by rw [← hV1]; exact vX.far (p := ⟨w.heap.size + 3, i, none⟩) (by simp only; omega) _
      have r1 : V1.ownsRow w.heap.size 33 3 (.slice (some ⟨g, 0, none⟩) k cg) k (flatS ((foldL pp st (M + 1)).take k)) := by rw [← hV1]; exact own_far (g := g) vR rfl (by omega)
      have w1 : Below w.heap.size w V1 := by rw [← hV1]; exact vW.setCell (p := ⟨w.heap.size + 3, i, none⟩) (by simp only; omega) _
      have k1 : KeepsFrom (w.heap.size + 7) W V1 := by rw [← hV1]; exact vK.trans ((KeepsOthers.setCell W ⟨w.heap.size + 3, i, none⟩ _).from _)
      have z1 : s < V1.heap.size := x1.lt
      have g1 : g < V1.heap.size := (r1.lt g rfl).2
      have d0 := x1.cell 0
      have d1 := x1.cell 1
      have d2 := x1.cell 2
      have d3 := h1.cell 0
      simp only [List.getElem?_toArray, List.getElem?_cons_zero, List.getElem?_cons_succ] at d0 d1 d2 d3
      obtain ⟨V2, hV2⟩ : ∃ V2, V1.alloc (.cells #[.int .i64 x, .int .i64 y, .int .i64 z] 33) = V2 := ⟨_, rfl⟩
      have s2 : V2.heap.size = V1.heap.size + 1 := by rw [← hV2]; simp
      have p2 : Blk V2 (w.heap.size + 3) 3 (plC st n (k + 1)) := by rw [← hV2]; exact p1.alloc _
      have h2 : Blk V2 (w.heap.size + 2) 22 #[.slice (some ⟨g, 0, none⟩) k cg] := by rw [← hV2]; exact h1.alloc _
      have q2 : Blk V2 (w.heap.size + 4) 24 #[.slice (some ⟨w.heap.size + 3, 0, none⟩) n n] := by rw [← hV2]; exact q1.alloc _
      have a2 : Blk V2 (w.heap.size + 5) 22 #[.slice (some ⟨b, off, none⟩) n c] := by rw [← hV2]; exact a1.alloc _
      have b2 : Blk V2 (w.heap.size + 6) 67 #[.func (.func gS) #[] lbS] := by rw [← hV2]; exact b1.alloc _
      have f2 : Blk V2 w.heap.size 67 #[.func (.func gS) #[] lbS] := by rw [← hV2]; exact f1.alloc _
      have r2 : V2.ownsRow w.heap.size 33 3 (.slice (some ⟨g, 0, none⟩) k cg) k (flatS ((foldL pp st (M + 1)).take k)) := by rw [← hV2]; exact r1.alloc _
      have w2 : Below w.heap.size w V2 := by rw [← hV2]; exact bel_al w1 _
      have k2 : KeepsFrom (w.heap.size + 7) W V2 := by rw [← hV2]; exact k1.trans ((KeepsOthers.alloc V1 _).from _)
      have HN2 := Lib.hid (show ∀ j u, [Value.int .i64 x, .int .i64 y, .int .i64 z][j]? = some u → V2.cell? ((⟨V1.heap.size, 0, none⟩ : Addr).add j) = some u from by rw [← hV2]; exact World.news_of_block (cs := #[.int .i64 x, .int .i64 y, .int .i64 z]) (t := 33) (fr := (0, 0)) (heap_alloc_new V1 _))
      have HFIN := Lib.hid (fun (g5 cap5 : Nat) (w5 : World) (hown5 : w5.ownsRow w.heap.size 33 3 (.slice (some ⟨g5, 0, none⟩) (k + 1) cap5) (k + 1) (flatS ((foldL pp st (M + 1)).take k) ++ [.int .i64 x, .int .i64 y, .int .i64 z])) (hg5 : V2.grownBy w5 (some g)) (ho5 : g5 = g ∨ g5 = V2.heap.size) => show KeepsFrom (w.heap.size + 7) W (w5.setCell ⟨w.heap.size + 2, 0, none⟩ (.slice (some ⟨g5, 0, none⟩) (k + 1) cap5)) ∧ IFo w b off n c gS lbS st pp (M + 1) (k + 1) (w5.setCell ⟨w.heap.size + 2, 0, none⟩ (.slice (some ⟨g5, 0, none⟩) (k + 1) cap5)) from by
        have hx : ∀ j, j < w.heap.size + 7 → j ≠ w.heap.size + 1 → some j ≠ some g := fun j h1 h2 e => by cases e; omega
        have hs := s2
        have hkc : g5 = w.heap.size + 1 ∨ w.heap.size + 7 ≤ g5 := by omega
        refine ⟨(k2.trans ((KeepsOthers.of_grownBy hg5 (fun j o e ho => by cases e; obtain ⟨cs, hcs⟩ := own_cells7 r2 (b := g) rfl; rw [hcs] at ho; cases ho; rfl)).from _)).trans ((KeepsOthers.setCell w5 ⟨w.heap.size + 2, 0, none⟩ _).from _), ?_, ?_, ?_, ?_, ?_, ?_, ?_⟩
        · exact (f2.grown hg5 (hx _ (by omega) (by omega))).far (p := ⟨w.heap.size + 2, 0, none⟩) (by simp only; omega) _
        · refine ⟨g5, cap5, ?_, ?_, hkc⟩
          · have := (h2.grown hg5 (hx _ (by omega) (by omega))).set_ 0 (.slice (some ⟨g5, 0, none⟩) (k + 1) cap5)
            exact this
          · refine own_far (g := g5) ?_ rfl (by omega)
            rw [← hki, foldL_take hsi him, hki, flatS_snoc, hfix]
            exact hown5
        · exact (p2.grown hg5 (hx _ (by omega) (by omega))).far (p := ⟨w.heap.size + 2, 0, none⟩) (by simp only; omega) _
        · exact (q2.grown hg5 (hx _ (by omega) (by omega))).far (p := ⟨w.heap.size + 2, 0, none⟩) (by simp only; omega) _
        · exact (a2.grown hg5 (hx _ (by omega) (by omega))).far (p := ⟨w.heap.size + 2, 0, none⟩) (by simp only; omega) _
        · exact (b2.grown hg5 (hx _ (by omega) (by omega))).far (p := ⟨w.heap.size + 2, 0, none⟩) (by simp only; omega) _
        · exact (w2.grown hg5 (by omega) (fun j e => by cases e; exact (r2.lt g rfl).1)).setCell (p := ⟨w.heap.size + 2, 0, none⟩) (by simp only; omega) _)
      have HR2 := Lib.hid r2
      have HH2 := Lib.hid h2
      have HSZ := Lib.hid (show w.heap.size ≤ V2.heap.size ∧ w.heap.size + 2 < V2.heap.size ∧ w.heap.size + 2 ≠ g from ⟨by omega, by omega, by omega⟩)
      clear p1 h1 q1 a1 b1 f1 x1 r1 w1 k1 p2 h2 q2 a2 b2 f2 r2 w2 k2 vS vH vR vP vQ vA vB vX vW vK z1 g1 s2 hfix hsi hki him
      gi_wp2_with (gi_at_builtin
                   (refine wpListIn_append_own_at _ rfl _ _ 22 rfl w.heap.size 33 i1 _ 3 24 Try.underlying22 hj hy0 hy1 hy2 rfl (by omega) (.slice (some ⟨g, 0, none⟩) k cg) k (flatS ((foldL pp st (M + 1)).take k)) rfl HR2.out ⟨V1.heap.size, 0, none⟩ 1 1 [.int .i64 x, .int .i64 y, .int .i64 z] rfl rfl HN2.out (by simp [Value.oneCell']) (by unfold maxLen; omega) (by omega) HSZ.out.1 ?_)
                   intro v5 w5 hown5 hg5 _ ho5
                   obtain ⟨g5, cap5, rfl, _⟩ := hown5.form (by omega)
                   have hfin := HFIN.out g5 cap5 w5 hown5 hg5 (ho5.elim (fun e => .inl (by simpa [Value.ownBlock] using e)) (fun e => .inr (by simpa [Value.ownBlock] using e)))
                   have c5 : w5.cell? ⟨w.heap.size + 2, 0, none⟩ = some (.slice (some ⟨g, 0, none⟩) k cg) := (hg5.cell_far ⟨w.heap.size + 2, 0, none⟩ HSZ.out.2.1 (fun e => HSZ.out.2.2 (Option.some.inj e))).trans (HH2.out.cell 0)
                   have f5 : w5.frozen? ⟨w.heap.size + 2, 0, none⟩ = false := (hg5.frozen_far ⟨w.heap.size + 2, 0, none⟩ HSZ.out.2.1 (fun e => HSZ.out.2.2 (Option.some.inj e))).trans (HH2.out.frozen 0)
                   have HFI := Lib.hid hfin
                   clear hown5 hg5 ho5 hfin)
      exact ⟨HFI.out.1, HFI.out.2⟩
  case done =>
    rintro D W hD hI hK
    obtain ⟨g, cg, vH, vR, gd⟩ := hI.kH
    have c0 : W.cell? ⟨w.heap.size + 2, 0, none⟩ = some (.slice (some ⟨g, 0, none⟩) (kcn st (M + 1)) cg) := vH.cell 0
    have HR := Lib.hid vR
    have HB := Lib.hid hI.kW
    have HKL := Lib.hid (kcn_le st (M + 1))
    have KD := Lib.hid hK
    clear vH vR gd hI hK
    gi_wp2_with fail
    refine ⟨by simp, .inl ⟨_, _, rfl, run_takeDeferred KD.out, ?_⟩⟩
    refine ⟨_, results_tmp rfl _ _ _, ?_⟩
    have hg := grownBy_putObj' W D (.deferred none)
    have hne : g ≠ D := fun e => by
      obtain ⟨cs, hcs⟩ := own_cells7 HR.out (b := g) rfl
      have := KD.out
      rw [← e, hcs] at this
      cases this
    have hrow := HR.out.kept hg (.inr fun e => hne (Option.some.inj e))
    rw [List.take_of_length_le (by rw [foldL_len]; exact Nat.le_refl _)] at hrow
    have hkl := HKL.out
    obtain ⟨A', c', e', hs', h1, h2⟩ := row_steps hrow (by omega)
    cases e'
    have hsz := HB.out.size
    exact ⟨_, _, _, rfl, hs', h1, h2, HB.out.grown hg hsz (fun q e => by have := Option.some.inj e; have := HS7.out; omega)⟩
  case stop =>
    rintro D W hD hI
    exact hI.elim

end Go.Proofs.Ytojofbmpknpggaa
