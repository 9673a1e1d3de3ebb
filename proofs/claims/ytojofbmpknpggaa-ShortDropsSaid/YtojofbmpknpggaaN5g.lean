/- The iterator over what binds make of the variables: its closure; outcomes. -/
import Derived.Test.YtojofbmpknpggaaN2g
import Derived.Laws.EntriesVeiled
import Derived.RangeFuncNested
import Derived.Maps.OwnIn
import Derived.Test.YtojofbmpknpggaaY21g
import Derived.Test.YtojofbmpknpggaaL0g
import Derived.Deep.RegionHeld3
import Derived.Deep.AppendLies
import Derived.LoopIn
import Derived.LoopNIn
import Derived.RegionIn
/- What binds make of variables (pure); a range over an iterator with rounds 0, 1, .. that may be left by a return. -/
namespace Go.Proofs.Ytojofbmpknpggaa
open Go.RowKit

/-- What binds make of a variable. -/
def ofB : List Bd → Int → List Int
  | [], v => [-v - 1]
  | x :: r, v => if x.1 = v then x.2 else ofB r v
/-- The binds ahead of k are of smaller variables than v, those from k on are not. -/
def Nxt (bb : List Bd) (v : Int) (k : Nat) : Prop := (∀ j (h : j < bb.length), j < k → bb[j].1 < v) ∧ ∀ j (h : j < bb.length), k ≤ j → v ≤ bb[j].1
/-- Ascending variables. -/
def Asc (bb : List Bd) : Prop := ∀ i j (h : i < j) (hj : j < bb.length), (bb[i]'(by omega)).1 < bb[j].1
theorem bindsTo_above {ss : Sg} : ∀ {bb : List Bd} {p : Int}, bindsTo ss p bb = true → ∀ x ∈ bb, p < x.1
  | [], _, _, x, hx => by simp at hx
  | y :: r, p, h, x, hx => by
    simp only [bindsTo, Bool.and_eq_true, decide_eq_true_eq] at h
    rcases List.mem_cons.1 hx with rfl | hx
    · exact h.1
    · have := bindsTo_above h.2.2.2.2 x hx
      omega
theorem bindsTo_asc {ss : Sg} : ∀ {bb : List Bd} {p : Int}, bindsTo ss p bb = true → Asc bb
  | [], _, _, i, j, _, hj => by simp at hj
  | y :: r, p, h, i, j, hij, hj => by
    simp only [bindsTo, Bool.and_eq_true, decide_eq_true_eq] at h
    obtain ⟨j, rfl⟩ : ∃ j', j = j' + 1 := ⟨j - 1, by omega⟩
    have hj' : j < r.length := by simpa using hj
    cases i with
    | zero =>
      have := bindsTo_above h.2.2.2.2 _ (List.getElem_mem hj')
      simpa using this
    | succ i =>
      have := bindsTo_asc h.2.2.2.2 i j (by omega) hj'
      simpa using this
theorem bindsOk_each {ss : Sg} : ∀ {bb : List Bd} {p : Int}, bindsTo ss p bb = true → ∀ x ∈ bb, x.1 < 12 ∧ valOk ss x.2 = true ∧ x.2 ≠ [-x.1 - 1]
  | [], _, _, x, hx => by simp at hx
  | y :: r, p, h, x, hx => by
    simp only [bindsTo, Bool.and_eq_true, decide_eq_true_eq, Bool.not_eq_true', decide_eq_false_iff_not] at h
    rcases List.mem_cons.1 hx with rfl | hx
    · exact ⟨h.2.1, h.2.2.1, h.2.2.2.1⟩
    · exact bindsOk_each h.2.2.2.2 x hx
theorem bindsOk_sig {ss : Sg} : ∀ {bb : List Bd} {p : Int}, bindsTo ss p bb = true → sigOk ss = true
  | [], _, h => h
  | y :: r, p, h => by
    simp only [bindsTo, Bool.and_eq_true] at h
    exact bindsOk_sig h.2.2.2.2
theorem Nxt.zero {ss : Sg} {bb : List Bd} (h : bindsOk ss bb = true) : Nxt bb 0 0 :=
  ⟨fun j h hj => by omega, fun j hj _ => by have := bindsTo_above h _ (List.getElem_mem hj); omega⟩
theorem ofB_none : ∀ {bb : List Bd} {v : Int}, (∀ x ∈ bb, x.1 ≠ v) → ofB bb v = [-v - 1]
  | [], _, _ => rfl
  | y :: r, v, h => by
    rw [ofB, if_neg (h y (List.mem_cons_self ..))]
    exact ofB_none fun x hx => h x (List.mem_cons_of_mem _ hx)
theorem ofB_at : ∀ {bb : List Bd} {v : Int} {k : Nat} (hk : k < bb.length), (∀ j (h : j < bb.length), j < k → bb[j].1 ≠ v) → bb[k].1 = v → ofB bb v = bb[k].2
  | [], _, _, hk, _, _ => by simp at hk
  | y :: r, v, 0, _, _, e => by rw [ofB, if_pos (by simpa using e)]; rfl
  | y :: r, v, k + 1, hk, h, e => by
    have h0 := h 0 (by simp) (by omega)
    rw [ofB, if_neg (by simpa using h0)]
    have hk' : k < r.length := by simpa using hk
    have := ofB_at (bb := r) (v := v) hk' (fun j hj hjk => by have := h (j + 1) (by simpa using hj) (by omega); simpa using this) (by simpa using e)
    simpa using this
/-- What binds make of a variable is a term of the sign. -/
theorem ofB_val {ss : Sg} {bb : List Bd} {v : Int} (h : bindsOk ss bb = true) (_h0 : 0 ≤ v) (_h1 : v < 12) (hvar : valOk ss [-v - 1] = true) : valOk ss (ofB bb v) = true := by
  by_cases hx : ∃ x ∈ bb, x.1 = v
  · obtain ⟨x, hx, e⟩ := hx
    obtain ⟨k, hk, rfl⟩ := List.mem_iff_getElem.1 hx
    have hasc := bindsTo_asc h
    rw [ofB_at hk (fun j hj hjk => by have := hasc j k hjk hk; omega) e]
    exact (bindsOk_each h _ hx).2.1
  · rw [ofB_none fun x hx' e => hx ⟨x, hx', e⟩]
    exact hvar

theorem grown_of_below {A B : World} (h : Below A.heap.size A B) : A.grownBy B none := ⟨h.os, h.tape, h.output, h.size, fun k hk _ => h.block k hk⟩

theorem range_k {P : Program} {α : Type} {g : Operand} {ps : Array Tmp} {assign body : Code} {Q : Exit → Act → World → Prop} {a : Act} {w : World} {n gf : Nat} {lb : Array Value}
    (hg : a.eval g = .func (.func gf) #[] lb) (eg : ∀ args w, (callFunc gf args).run P w = .ok (.enter gf args) w) {encs : Nat → α → Array Value} (hps : ∀ k x, (encs k x).size = ps.size)
    (Hx : Nat → α → World → Prop) (N : Nat) (I : Nat → World → Prop) (Ix : World → Prop) (hI : OwnFrom w.heap.size I) (hIx : OwnFrom w.heap.size (fun (_ : Unit) W => Ix W))
    (hHx : ∀ k x W l o o', Hx k x W → w.heap.size ≤ l → W.heap[l]? = some o → o.isCells = false → Hx k x (W.putObj l o'))
    (h0 : I 0 w)
    (hseq : ∀ (l : Nat) (J : Nat → World → Prop) (JL : World → Prop) (V : World), Below w.heap.size w V → (∀ k A B, J k A → Below A.heap.size A B → J k B) → (∀ A B, JL A → Below A.heap.size A B → JL B) → (∀ k A, J k A → I k A) →
      (∀ m k x A, J k A → Hx k x A → k < N → YieldAt Fence.wide m P l (encs k x) A fun e B => (e = .returned (.bool true) ∧ J (k + 1) B) ∨ (e = .returned (.bool false) ∧ JL B)) → J 0 V →
      CallsIn Fence.wide (n - 1) P gf (#[.func (.yield l) #[] #[]] ++ lb) V fun e B => (∃ v, e = .returned v) ∧ (J N B ∨ JL B))
    (a₁ : Nat → α → Act)
    (hassign : ∀ (l m : Nat) (k : Nat) (x : α) (W : World) (K : Act → World → Prop), K (a₁ k x) W →
      assign.wpIn (Fence.wide.inRound l) m P (Exit.then K (fun _ _ _ => False)) { tmps := (ps.zip (encs k x)).foldl (fun t (p, v) => t.setIfInBounds p v) a.tmps, defers := [] } W)
    (hbody : ∀ (l m : Nat) (k : Nat) (x : α) (W : World), I k W → Hx k x W → k < N → body.wpIn (Fence.wide.inRound l) m P (fun e _ W' => (e = .normal ∧ KeepsFrom w.heap.size W W' ∧ I (k + 1) W') ∨ (e = .ret ∧ KeepsFrom w.heap.size W W' ∧ Ix W')) (a₁ k x) W)
    (hdone : ∀ (D : Nat) (W : World), w.heap.size ≤ D → I N W → W.heap[D]? = some (.deferred (some [])) → Q .normal { a with defers := { target := .collected D, args := #[] } :: a.defers } W)
    (hstop : ∀ (D : Nat) (W : World), w.heap.size ≤ D → Ix W → W.heap[D]? = some (.deferred (some [])) → Code.ret.wpIn Fence.wide n P Q { a with defers := { target := .collected D, args := #[] } :: a.defers } W) :
    (Code.rangeFunc g ps assign body).wpIn Fence.wide n P Q a w := by
  refine wpIn_rangeFunc fun fn _ => ?_
  let rec0 (st : LoopState) (pe : Option Code) : Loop := { state := st, pending := pe, fn, tmps := a.tmps, params := ps, assign, body, defers := w.heap.size }
  let V := (w.alloc (.deferred (some []))).alloc (.loop (rec0 .ready none))
  have sizeD : (w.alloc (.deferred (some []))).heap.size = w.heap.size + 1 := by simp
  have bV : Below w.heap.size w V := ((Below.refl _ w).alloc (Nat.le_refl _) _).alloc (by omega) _
  have atL : V.heap[w.heap.size + 1]? = some (.loop (rec0 .ready none)) := by
    have := World.alloc_heap_new (w.alloc (.deferred (some []))) (.loop (rec0 .ready none))
    rwa [sizeD] at this
  have atD : V.heap[w.heap.size]? = some (.deferred (some [])) := (Below.heap_alloc _ _ _ (by omega)).trans (World.alloc_heap_new w _)
  have iV : I 0 V := hI.alloc _ (hI.alloc _ h0)
  let J (k : Nat) (A : World) : Prop := I k A ∧ A.heap[w.heap.size + 1]? = some (.loop (rec0 .ready none)) ∧ A.heap[w.heap.size]? = some (.deferred (some []))
  let JL (A : World) : Prop := Ix A ∧ A.heap[w.heap.size + 1]? = some (.loop (rec0 .done (some .ret))) ∧ A.heap[w.heap.size]? = some (.deferred (some []))
  have round : ∀ m k x A, J k A → Hx k x A → k < N → YieldAt Fence.wide m P (w.heap.size + 1) (encs k x) A fun e B => (e = .returned (.bool true) ∧ J (k + 1) B) ∨ (e = .returned (.bool false) ∧ JL B) := by
    intro m k x A ⟨i1, i2, i3⟩ hx hlen
    have ltL : w.heap.size + 1 < A.heap.size := (Array.getElem?_eq_some_iff.1 i2).1
    refine ⟨fn, _, assign, body, run_yield (P := P) i2 (hps k x), roundIn_of_wpIn trivial (hassign _ _ k x A _ ⟨_, run_beginRound i2 rfl, ?_⟩)⟩
    refine wpIn_mono (hbody _ _ k x _ (hI.putObj _ i1 (by omega) i2 rfl) (hHx k x A _ _ _ hx (by omega) i2 rfl) hlen) ?_
    rintro e a3 B (⟨rfl, hk, hi⟩ | ⟨rfl, hk, hi⟩)
    · have l2 := hk.same (w.heap.size + 1) _ (by omega) (World.putObj_heap_same ltL) rfl
      have d2 := hk.same w.heap.size _ (Nat.le_refl _) ((World.putObj_heap_other (by omega)).trans i3) rfl
      exact ⟨_, _, run_endRound (P := P) none l2, .inl ⟨rfl, hI.putObj _ hi (by omega) l2 rfl, World.putObj_heap_same (Array.getElem?_eq_some_iff.1 l2).1, (World.putObj_heap_other (by omega)).trans d2⟩⟩
    · have l2 := hk.same (w.heap.size + 1) _ (by omega) (World.putObj_heap_same ltL) rfl
      have d2 := hk.same w.heap.size _ (Nat.le_refl _) ((World.putObj_heap_other (by omega)).trans i3) rfl
      exact ⟨_, _, run_endRound (P := P) (some .ret) l2, .inr ⟨rfl, hIx.putObj (s := ()) _ hi (by omega) l2 rfl, World.putObj_heap_same (Array.getElem?_eq_some_iff.1 l2).1, (World.putObj_heap_other (by omega)).trans d2⟩⟩
  have abide : ∀ k A B, J k A → Below A.heap.size A B → J k B := fun k A B ⟨j1, j2, j3⟩ hb =>
    ⟨hI k A B none j1 (grown_of_below hb) (fun r e => by cases e), (hb.block _ (Array.getElem?_eq_some_iff.1 j2).1).trans j2, (hb.block _ (Array.getElem?_eq_some_iff.1 j3).1).trans j3⟩
  have abideL : ∀ A B, JL A → Below A.heap.size A B → JL B := fun A B ⟨j1, j2, j3⟩ hb =>
    ⟨hIx () A B none j1 (grown_of_below hb) (fun r e => by cases e), (hb.block _ (Array.getElem?_eq_some_iff.1 j2).1).trans j2, (hb.block _ (Array.getElem?_eq_some_iff.1 j3).1).trans j3⟩
  refine ⟨w.heap.size + 1, [{ target := .collected w.heap.size, args := #[] }], V, { target := .fn (.func gf) lb, args := #[.func (.yield (w.heap.size + 1)) #[] #[]] }, V, gf, #[.func (.yield (w.heap.size + 1)) #[] #[]] ++ lb, V,
    run_enterLoop_outer _ _ _ _ _, ?_, fun _ _ => trivial, by simp [invoke, go_sem, eg], fun h => (by cases h), ?_⟩
  · simp only [resolve, hg]
    simp [go_sem]
  · refine (hseq (w.heap.size + 1) J JL V bV abide abideL (fun k A h => h.1) round ⟨iV, atL, atD⟩).mono ?_
    rintro e B ⟨⟨v, rfl⟩, ⟨j1, j2, j3⟩ | ⟨j1, j2, j3⟩⟩
    · exact ⟨none, _, run_endLoop (P := P) j2 (by simp [rec0]), hdone _ _ (Nat.le_refl _) (hI.putObj _ j1 (by omega) j2 rfl) ((World.putObj_heap_other (by omega)).trans j3)⟩
    · exact ⟨some .ret, _, run_endLoop (P := P) j2 (by simp [rec0]), hstop _ _ (Nat.le_refl _) (hIx.putObj (s := ()) _ j1 (by omega) j2 rfl) ((World.putObj_heap_other (by omega)).trans j3)⟩

end Go.Proofs.Ytojofbmpknpggaa

/- Pure: what binds make of a term (appl); composed binds (compB). -/
namespace Go.Proofs.Ytojofbmpknpggaa
open Go.RowKit

def appl (bb : List Bd) (zs : List Int) : List Int := zs.flatMap fun z => if z < 0 then ofB bb (-z - 1) else [z]
theorem appl_nil (bb : List Bd) : appl bb [] = [] := rfl
theorem appl_cons (bb : List Bd) (z : Int) (zs : List Int) : appl bb (z :: zs) = (if z < 0 then ofB bb (-z - 1) else [z]) ++ appl bb zs := rfl
theorem valOk_var {ss : Sg} {v : Int} (hs : sigOk ss = true) (h0 : 0 ≤ v) (h1 : v < 12) : valOk ss [-v - 1] = true := by
  have h2 : scan ss 1 [-v - 1] = some [] := by
    simp only [scan]
    rw [show arOf ss (-v - 1) = 0 by simp [arOf]; omega]
    rfl
  have h3 := sigOk_len hs
  simp only [valOk, hs, termOk, numOk, List.length_singleton, List.all_cons, List.all_nil, h2]
  simp
  omega
theorem ofB_ok {ss : Sg} {bb : List Bd} {v : Int} (h : bindsOk ss bb = true) (h0 : 0 ≤ v) (h1 : v < 12) : valOk ss (ofB bb v) = true := ofB_val h h0 h1 (valOk_var (bindsOk_sig h) h0 h1)
theorem ofB_len {ss : Sg} {bb : List Bd} {v : Int} (h : bindsOk ss bb = true) (h0 : 0 ≤ v) (h1 : v < 12) : 1 ≤ (ofB bb v).length ∧ (ofB bb v).length ≤ 60 := by
  have := valOk_term (ofB_ok h h0 h1)
  exact ⟨this.1, this.2.1⟩
theorem ofB_nums {ss : Sg} {bb : List Bd} {v : Int} (h : bindsOk ss bb = true) (h0 : 0 ≤ v) (h1 : v < 12) : ∀ z ∈ ofB bb v, -12 ≤ z ∧ z < (ss.length : Int) := (valOk_term (ofB_ok h h0 h1)).2.2.1
/-- The numbers of a term. -/
def NumsIn (ss : Sg) (zs : List Int) : Prop := ∀ z ∈ zs, -12 ≤ z ∧ z < (ss.length : Int)
theorem NumsIn.tail {ss : Sg} {z : Int} {zs : List Int} (h : NumsIn ss (z :: zs)) : NumsIn ss zs := fun x hx => h x (List.mem_cons_of_mem _ hx)
theorem appl_nums {ss : Sg} {bb : List Bd} (h : bindsOk ss bb = true) {zs : List Int} (hz : NumsIn ss zs) : NumsIn ss (appl bb zs) := by
  intro x hx
  obtain ⟨z, hz1, hx⟩ := List.mem_flatMap.1 hx
  have hzz := hz z hz1
  by_cases hn : z < 0
  · rw [if_pos hn] at hx
    exact ofB_nums h (by omega) (by omega) x hx
  · rw [if_neg hn] at hx
    obtain rfl := List.mem_singleton.1 hx
    exact hzz
theorem appl_len_ge {ss : Sg} {bb : List Bd} (h : bindsOk ss bb = true) {zs : List Int} (hz : NumsIn ss zs) : zs.length ≤ (appl bb zs).length := by
  induction zs with
  | nil => simp
  | cons z r ih =>
    have hr := ih hz.tail
    have hzz := hz z (List.mem_cons_self ..)
    rw [appl_cons, List.length_append, List.length_cons]
    by_cases hn : z < 0
    · rw [if_pos hn]
      have := (ofB_len h (v := -z - 1) (by omega) (by omega)).1
      omega
    · rw [if_neg hn]
      simp
      omega
theorem appl_scan {ss : Sg} {bb : List Bd} (h : bindsOk ss bb = true) : ∀ (zs : List Int) (n : Nat) (r : List Int), NumsIn ss zs → scan ss n zs = some r → scan ss n (appl bb zs) = some (appl bb r)
  | zs, 0, r, _, e => by rw [scan_zero] at e ⊢; cases e; rfl
  | [], n + 1, r, _, e => by cases e
  | z :: l, n + 1, r, hz, e => by
    have hzz := hz z (List.mem_cons_self ..)
    simp only [scan] at e
    have ih := appl_scan h l _ r hz.tail e
    rw [appl_cons]
    by_cases hn : z < 0
    · rw [if_pos hn]
      have h1 := (valOk_term (ofB_ok h (v := -z - 1) (by omega) (by omega))).2.2.2
      rw [show n + 1 = 1 + n from by omega, scan_add, scan_append ss _ 1 [] _ h1]
      rw [show arOf ss z = 0 by simp [arOf, hn]] at ih
      simpa using ih
    · rw [if_neg hn]
      simpa [scan] using ih
theorem appl_val {ss : Sg} {bb : List Bd} (h : bindsOk ss bb = true) {zs : List Int} (hv : valOk ss zs = true) (hl : (appl bb zs).length ≤ 60) : valOk ss (appl bb zs) = true := by
  obtain ⟨h1, h2, h3, h4⟩ := valOk_term hv
  have hs := valOk_sig hv
  have a1 : 1 ≤ (appl bb zs).length := Nat.le_trans h1 (appl_len_ge h h3)
  have a2 := appl_nums h h3
  have a3 := appl_scan h zs 1 [] h3 h4
  rw [appl_nil] at a3
  simp only [valOk, hs, termOk, Bool.true_and, Bool.and_eq_true, decide_eq_true_eq, List.all_eq_true, numOk]
  exact ⟨a1, hl, fun z hz => a2 z hz, a3⟩

/-- Composed binds, of the variables below k. -/
def compTo (bb mm : List Bd) (k : Nat) : List Bd := (List.range k).filterMap fun v : Nat => if appl mm (ofB bb (v : Int)) = [-(v : Int) - 1] then none else some ((v : Int), appl mm (ofB bb (v : Int)))
def compB (bb mm : List Bd) : List Bd := compTo bb mm 12
/-- Too long, among the variables below k. -/
def LongTo (bb mm : List Bd) (k : Nat) : Prop := ∃ v : Nat, v < k ∧ 60 < (appl mm (ofB bb (v : Int))).length
theorem bindsTo_of {ss : Sg} (hs : sigOk ss = true) : ∀ (bb : List Bd) (p : Int), (∀ x ∈ bb, p < x.1 ∧ x.1 < 12 ∧ valOk ss x.2 = true ∧ x.2 ≠ [-x.1 - 1]) → bb.Pairwise (fun x y => x.1 < y.1) → bindsTo ss p bb = true
  | [], _, _, _ => hs
  | y :: r, p, h, hp => by
    obtain ⟨h1, h2, h3, h4⟩ := h y (List.mem_cons_self ..)
    rw [List.pairwise_cons] at hp
    have ih := bindsTo_of hs r y.1 (fun x hx => ⟨hp.1 x hx, (h x (List.mem_cons_of_mem _ hx)).2⟩) hp.2
    simp [bindsTo, h1, h2, h3, h4, ih]
theorem ofB_mem {bb : List Bd} (hp : bb.Pairwise (fun x y => x.1 < y.1)) {x : Bd} (hx : x ∈ bb) : ofB bb x.1 = x.2 := by
  induction bb with
  | nil => simp at hx
  | cons y r ih =>
    rw [List.pairwise_cons] at hp
    rcases List.mem_cons.1 hx with rfl | hx
    · rw [ofB, if_pos rfl]
    · have := hp.1 x hx
      rw [ofB, if_neg (by omega)]
      exact ih hp.2 hx
/-- Up to variable k, binds make different variables of the variables. -/
def RenTo (bb : List Bd) (k : Nat) : Prop := (∀ j : Nat, j < k → (ofB bb (j : Int)).headD 0 < 0) ∧ ∀ i j : Nat, i < j → j < k → (ofB bb (i : Int)).headD 0 ≠ (ofB bb (j : Int)).headD 0
theorem RenTo.zero (bb : List Bd) : RenTo bb 0 := ⟨fun _ h => by omega, fun _ _ _ h => by omega⟩
theorem RenTo.succ {bb : List Bd} {k : Nat} (h : RenTo bb k) (h1 : (ofB bb (k : Int)).headD 0 < 0) (h2 : ∀ i : Nat, i < k → (ofB bb (i : Int)).headD 0 ≠ (ofB bb (k : Int)).headD 0) : RenTo bb (k + 1) := by
  refine ⟨fun j hj => ?_, fun i j hij hj => ?_⟩
  · by_cases e : j < k
    · exact h.1 j e
    · obtain rfl : j = k := by omega
      exact h1
  · by_cases e : j < k
    · exact h.2 i j hij e
    · obtain rfl : j = k := by omega
      exact h2 i hij
end Go.Proofs.Ytojofbmpknpggaa

namespace Go.Proofs.Ytojofbmpknpggaa
open Go.RowKit
attribute [local go_sem] Oper.semAt_some

theorem BindsAt.le {w : World} {B n : Nat} {A : Option Addr} {ls : List Hd} {bb : List Bd} (h : BindsAt w B A n ls bb) (hB : B ≤ w.heap.size) : BindsAt w w.heap.size A n ls bb := h.more hB
/-- What the iterator hands out at variable k. -/
def HxO (bb : List Bd) (k : Nat) (x : Hd) (W : World) : Prop := IntsAt W W.heap.size x.1 x.2.1 (ofB bb (k : Int))
theorem HxO.putObj {bb : List Bd} {k : Nat} {x : Hd} {W : World} {l : Nat} {o o' : Obj} (h : HxO bb k x W) (hl : W.heap[l]? = some o) (ho : o.isCells = false) : HxO bb k x (W.putObj l o') := by
  refine ⟨h.len, h.max, fun hn => ?_⟩
  obtain ⟨b, off, e, hb, hc⟩ := h.mem hn
  exact ⟨b, off, e, by simpa using hb, fun j hj => cell_kept (hc j hj) (grownBy_putObj' W l o') (fun r e => by cases e; exact ⟨o, hl, ho⟩)⟩

end Go.Proofs.Ytojofbmpknpggaa
