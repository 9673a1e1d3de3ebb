/- A range over the iterator whose body never leaves the loop and is told something of what it is handed, in the world at hand. -/
import Derived.Test.YtmccdmpemlmkkaaP3
namespace Go.Proofs.Ytmccdmpemlmkkaa
open Go.RowKit Go.Shelf

theorem grown_of_below {A B : World} (h : Below A.heap.size A B) : A.grownBy B none := ⟨h.os, h.tape, h.output, h.size, fun k hk _ => h.block k hk⟩

theorem range_parts {P : Program} {α : Type} {g : Operand} {ps : Array Tmp} {assign body : Code} {Q : Exit → Act → World → Prop} {a : Act} {w : World} {n gf : Nat} {lb : Array Value}
    (hg : a.eval g = .func (.func gf) #[] lb) (eg : ∀ args w, (callFunc gf args).run P w = .ok (.enter gf args) w) {encs : α → Array Value} (hps : ∀ x, (encs x).size = ps.size)
    (Hx : α → World → Prop) (Kp : World → World → Prop) (S : List α → Prop) (N : Nat) (I : List α → World → Prop) (hI : OwnFrom w.heap.size I)
    (hHx : ∀ x W l o o', Hx x W → w.heap.size ≤ l → W.heap[l]? = some o → o.isCells = false → Hx x (W.putObj l o'))
    (hKt : ∀ {A B C : World}, Kp A B → Kp B C → Kp A C) (hKb : ∀ (W : World) (l : Nat) (o o' : Obj), w.heap.size ≤ l → W.heap[l]? = some o → o.isCells = false → o.isWalk = false → Kp W (W.putObj l o'))
    (h0 : I [] w)
    (hseq : ∀ (l : Nat) (J : List α → World → Prop) (V : World), Below w.heap.size w V → (∀ pre A B, J pre A → Below A.heap.size A B → J pre B) →
      (∀ m pre x A, J pre A → Hx x A → pre.length < N → YieldAt Fence.wide m P l (encs x) A fun e B => e = .returned (.bool true) ∧ J (pre ++ [x]) B ∧ Kp A B) → J [] V →
      CallsIn Fence.wide (n - 1) P gf (#[.func (.yield l) #[] #[]] ++ lb) V fun e B => (∃ v, e = .returned v) ∧ ∃ xs, S xs ∧ J xs B)
    (a₁ : α → Act)
    (hassign : ∀ (l m : Nat) (x : α) (W : World) (K : Act → World → Prop), K (a₁ x) W →
      assign.wpIn (Fence.wide.inRound l) m P (Exit.then K (fun _ _ _ => False)) { tmps := (ps.zip (encs x)).foldl (fun t (p, v) => t.setIfInBounds p v) a.tmps, defers := [] } W)
    (hbody : ∀ (l m : Nat) (pre : List α) (x : α) (W : World), I pre W → Hx x W → pre.length < N → body.wpIn (Fence.wide.inRound l) m P (fun e _ W' => e = .normal ∧ KeepsFrom w.heap.size W W' ∧ Kp W W' ∧ I (pre ++ [x]) W') (a₁ x) W)
    (hdone : ∀ (D : Nat) (xs : List α) (W : World), w.heap.size ≤ D → S xs → I xs W → W.heap[D]? = some (.deferred (some [])) → Q .normal { a with defers := { target := .collected D, args := #[] } :: a.defers } W) :
    (Code.rangeFunc g ps assign body).wpIn Fence.wide n P Q a w := by
  refine wpIn_rangeFunc fun fn _ => ?_
  let rec0 (st : LoopState) : Loop := { state := st, pending := none, fn, tmps := a.tmps, params := ps, assign, body, defers := w.heap.size }
  let V := (w.alloc (.deferred (some []))).alloc (.loop (rec0 .ready))
  have sizeD : (w.alloc (.deferred (some []))).heap.size = w.heap.size + 1 := by simp
  have bV : Below w.heap.size w V := ((Below.refl _ w).alloc (Nat.le_refl _) _).alloc (by omega) _
  have atL : V.heap[w.heap.size + 1]? = some (.loop (rec0 .ready)) := by
    have := World.alloc_heap_new (w.alloc (.deferred (some []))) (.loop (rec0 .ready))
    rwa [sizeD] at this
  have atD : V.heap[w.heap.size]? = some (.deferred (some [])) := (Below.heap_alloc _ _ _ (by omega)).trans (World.alloc_heap_new w _)
  have iV : I [] V := hI.alloc _ (hI.alloc _ h0)
  let J (pre : List α) (A : World) : Prop := I pre A ∧ A.heap[w.heap.size + 1]? = some (.loop (rec0 .ready)) ∧ A.heap[w.heap.size]? = some (.deferred (some []))
  have round : ∀ m pre x A, J pre A → Hx x A → pre.length < N → YieldAt Fence.wide m P (w.heap.size + 1) (encs x) A fun e B => e = .returned (.bool true) ∧ J (pre ++ [x]) B ∧ Kp A B := by
    intro m pre x A ⟨i1, i2, i3⟩ hx hlen
    have ltL : w.heap.size + 1 < A.heap.size := (Array.getElem?_eq_some_iff.1 i2).1
    refine ⟨fn, _, assign, body, run_yield (P := P) i2 (hps x), roundIn_of_wpIn trivial (hassign _ _ x A _ ⟨_, run_beginRound i2 rfl, ?_⟩)⟩
    refine wpIn_mono (hbody _ _ pre x _ (hI.putObj _ i1 (by omega) i2 rfl) (hHx x A _ _ _ hx (by omega) i2 rfl) hlen) ?_
    rintro e a3 B ⟨rfl, hk, hkp, hi⟩
    have l2 := hk.same (w.heap.size + 1) _ (by omega) (World.putObj_heap_same ltL) rfl
    have d2 := hk.same w.heap.size _ (Nat.le_refl _) ((World.putObj_heap_other (by omega)).trans i3) rfl
    refine ⟨_, _, run_endRound (P := P) none l2, rfl, ⟨hI.putObj _ hi (by omega) l2 rfl, World.putObj_heap_same (Array.getElem?_eq_some_iff.1 l2).1, (World.putObj_heap_other (by omega)).trans d2⟩, ?_⟩
    exact hKt (hKt (hKb _ _ _ _ (by omega) i2 rfl rfl) hkp) (hKb _ _ _ _ (by omega) l2 rfl rfl)
  have abide : ∀ pre A B, J pre A → Below A.heap.size A B → J pre B := fun pre A B ⟨j1, j2, j3⟩ hb =>
    ⟨hI pre A B none j1 (grown_of_below hb) (fun r e => by cases e), (hb.block _ (Array.getElem?_eq_some_iff.1 j2).1).trans j2, (hb.block _ (Array.getElem?_eq_some_iff.1 j3).1).trans j3⟩
  refine ⟨w.heap.size + 1, [{ target := .collected w.heap.size, args := #[] }], V, { target := .fn (.func gf) lb, args := #[.func (.yield (w.heap.size + 1)) #[] #[]] }, V, gf, #[.func (.yield (w.heap.size + 1)) #[] #[]] ++ lb, V,
    run_enterLoop_outer _ _ _ _ _, ?_, fun _ _ => trivial, by simp [invoke, go_sem, eg], fun h => (by cases h), ?_⟩
  · simp only [resolve, hg]
    simp [go_sem]
  · refine (hseq (w.heap.size + 1) J V bV abide round ⟨iV, atL, atD⟩).mono ?_
    rintro e B ⟨⟨v, rfl⟩, xs, hS, j1, j2, j3⟩
    exact ⟨none, _, run_endLoop (P := P) j2 (by simp [rec0]), hdone _ xs _ (Nat.le_refl _) hS (hI.putObj _ j1 (by omega) j2 rfl) ((World.putObj_heap_other (by omega)).trans j3)⟩

end Go.Proofs.Ytmccdmpemlmkkaa
