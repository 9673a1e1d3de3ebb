/- Contracts: ValidGivens; Canonical in new memory; what steps say: the functions in the array. -/
import Derived.Test.YtojofbmpknpggaaPFg
import Derived.Test.YtojofbmpknpggaaKFg
import Derived.Test.YtojofbmpknpggaaN2g
import Derived.Test.YtojofbmpknpggaaN5g
import Derived.Test.YtojofbmpknpggaaKQg
import Derived.Deep.RegionHeld3
/- Contracts: the kernel's below, validNumber, validStep, ValidProof, ValidGivens; Canonical in new memory. -/
namespace Go.Proofs.Ytojofbmpknpggaa
open Go.RowKit

def btw (c z : Int) : Bool := decide (0 ≤ z ∧ z < c)
theorem btw_bad {c z : Int} (h : z < 0 ∨ c ≤ z) : btw c z = false := decide_eq_false (by omega)
theorem btw_good {c z : Int} (h : ¬ (z < 0 ∨ c ≤ z)) : btw c z = true := decide_eq_true (by omega)

set_option maxRecDepth 100000 in
set_option maxHeartbeats 400000 in
theorem below_any (c : Int) (A : Option Addr) (n cap : Nat) (zs : List Int) (w : World) (B : Nat) (hx : IntsAt w B A n zs) (hn : n ≤ 1000000) :
    Calls Try.prog 41 #[.int .i64 c, .slice A n cap] w fun e w' => e = .returned (.bool (zs.all (btw c))) ∧ w = w' := by
  obtain ⟨R, hR⟩ : ∃ R, zs.all (btw c) = R := ⟨_, rfl⟩
  rw [hR]
  have HX := Lib.hid hx
  have HL := Lib.hid hx.len
  have HR := Lib.hid hR
  clear hx hR
  go_enter Try.func41, Try.ntmps41
  go_wp2
  go_loop [9] (fun i => ∃ k : Nat, k ≤ n ∧ i = .int .i64 k ∧ (zs.take k).all (btw c) = true) (fun i => n - (intOf i).toNat)
  case atStart => exact ⟨0, Nat.zero_le _, rfl, rfl⟩
  case round =>
    obtain ⟨k, hk, rfl, hok⟩ := hrel
    by_cases hlt : k < n
    · obtain ⟨b, off, z, rfl, c0, k1, e1⟩ := HX.out.cellAt hlt
      have hk0 : (0 : Int) ≤ (k : Int) := by omega
      have hk1 : (k : Int) < (n : Int) := by omega
      by_cases h1 : z < 0
      · have H := Lib.hid (show R = false by
          rw [← HR.out, List.all_eq_false]
          exact ⟨z, by rw [← e1]; exact List.getElem_mem k1, by rw [btw_bad (.inl h1)]; simp⟩)
        clear hok k1 e1
        go_wp2
        go_ret
        exact ⟨ret_b H.out.symm, rfl⟩
      · by_cases h2 : c ≤ z
        · have H := Lib.hid (show R = false by
            rw [← HR.out, List.all_eq_false]
            exact ⟨z, by rw [← e1]; exact List.getElem_mem k1, by rw [btw_bad (.inr h2)]; simp⟩)
          clear hok k1 e1
          go_wp2
          go_ret
          exact ⟨ret_b H.out.symm, rfl⟩
        · have H := Lib.hid (show (zs.take (k + 1)).all (btw c) = true by
            rw [List.take_succ_eq_append_getElem k1, List.all_append, hok, e1]
            simp [btw_good (show ¬ (z < 0 ∨ c ≤ z) by omega)])
          have h3 : z < c := by omega
          clear hok k1 e1
          go_wp2
          go_round
          case rel => exact ⟨k + 1, by omega, by go_num, H.out⟩
          case measure => simp [intOf]; omega
    · obtain rfl : k = n := by omega
      have H := Lib.hid (show R = true by
        rw [List.take_of_length_le (by have := HL.out; omega)] at hok
        rw [← HR.out, hok])
      go_wp2
      go_ret
      exact ⟨ret_b H.out.symm, rfl⟩
theorem below_one (c z : Int) (A : Option Addr) (cap : Nat) (w : World) (B : Nat) (hx : IntsAt w B A 1 [z]) :
    Calls Try.prog 41 #[.int .i64 c, .slice A 1 cap] w fun e w' => e = .returned (.bool (btw c z)) ∧ w = w' := by
  refine (below_any c A 1 cap [z] w B hx (by omega)).mono fun e w' h => ?_
  rw [h.1, h.2]
  simp

set_option maxHeartbeats 400000 in
theorem validNumber_any (g : Int) (w : World) :
    Calls Try.prog 40 #[.int .i64 g] w fun e w' => e = .returned (.bool (decide (0 ≤ g ∧ g ≤ 60))) ∧ w = w' := by
  by_cases h1 : 0 ≤ g
  · by_cases h2 : g ≤ 60
    · rw [decide_eq_true (And.intro h1 h2)]
      go_enter Try.func40, Try.ntmps40
      go_wp2
      go_ret
      simp [*]
    · rw [decide_eq_false (fun h => h2 h.2)]
      go_enter Try.func40, Try.ntmps40
      go_wp2
      go_ret
      simp [*]
  · rw [decide_eq_false (fun h => h1 h.1)]
    go_enter Try.func40, Try.ntmps40
    go_wp2
    go_ret
    simp [*]

theorem stepOk_cite {g i : Int} {y z : Int} : stepOk g i (1, y, z) = (btw g y && decide (z = 0)) := by
  unfold stepOk btw
  rw [if_pos rfl]
theorem stepOk_det {g i : Int} {y z : Int} : stepOk g i (2, y, z) = (btw i y && btw i z) := by
  unfold stepOk btw
  simp
theorem stepOk_odd {g i : Int} {x y z : Int} (h1 : x ≠ 1) (h2 : x ≠ 2) : stepOk g i (x, y, z) = false := by
  unfold stepOk
  rw [if_neg h1, if_neg h2]
theorem ints_vone (W : World) (z : Int) : IntsAt (W.alloc (.cells #[.int .i64 z] 3)) (W.alloc (.cells #[.int .i64 z] 3)).heap.size (some ⟨W.heap.size, 0, none⟩) 1 [z] := ints_var W z

set_option maxRecDepth 100000 in
set_option maxHeartbeats 1000000 in
theorem validStep_any (g i x y z : Int) (w : World) :
    Calls Try.prog 50 #[.int .i64 g, .int .i64 i, .agg #[.int .i64 x, .int .i64 y, .int .i64 z]] w fun e w' => e = .returned (.bool (stepOk g i (x, y, z))) ∧ Below w.heap.size w w' := by
  have CB := fun (c q : Int) (x : Int) => show Calls Try.prog 41 #[.int .i64 c, .slice (some ⟨w.heap.size + 1, 0, none⟩) 1 1] ((w.alloc (.cells #[.int .i64 x, .int .i64 y, .int .i64 z] 33)).alloc (.cells #[.int .i64 q] 3)) fun e w' => e = .returned (.bool (btw c q)) ∧ ((w.alloc (.cells #[.int .i64 x, .int .i64 y, .int .i64 z] 33)).alloc (.cells #[.int .i64 q] 3)) = w' from by
    have h := ints_vone (w.alloc (.cells #[.int .i64 x, .int .i64 y, .int .i64 z] 33)) q
    rw [World.size_alloc w] at h
    exact below_one c q _ 1 _ _ h
  have CD := fun (c q r : Int) (x : Int) => show Calls Try.prog 41 #[.int .i64 c, .slice (some ⟨w.heap.size + 1 + 1, 0, none⟩) 1 1] (((w.alloc (.cells #[.int .i64 x, .int .i64 y, .int .i64 z] 33)).alloc (.cells #[.int .i64 r] 3)).alloc (.cells #[.int .i64 q] 3)) fun e w' => e = .returned (.bool (btw c q)) ∧ (((w.alloc (.cells #[.int .i64 x, .int .i64 y, .int .i64 z] 33)).alloc (.cells #[.int .i64 r] 3)).alloc (.cells #[.int .i64 q] 3)) = w' from by
    have h := ints_vone ((w.alloc (.cells #[.int .i64 x, .int .i64 y, .int .i64 z] 33)).alloc (.cells #[.int .i64 r] 3)) q
    simp only [World.size_alloc] at h
    exact below_one c q _ 1 _ _ h
  by_cases h1 : x = 1
  · subst h1
    rw [stepOk_cite]
    obtain ⟨q, hq⟩ : ∃ q, btw g y = q := ⟨_, rfl⟩
    have C1 := Lib.hid (CB g y 1)
    rw [hq] at C1 ⊢
    cases q with
    | false =>
      clear hq CB CD
      go_enter Try.func50, Try.ntmps50
      go_wp2_with (go_at_call 41; ((with_reducible refine C1.out.mono ?_); rintro e w1 ⟨rfl, rfl⟩))
      go_ret
      exact ⟨rfl, bel_al (bel_al (Below.refl _ w) _) _⟩
    | true =>
      clear hq CB CD
      by_cases hz : z = 0
      · subst hz
        go_enter Try.func50, Try.ntmps50
        go_wp2_with (go_at_call 41; ((with_reducible refine C1.out.mono ?_); rintro e w1 ⟨rfl, rfl⟩))
        go_ret
        exact ⟨rfl, bel_al (bel_al (Below.refl _ w) _) _⟩
      · have hz' : (z == 0) = false := by simpa using hz
        rw [decide_eq_false hz]
        go_enter Try.func50, Try.ntmps50
        go_wp2_with (go_at_call 41; ((with_reducible refine C1.out.mono ?_); rintro e w1 ⟨rfl, rfl⟩))
        go_ret
        exact ⟨rfl, bel_al (bel_al (Below.refl _ w) _) _⟩
  · have h1' : (x == 1) = false := by simpa using h1
    by_cases h2 : x = 2
    · subst h2
      rw [stepOk_det]
      obtain ⟨q, hq⟩ : ∃ q, btw i y = q := ⟨_, rfl⟩
      have C1 := Lib.hid (CB i y 2)
      have C2 := Lib.hid (CD i z y 2)
      rw [hq] at C1 ⊢
      obtain ⟨r, hr⟩ : ∃ r, btw i z = r := ⟨_, rfl⟩
      rw [hr] at C2 ⊢
      cases q with
      | false =>
        clear hq hr CB CD
        go_enter Try.func50, Try.ntmps50
        go_wp2_with (go_at_call 41; ((with_reducible refine C1.out.mono ?_); rintro e w1 ⟨rfl, rfl⟩))
        go_ret
        exact ⟨rfl, bel_al (bel_al (Below.refl _ w) _) _⟩
      | true =>
        clear hq hr CB CD
        go_enter Try.func50, Try.ntmps50
        go_wp2_with (first
          | (go_at_call 41; ((with_reducible refine C2.out.mono ?_); rintro e w2 ⟨rfl, rfl⟩))
          | (go_at_call 41; ((with_reducible refine C1.out.mono ?_); rintro e w1 ⟨rfl, rfl⟩)))
        go_ret
        exact ⟨rfl, bel_al (bel_al (bel_al (Below.refl _ w) _) _) _⟩
    · have h2' : (x == 2) = false := by simpa using h2
      rw [stepOk_odd h1 h2]
      clear CB CD
      go_enter Try.func50, Try.ntmps50
      go_wp2
      go_ret
      exact ⟨rfl, bel_al (Below.refl _ w) _⟩

set_option maxRecDepth 100000 in
set_option maxHeartbeats 1000000 in
theorem validProof_any (g : Int) (A : Option Addr) (n c : Nat) (pp : List Stp) (w : World) (hp : StepsAt w w.heap.size A n pp) :
    Calls Try.prog 24 #[.int .i64 g, .slice A n c] w fun e w' => e = .returned (.bool (proofOk g pp)) ∧ Below w.heap.size w w' := by
  have hl := hp.len
  have CN := Lib.hid (validNumber_any g)
  by_cases h1 : 0 ≤ g ∧ g ≤ 60
  · rw [decide_eq_true h1] at CN
    by_cases h2 : n < 1
    · rw [proofOk_len (by omega)]
      clear hp hl
      go_enter Try.func24, Try.ntmps24
      go_wp2_with (go_at_call 40; refine (CN.out _).mono ?_; rintro e w1 ⟨rfl, rfl⟩)
      go_ret
      exact ⟨rfl, Below.refl _ _⟩
    · by_cases h3 : 60 < n
      · rw [proofOk_len (by omega)]
        clear hp hl
        go_enter Try.func24, Try.ntmps24
        go_wp2_with (go_at_call 40; refine (CN.out _).mono ?_; rintro e w1 ⟨rfl, rfl⟩)
        go_ret
        exact ⟨rfl, Below.refl _ _⟩
      · obtain ⟨R, hR⟩ : ∃ R, proofOk g pp = R := ⟨_, rfl⟩
        have HALL := Lib.hid (fun (h : stepsTo g pp n) => show proofOk g pp = true from proofOk_all h1 (by omega) (by rw [← hl]; exact h))
        have HBAD := Lib.hid (fun (k : Nat) (x : Stp) (hx : pp[k]? = some x) (e : stepOk g k x = false) => show proofOk g pp = false from proofOk_bad hx e)
        rw [hR] at HALL HBAD ⊢
        have CS := Lib.hid (fun (i x y z : Int) (V : World) => validStep_any g i x y z V)
        have HP := Lib.hid hp
        have hn1 : 1 ≤ n := by omega
        have hn60 : n ≤ 60 := by omega
        clear hp hR h2 h3 hl h1
        go_enter Try.func24, Try.ntmps24
        go_wp2_with (go_at_call 40; refine (CN.out _).mono ?_; rintro e w1 ⟨rfl, rfl⟩)
        go_loopw [22] (fun i wr => ∃ k : Nat, k ≤ n ∧ i = .int .i64 k ∧ stepsTo g pp k ∧ Below w.heap.size w wr) (fun i _ => n - (intOf i).toNat)
        case atStart => exact ⟨0, Nat.zero_le _, rfl, stepsTo_zero _ _, Below.refl _ _⟩
        case round =>
          obtain ⟨k, hk, rfl, hok, hB⟩ := hrel
          have HB := Lib.hid hB
          by_cases hlt : k < n
          · obtain ⟨b, off, x, y, z, rfl, hb, q1, q2, q3, q4⟩ := HP.out.cellAt hlt
            have r1 := (hB.cell (p := ⟨b, off + k * 3, none⟩) hb).trans q1
            have r2 := (hB.cell (p := ⟨b, off + k * 3 + 1, none⟩) hb).trans q2
            have r3 := (hB.cell (p := ⟨b, off + k * 3 + 2, none⟩) hb).trans q3
            have hk0 : (0 : Int) ≤ (k : Int) := by omega
            have hk1 : (k : Int) < (n : Int) := by omega
            have C := Lib.hid (CS.out (k : Int) x y z (wr.alloc (.cells #[.int .i64 x, .int .i64 y, .int .i64 z] 33)))
            cases hso : stepOk g k (x, y, z)
            · have H := Lib.hid (HBAD.out k _ q4 hso)
              rw [hso] at C
              clear q1 q2 q3 q4 hso hok hB
              go_wp2_with (go_at_call 50; refine C.out.mono ?_; rintro e w3 ⟨rfl, hB3⟩; have HB3 := Lib.hid (below_then (below_then HB.out (bel_al (Below.refl _ wr) _)) hB3); clear hB3)
              go_ret
              exact ⟨ret_b H.out.symm, HB3.out⟩
            · have H := Lib.hid (stepsTo_succ hok q4 hso)
              rw [hso] at C
              clear q1 q2 q3 q4 hso hok hB
              go_wp2_with (go_at_call 50; refine C.out.mono ?_; rintro e w3 ⟨rfl, hB3⟩; have HB3 := Lib.hid (below_then (below_then HB.out (bel_al (Below.refl _ wr) _)) hB3); clear hB3)
              go_roundw
              case rel => exact ⟨k + 1, by omega, by go_num, H.out, HB3.out⟩
              case measure => simp [intOf]; omega
          · obtain rfl : k = n := by omega
            have H := Lib.hid (HALL.out hok)
            clear hok hB
            go_wp2
            go_ret
            exact ⟨ret_b H.out.symm, HB.out⟩
  · rw [decide_eq_false h1] at CN
    rw [proofOk_num h1]
    clear hp hl
    go_enter Try.func24, Try.ntmps24
    go_wp2_with (go_at_call 40; refine (CN.out _).mono ?_; rintro e w1 ⟨rfl, rfl⟩)
    go_ret
    exact ⟨rfl, Below.refl _ _⟩

end Go.Proofs.Ytojofbmpknpggaa

/- A range over an iterator with rounds 0, 1, .. that may be left by a return; what each round keeps is told to the iterator. -/
namespace Go.Proofs.Ytojofbmpknpggaa
open Go.RowKit

theorem range_lp {P : Program} {α : Type} {g : Operand} {ps : Array Tmp} {assign body : Code} {Q : Exit → Act → World → Prop} {a : Act} {w : World} {n gf : Nat} {lb : Array Value}
    (hg : a.eval g = .func (.func gf) #[] lb) (eg : ∀ args w, (callFunc gf args).run P w = .ok (.enter gf args) w) {encs : α → Array Value} (hps : ∀ x, (encs x).size = ps.size)
    (Hx : List α → α → World → Prop) (N : Nat) (I : List α → World → Prop) (Ix : World → Prop) (hI : OwnFrom w.heap.size I) (hIx : OwnFrom w.heap.size (fun (_ : Unit) W => Ix W))
    (hHx : ∀ k x W l o o', Hx k x W → w.heap.size ≤ l → W.heap[l]? = some o → o.isCells = false → Hx k x (W.putObj l o'))
    (Kp : World → World → Prop) (hKt : ∀ {A B C : World}, Kp A B → Kp B C → Kp A C) (hKb : ∀ (W : World) (l : Nat) (o o' : Obj), w.heap.size ≤ l → W.heap[l]? = some o → o.isCells = false → o.isWalk = false → Kp W (W.putObj l o'))
    (Sf : List α → World → World → Prop) (hSfI : ∀ k A B, I k A → Sf k A B → I k B) (hSfN : ∀ k A B (b : Nat) (o : Obj), Sf k A B → A.heap[b]? = some o → o.isCells = false → B.heap[b]? = A.heap[b]?)
    (h0 : I [] w)
    (hseq : ∀ (l : Nat) (J : List α → World → Prop) (JL : World → Prop) (V : World), Below w.heap.size w V → (∀ k A B, J k A → Below A.heap.size A B → J k B) → (∀ k A B, J k A → Sf k A B → J k B) → (∀ k A, J k A → I k A) →
      (∀ m k x A, J k A → Hx k x A → k.length < N → YieldAt Fence.wide m P l (encs x) A fun e B => (e = .returned (.bool true) ∧ J (k ++ [x]) B ∧ Kp A B) ∨ (e = .returned (.bool false) ∧ JL B)) → J [] V →
      CallsIn Fence.wide (n - 1) P gf (#[.func (.yield l) #[] #[]] ++ lb) V fun e B => (∃ v, e = .returned v) ∧ ((∃ xs, xs.length = N ∧ J xs B) ∨ JL B))
    (a₁ : α → Act)
    (hassign : ∀ (l m : Nat) (x : α) (W : World) (K : Act → World → Prop), K (a₁ x) W →
      assign.wpIn (Fence.wide.inRound l) m P (Exit.then K (fun _ _ _ => False)) { tmps := (ps.zip (encs x)).foldl (fun t (p, v) => t.setIfInBounds p v) a.tmps, defers := [] } W)
    (hbody : ∀ (l m : Nat) (k : List α) (x : α) (W : World), I k W → Hx k x W → k.length < N → body.wpIn (Fence.wide.inRound l) m P (fun e _ W' => (e = .normal ∧ KeepsFrom w.heap.size W W' ∧ Kp W W' ∧ I (k ++ [x]) W') ∨ (e = .ret ∧ KeepsFrom w.heap.size W W' ∧ Ix W')) (a₁ x) W)
    (hdone : ∀ (D : Nat) (xs : List α) (W : World), w.heap.size ≤ D → xs.length = N → I xs W → W.heap[D]? = some (.deferred (some [])) → Q .normal { a with defers := { target := .collected D, args := #[] } :: a.defers } W)
    (hstop : ∀ (D : Nat) (W : World), w.heap.size ≤ D → Ix W → W.heap[D]? = some (.deferred (some [])) → Code.ret.wpIn Fence.wide n P Q { a with defers := { target := .collected D, args := #[] } :: a.defers } W) :
    (Code.rangeFunc g ps assign body).wpIn Fence.wide n P Q a w := by
  refine wpIn_rangeFunc fun fn _ => ?_
  let rec0 (st : LoopState) (pe : Option Code) : Loop := { state := st, pending := pe, fn, tmps := a.tmps, params := ps, assign, body, defers := w.heap.size }
  let V := (w.alloc (.deferred (some []))).alloc (.loop (rec0 .ready none))
  have sizeD : (w.alloc (.deferred (some []))).heap.size = w.heap.size + 1 := by simp
  have bV : Below w.heap.size w V := ((Below.refl _ w).alloc (Nat.le_refl _) _).alloc (by omega) _
  have atL : V.heap[w.heap.size + 1]? = some (.loop (rec0 .ready none)) := by
    have := World.alloc_heap_new (w.alloc (.deferred (some []))) (.loop (rec0 .ready none))
    rwa [sizeD] at this
  have atD : V.heap[w.heap.size]? = some (.deferred (some [])) := (Below.heap_alloc _ _ _ (by omega)).trans (World.alloc_heap_new w _)
  have iV : I [] V := hI.alloc _ (hI.alloc _ h0)
  let J (k : List α) (A : World) : Prop := I k A ∧ A.heap[w.heap.size + 1]? = some (.loop (rec0 .ready none)) ∧ A.heap[w.heap.size]? = some (.deferred (some []))
  let JL (A : World) : Prop := Ix A ∧ A.heap[w.heap.size + 1]? = some (.loop (rec0 .done (some .ret))) ∧ A.heap[w.heap.size]? = some (.deferred (some []))
  have round : ∀ m k x A, J k A → Hx k x A → k.length < N → YieldAt Fence.wide m P (w.heap.size + 1) (encs x) A fun e B => (e = .returned (.bool true) ∧ J (k ++ [x]) B ∧ Kp A B) ∨ (e = .returned (.bool false) ∧ JL B) := by
    intro m k x A ⟨i1, i2, i3⟩ hx hlen
    have ltL : w.heap.size + 1 < A.heap.size := (Array.getElem?_eq_some_iff.1 i2).1
    refine ⟨fn, _, assign, body, run_yield (P := P) i2 (hps x), roundIn_of_wpIn trivial (hassign _ _ x A _ ⟨_, run_beginRound i2 rfl, ?_⟩)⟩
    refine wpIn_mono (hbody _ _ k x _ (hI.putObj _ i1 (by omega) i2 rfl) (hHx k x A _ _ _ hx (by omega) i2 rfl) hlen) ?_
    rintro e a3 B (⟨rfl, hk, hkp, hi⟩ | ⟨rfl, hk, hi⟩)
    · have l2 := hk.same (w.heap.size + 1) _ (by omega) (World.putObj_heap_same ltL) rfl
      have d2 := hk.same w.heap.size _ (Nat.le_refl _) ((World.putObj_heap_other (by omega)).trans i3) rfl
      exact ⟨_, _, run_endRound (P := P) none l2, .inl ⟨rfl, ⟨hI.putObj _ hi (by omega) l2 rfl, World.putObj_heap_same (Array.getElem?_eq_some_iff.1 l2).1, (World.putObj_heap_other (by omega)).trans d2⟩, hKt (hKt (hKb _ _ _ _ (by omega) i2 rfl rfl) hkp) (hKb _ _ _ _ (by omega) l2 rfl rfl)⟩⟩
    · have l2 := hk.same (w.heap.size + 1) _ (by omega) (World.putObj_heap_same ltL) rfl
      have d2 := hk.same w.heap.size _ (Nat.le_refl _) ((World.putObj_heap_other (by omega)).trans i3) rfl
      exact ⟨_, _, run_endRound (P := P) (some .ret) l2, .inr ⟨rfl, hIx.putObj (s := ()) _ hi (by omega) l2 rfl, World.putObj_heap_same (Array.getElem?_eq_some_iff.1 l2).1, (World.putObj_heap_other (by omega)).trans d2⟩⟩
  have abide : ∀ k A B, J k A → Below A.heap.size A B → J k B := fun k A B ⟨j1, j2, j3⟩ hb =>
    ⟨hI k A B none j1 (grown_of_below hb) (fun r e => by cases e), (hb.block _ (Array.getElem?_eq_some_iff.1 j2).1).trans j2, (hb.block _ (Array.getElem?_eq_some_iff.1 j3).1).trans j3⟩
  have abideS : ∀ k A B, J k A → Sf k A B → J k B := fun k A B ⟨j1, j2, j3⟩ hb =>
    ⟨hSfI k A B j1 hb, (hSfN k A B _ _ hb j2 rfl).trans j2, (hSfN k A B _ _ hb j3 rfl).trans j3⟩
  refine ⟨w.heap.size + 1, [{ target := .collected w.heap.size, args := #[] }], V, { target := .fn (.func gf) lb, args := #[.func (.yield (w.heap.size + 1)) #[] #[]] }, V, gf, #[.func (.yield (w.heap.size + 1)) #[] #[]] ++ lb, V,
    run_enterLoop_outer _ _ _ _ _, ?_, fun _ _ => trivial, by simp [invoke, go_sem, eg], fun h => (by cases h), ?_⟩
  · simp only [resolve, hg]
    simp [go_sem]
  · refine (hseq (w.heap.size + 1) J JL V bV abide abideS (fun k A h => h.1) round ⟨iV, atL, atD⟩).mono ?_
    rintro e B ⟨⟨v, rfl⟩, ⟨xs, hxs, j1, j2, j3⟩ | ⟨j1, j2, j3⟩⟩
    · exact ⟨none, _, run_endLoop (P := P) j2 (by simp [rec0]), hdone _ xs _ (Nat.le_refl _) hxs (hI.putObj _ j1 (by omega) j2 rfl) ((World.putObj_heap_other (by omega)).trans j3)⟩
    · exact ⟨some .ret, _, run_endLoop (P := P) j2 (by simp [rec0]), hstop _ _ (Nat.le_refl _) (hIx.putObj (s := ()) _ j1 (by omega) j2 rfl) ((World.putObj_heap_other (by omega)).trans j3)⟩

end Go.Proofs.Ytojofbmpknpggaa

namespace Go.Proofs.Ytojofbmpknpggaa
open Go.RowKit

/-- Whether terms are valid givens. -/
def givOk (ss : Sg) (gg : List (List Int)) : Bool := sigOk ss && decide (gg.length ≤ 60) && gg.all (valOk ss)
theorem givOk_to {ss : Sg} {gg : List (List Int)} (h : givOk ss gg = true) : sigOk ss = true ∧ gg.length ≤ 60 ∧ ∀ t ∈ gg, valOk ss t = true := by
  unfold givOk at h
  rw [Bool.and_eq_true, Bool.and_eq_true, decide_eq_true_iff, List.all_eq_true] at h
  exact ⟨h.1.1, h.1.2, h.2⟩

set_option maxRecDepth 100000 in
set_option maxHeartbeats 1000000 in
theorem validGivens_any (As At : Option Addr) (ns cs n c : Nat) (ss : Sg) (ls : List Hd) (tt : List (List Int)) (w : World) (hs : SigAt w w.heap.size As ns ss) (ht : TermsAt w w.heap.size At n ls tt) (hn : n ≤ 1000000) :
    Calls Try.prog 66 #[.slice As ns cs, .slice At n c] w fun e w' => e = .returned (.bool (givOk ss tt)) ∧ Below w.heap.size w w' := by
  have HT := Lib.hid ht
  have HLT := Lib.hid ht.len
  have CV := Lib.hid (fun V (hb : Below w.heap.size w V) A' n' c' t (hI : IntsAt V V.heap.size A' n' t) => valid_any As A' ns cs n' c' ss t V (hs.up hb) hI)
  have CS := Lib.hid (validSign_any As ns cs ss w hs)
  have CN := Lib.hid (fun (k : Nat) (V : World) => validNumber_any (k : Int) V)
  obtain ⟨R, hR⟩ : ∃ R, givOk ss tt = R := ⟨_, rfl⟩
  rw [hR]
  have HR := Lib.hid hR
  clear ht hs hR
  cases hsg : sigOk ss
  · have H := Lib.hid (show R = false by rw [← HR.out]; unfold givOk; rw [hsg]; rfl)
    rw [hsg] at CS
    clear hsg
    go_enter Try.func66, Try.ntmps66
    go_wp2_with (go_at_call 69; refine CS.out.mono ?_; rintro e w1 ⟨rfl, hB⟩; have HB := Lib.hid hB; clear hB)
    go_ret
    exact ⟨ret_b H.out.symm, HB.out⟩
  · rw [hsg] at CS
    have HSG := Lib.hid hsg
    clear hsg
    by_cases h2 : 60 < n
    · have H := Lib.hid (show R = false by rw [← HR.out]; unfold givOk; rw [decide_eq_false (by have := HLT.out; omega)]; simp)
      have CN2 := Lib.hid (CN.out n)
      rw [decide_eq_false (show ¬ (0 ≤ (n : Int) ∧ (n : Int) ≤ 60) by omega)] at CN2
      go_enter Try.func66, Try.ntmps66
      go_wp2_with (first
        | (go_at_call 69; refine CS.out.mono ?_; rintro e w1 ⟨rfl, hB⟩; have HB := Lib.hid hB; clear hB)
        | (go_at_call 40; refine (CN2.out _).mono ?_; rintro e w2 ⟨rfl, rfl⟩))
      go_ret
      exact ⟨ret_b H.out.symm, HB.out⟩
    · have CN2 := Lib.hid (CN.out n)
      rw [decide_eq_true (show 0 ≤ (n : Int) ∧ (n : Int) ≤ 60 by omega)] at CN2
      go_enter Try.func66, Try.ntmps66
      go_wp2_with (first
        | (go_at_call 69; refine CS.out.mono ?_; rintro e w1 ⟨rfl, hB⟩; have HB0 := Lib.hid hB; clear hB)
        | (go_at_call 40; refine (CN2.out _).mono ?_; rintro e w2 ⟨rfl, rfl⟩))
      go_loopw [18] (fun i wr => ∃ k : Nat, k ≤ n ∧ i = .int .i64 k ∧ valTo ss tt k ∧ Below w.heap.size w wr) (fun i _ => n - (intOf i).toNat)
      case atStart => exact ⟨0, Nat.zero_le _, rfl, valTo_zero _ _, HB0.out⟩
      case round =>
        obtain ⟨k, hk, rfl, hok, hB⟩ := hrel
        have HB := Lib.hid hB
        by_cases hlt : k < n
        · obtain ⟨b, off, A', n', c', t, rfl, hb, q1, q2, hI⟩ := HT.out.cellAt hlt
          have q3 := (hB.cell (p := ⟨b, off + k, none⟩) hb).trans q1
          have hk0 : (0 : Int) ≤ (k : Int) := by omega
          have hk1 : (k : Int) < (n : Int) := by omega
          have C := Lib.hid (fun c'' => CV.out wr hB A' n' c'' t ((hI.below hB).more hB.size))
          cases hto : valOk ss t
          · have H := Lib.hid (show R = false by rw [← HR.out]; unfold givOk; rw [val_bad' q2 hto]; simp)
            rw [hto] at C
            clear q1 q2 hI hto hok hB
            go_wp2_with (go_at_call 70; refine (C.out _).mono ?_; rintro e w3 ⟨rfl, hB3⟩; have HB3 := Lib.hid (below_then HB.out hB3); clear hB3)
            go_ret
            exact ⟨ret_b H.out.symm, HB3.out⟩
          · have H := Lib.hid (valTo_succ hok q2 hto)
            rw [hto] at C
            clear q1 q2 hI hto hok hB
            go_wp2_with (go_at_call 70; refine (C.out _).mono ?_; rintro e w3 ⟨rfl, hB3⟩; have HB3 := Lib.hid (below_then HB.out hB3); clear hB3)
            go_roundw
            case rel => exact ⟨k + 1, by omega, by go_num, H.out, HB3.out⟩
            case measure => simp [intOf]; omega
        · obtain rfl : k = n := by omega
          have H := Lib.hid (show R = true by rw [← HR.out]; unfold givOk; rw [HSG.out, valTo_all hok (by rw [← HLT.out]; exact Nat.le_refl _), decide_eq_true (by have := HLT.out; omega)]; rfl)
          clear hok hB
          go_wp2
          go_ret
          exact ⟨ret_b H.out.symm, HB.out⟩

/-- Canonical, in new memory. -/
theorem canonical_new (As At : Option Addr) (ns cs nt ct : Nat) (ss : Sg) (zs : List Int) (w : World) (hs : SigAt w w.heap.size As ns ss) (ht : IntsAt w w.heap.size At nt zs) (hv : valOk ss zs = true) :
    Calls Try.prog 73 #[.slice As ns cs, .slice At nt ct] w (RetF w (canon zs) 0) := by
  have C := Lib.hid (valid_any As At ns cs nt ct ss zs w hs ht)
  obtain ⟨h1, h2, h3, _⟩ := valOk_term hv
  have h4 := sigOk_len (valOk_sig hv)
  have hl := ht.len
  have C2 := Lib.hid (fun (w1 : World) (hB : Below w.heap.size w w1) => renamed_any At nt ct zs w1 ((ht.below hB).more hB.size) (by omega) (by omega) (fun z hz => by have := h3 z hz; omega))
  have HL := Lib.hid (show nt = (canon zs).length by rw [canon_length]; exact hl)
  have hm : (canon zs).length ≤ 1000000 := by rw [canon_length]; omega
  have hnt : nt ≤ 1000000 := by omega
  have HV := Lib.hid hv
  clear hv hs ht hl h3
  go_enter Try.func73, Try.ntmps73
  go_wp2_with (first
    | (go_at_call 70; refine C.out.mono ?_; rintro e w1 ⟨rfl, hB⟩; rw [HV.out]; have HB := Lib.hid hB)
    | (go_at_call 78; refine (C2.out _ HB.out).mono ?_; rintro e w2 ⟨rfl, hB2, hK⟩; have HB2 := Lib.hid hB2; have HK := Lib.hid hK))
  go_ret2
  exact ⟨_, _, _, rfl, IntsAt.of_blk HK.out HL.out hm, by omega, fun g e => (by cases e; exact HB.out.size), HB.out.trans (HB2.out.mono HB.out.size)⟩

set_option maxRecDepth 100000 in
set_option maxHeartbeats 1000000 in
/-- A step that cites. -/
theorem cites_any (Bs Bg : Nat) (As Ag : Option Addr) (ns cs ng cg : Nat) (ss : Sg) (ls : List Hd) (gg : List (List Int)) (a y : Nat) (t : List Int) (w : World) (ks : Blk w Bs 44 #[.slice As ns cs]) (kg : Blk w Bg 46 #[.slice Ag ng cg])
    (hs : SigAt w w.heap.size As ns ss) (hg : TermsAt w w.heap.size Ag ng ls gg) (ht : gg[a]? = some t) (hv : valOk ss t = true) :
    Calls Try.prog 72 #[.agg #[.int .i64 1, .int .i64 (a : Int), .int .i64 (y : Int)], .pointer (some ⟨Bs, 0, none⟩), .pointer (some ⟨Bg, 0, none⟩)] w (RetF w (canon t) 0) := by
  obtain ⟨ha, rfl⟩ := List.getElem?_eq_some_iff.1 ht
  have han : a < ng := by rw [hg.len]; exact ha
  obtain ⟨b, off, A', n', c', t', rfl, hb, q1, q2, hI⟩ := hg.cellAt han
  rw [ht] at q2
  cases q2
  have hB : Below w.heap.size w (w.alloc (.cells #[.int .i64 1, .int .i64 (a : Int), .int .i64 (y : Int)] 33)) := bel_al0 w _
  have C := Lib.hid (fun V (h : Below w.heap.size w V) => canonical_new As A' ns cs n' c' ss gg[a] V (hs.up h) (hI.up h) hv)
  have s0 := (hB.cell (p := ⟨Bs, 0, none⟩) ks.lt).trans (ks.cell 0)
  have g0 := (hB.cell (p := ⟨Bg, 0, none⟩) kg.lt).trans (kg.cell 0)
  have c0 := (hB.cell (p := ⟨b, off + a, none⟩) hb).trans q1
  have k0 := Blk.new w 33 #[.int .i64 1, .int .i64 (a : Int), .int .i64 (y : Int)]
  have k1 := k0.cell 1
  simp only [List.getElem?_toArray, List.getElem?_cons_zero, List.getElem?_cons_succ] at k1 s0 g0
  have h0 : (0 : Int) ≤ (a : Int) := by omega
  have h1 : (a : Int) < (ng : Int) := by omega
  have l1 := Nat.lt_of_lt_of_le ks.lt hB.size
  have l2 := Nat.lt_of_lt_of_le kg.lt hB.size
  have l3 := k0.lt
  have l4 := Nat.lt_of_lt_of_le hb hB.size
  have HB := Lib.hid hB
  obtain ⟨T, hT⟩ : ∃ T, canon gg[a] = T := ⟨_, rfl⟩
  rw [hT] at C ⊢
  clear ks kg hs hg ht hv q1 hI hB k0 hT ha han
  go_enter Try.func72, Try.ntmps72
  go_wp2_with fail
  go_region_held3 (fun w' => w'.cell? ⟨Bs, 0, none⟩ = some (.slice As ns cs) ∧ w'.cell? ⟨Bg, 0, none⟩ = some (.slice (some ⟨b, off, none⟩) ng cg) ∧ w'.cell? ⟨w.heap.size, 1, none⟩ = some (.int .i64 (a : Int)) ∧ w'.cell? ⟨b, off + a, none⟩ = some (.slice A' n' c'))
    (first | exact ⟨s0, g0, k1, c0⟩ | exact ⟨z1, z2, z3, z4⟩)
    ((go_at_call 73; ((with_reducible refine (C.out _ HB.out.drew).mono ?_); rintro e w3 ⟨A3, n3, c3, rfl, hI3, hc3, hf3, hB3⟩); have z1 := (hB3.cell (p := ⟨Bs, 0, none⟩) l1).trans s0; have z2 := (hB3.cell (p := ⟨Bg, 0, none⟩) l2).trans g0; have z3 := (hB3.cell (p := ⟨w.heap.size, 1, none⟩) l3).trans k1; have z4 := (hB3.cell (p := ⟨b, off + a, none⟩) l4).trans c0; have HI3 := Lib.hid hI3; have HC3 := Lib.hid hc3; have HF3 := Lib.hid (fun g hg => Nat.le_trans HB.out.size (hf3 g hg)); have HB3 := Lib.hid (below_then HB.out.drew hB3); clear hI3 hc3 hf3 hB3))
  all_goals
    go_wp2_with fail
    go_ret2
    exact ⟨_, _, _, rfl, HI3.out, HC3.out, HF3.out, HB3.out⟩

set_option maxRecDepth 100000 in
set_option maxHeartbeats 1000000 in
/-- A step that detaches. -/
theorem detaches_step (Bs Be : Nat) (As Ae : Option Addr) (ns cs ne ce : Nat) (ss : Sg) (ls : List Hd) (tt : List (List Int)) (a y : Nat) (ta ty : List Int) (w : World) (ks : Blk w Bs 44 #[.slice As ns cs]) (ke : Blk w Be 46 #[.slice Ae ne ce])
    (hs : SigAt w w.heap.size As ns ss) (hg : TermsAt w w.heap.size Ae ne ls tt) (hcap : ∀ x ∈ ls, capOk x) (ha : tt[a]? = some ta) (hy : tt[y]? = some ty) :
    Calls Try.prog 74 #[.agg #[.int .i64 2, .int .i64 (a : Int), .int .i64 (y : Int)], .pointer (some ⟨Bs, 0, none⟩), .pointer (some ⟨Be, 0, none⟩)] w (RetF w (detZ ss ta ty).1 (detZ ss ta ty).2) := by
  obtain ⟨ha1, ha2⟩ := List.getElem?_eq_some_iff.1 ha
  obtain ⟨hy1, hy2⟩ := List.getElem?_eq_some_iff.1 hy
  have hln := hg.len
  have hll := hg.hds.len
  obtain ⟨b, off, eA, hb, hc⟩ := hg.hds.mem (by omega)
  subst eA
  have hae : a < ls.length := by omega
  have hye : y < ls.length := by omega
  have q1 := hc a hae
  have q2 := hc y hye
  have i1 := hg.each a hae ha1
  have i2 := hg.each y hye hy1
  have cp := hcap _ (List.getElem_mem hae)
  rw [ha2] at i1
  rw [hy2] at i2
  obtain ⟨⟨A1, n1, c1⟩, e1⟩ : ∃ x, ls[a] = x := ⟨_, rfl⟩
  obtain ⟨⟨A2, n2, c2⟩, e2⟩ : ∃ x, ls[y] = x := ⟨_, rfl⟩
  rw [e1] at q1 i1 cp
  rw [e2] at q2 i2
  simp only at q1 q2 i1 i2
  have hB : Below w.heap.size w (w.alloc (.cells #[.int .i64 2, .int .i64 (a : Int), .int .i64 (y : Int)] 33)) := bel_al0 w _
  have C := Lib.hid (fun V (h : Below w.heap.size w V) => kdetach_new As A1 A2 ns cs n1 c1 n2 c2 ss ta ty V (hs.up h) (i1.up h) (i2.up h) cp.1 cp.2)
  have s0 := (hB.cell (p := ⟨Bs, 0, none⟩) ks.lt).trans (ks.cell 0)
  have g0 := (hB.cell (p := ⟨Be, 0, none⟩) ke.lt).trans (ke.cell 0)
  have d1 := (hB.cell (p := ⟨b, off + a, none⟩) hb).trans q1
  have d2 := (hB.cell (p := ⟨b, off + y, none⟩) hb).trans q2
  have k0 := Blk.new w 33 #[.int .i64 2, .int .i64 (a : Int), .int .i64 (y : Int)]
  have k1 := k0.cell 1
  have k2 := k0.cell 2
  simp only [List.getElem?_toArray, List.getElem?_cons_zero, List.getElem?_cons_succ] at k1 k2 s0 g0
  have h0 : (0 : Int) ≤ (a : Int) := by omega
  have h1 : (a : Int) < (ne : Int) := by omega
  have h2 : (0 : Int) ≤ (y : Int) := by omega
  have h3 : (y : Int) < (ne : Int) := by omega
  have l1 := Nat.lt_of_lt_of_le ks.lt hB.size
  have l2 := Nat.lt_of_lt_of_le ke.lt hB.size
  have l3 := k0.lt
  have l4 := Nat.lt_of_lt_of_le hb hB.size
  have HB := Lib.hid hB
  obtain ⟨T, hT⟩ : ∃ T, (detZ ss ta ty).1 = T := ⟨_, rfl⟩
  obtain ⟨E, hE⟩ : ∃ E, (detZ ss ta ty).2 = E := ⟨_, rfl⟩
  rw [hT, hE] at C ⊢
  clear ks ke hs hg ha hy q1 q2 i1 i2 hB k0 hT hE ha1 ha2 hy1 hy2 hln hll hc hae hye cp e1 e2 hcap
  go_enter Try.func74, Try.ntmps74
  go_wp2_with fail
  go_region_held3 (fun w' => w'.cell? ⟨Bs, 0, none⟩ = some (.slice As ns cs) ∧ w'.cell? ⟨Be, 0, none⟩ = some (.slice (some ⟨b, off, none⟩) ne ce) ∧ w'.cell? ⟨w.heap.size, 1, none⟩ = some (.int .i64 (a : Int)) ∧ w'.cell? ⟨w.heap.size, 2, none⟩ = some (.int .i64 (y : Int)) ∧ w'.cell? ⟨b, off + a, none⟩ = some (.slice A1 n1 c1) ∧ w'.cell? ⟨b, off + y, none⟩ = some (.slice A2 n2 c2))
    (first | exact ⟨s0, g0, k1, k2, d1, d2⟩ | exact ⟨z1, z2, z3, z4, z5, z6⟩)
    ((go_at_call 75; ((with_reducible refine (C.out _ HB.out.drew).mono ?_); rintro e w3 ⟨A3, n3, c3, rfl, hI3, hc3, hf3, hB3⟩); have z1 := (hB3.cell (p := ⟨Bs, 0, none⟩) l1).trans s0; have z2 := (hB3.cell (p := ⟨Be, 0, none⟩) l2).trans g0; have z3 := (hB3.cell (p := ⟨w.heap.size, 1, none⟩) l3).trans k1; have z4 := (hB3.cell (p := ⟨w.heap.size, 2, none⟩) l3).trans k2; have z5 := (hB3.cell (p := ⟨b, off + a, none⟩) l4).trans d1; have z6 := (hB3.cell (p := ⟨b, off + y, none⟩) l4).trans d2; have HI3 := Lib.hid hI3; have HC3 := Lib.hid hc3; have HF3 := Lib.hid (fun g hg => Nat.le_trans HB.out.size (hf3 g hg)); have HB3 := Lib.hid (below_then HB.out.drew hB3); clear hI3 hc3 hf3 hB3))
  all_goals
    go_wp2_with fail
    go_ret2
    exact ⟨_, _, _, rfl, HI3.out, HC3.out, HF3.out, HB3.out⟩

end Go.Proofs.Ytojofbmpknpggaa
