/- Contract: the reference's Untree, which goes by a stack (pure facts of a round). -/
import Derived.Test.YtippmpcaongolaaPFg
import Derived.Test.YtippmpcaongolaaTEg
import Derived.WalkSmall
import Derived.Laws.OwnMore
import Derived.Test.YtippmpcaongolaaPYg
import Derived.Test.YtippmpcaongolaaQGg
/- The reference's reader goes by a stack; it makes of a text what the program's does (pure). -/
namespace Go.Proofs.Ytippmpcaongolaa
open Go.RowKit

/-- The stack of the detachments that have begun: for each, the major if it has ended. The last begun is first. -/
abbrev Stk := List (Option Nat)
/-- A part has ended: this may end others. Nothing: the whole has ended. -/
def retS : Stk → List Stp → Nat → Option Stk × List Stp
  | [], P, _ => (none, P)
  | none :: O, P, a => (some (some a :: O), P)
  | some m :: O, P, a => retS O (placeS P (2, (m : Int), (a : Int))).2 (placeS P (2, (m : Int), (a : Int))).1
/-- What the reader by a stack makes of a text, with what it knows. -/
def mach (g : Int) : Nat → List Stp → Stk → List UInt8 → Option (List Stp)
  | 0, _, _, _ => none
  | f + 1, P, O, l =>
    if l.head? = some 68 then mach g f P (none :: O) l.tail
    else if (citF g l).2 = true then
      match retS O (placeS P (1, (citF g l).1, 0)).2 (placeS P (1, (citF g l).1, 0)).1 with
      | (none, P') => if (l.drop 3).isEmpty then some P' else none
      | (some O', P') => mach g f P' O' (l.drop 3)
    else none
def aftS (g : Int) (f : Nat) (r : Option Stk × List Stp) (l : List UInt8) : Option (List Stp) :=
  match r with
  | (none, P') => if l.isEmpty then some P' else none
  | (some O', P') => mach g f P' O' l
theorem mach_succ (g : Int) (f : Nat) (P : List Stp) (O : Stk) (l : List UInt8) : mach g (f + 1) P O l =
    if l.head? = some 68 then mach g f P (none :: O) l.tail
    else if (citF g l).2 = true then aftS g f (retS O (placeS P (1, (citF g l).1, 0)).2 (placeS P (1, (citF g l).1, 0)).1) (l.drop 3) else none := rfl
theorem mach_fuel (g : Int) : ∀ (f : Nat) (P : List Stp) (O : Stk) (l : List UInt8), l.length ≤ f → mach g (f + 1) P O l = mach g f P O l
  | 0, P, O, l, h => by
    obtain rfl : l = [] := List.length_eq_zero_iff.1 (by omega)
    rfl
  | f + 1, P, O, l, h => by
    have ih := mach_fuel g f
    rw [mach_succ g (f + 1) P O l, mach_succ g f P O l]
    by_cases hd : l.head? = some 68
    · rw [if_pos hd, if_pos hd]
      have e := congrArg List.length (head_68 hd)
      rw [List.length_cons] at e
      exact ih _ _ _ (by omega)
    · rw [if_neg hd, if_neg hd]
      by_cases hc : (citF g l).2 = true
      · rw [if_pos hc, if_pos hc]
        have h3 := (citF_ok hc).1
        obtain ⟨r, hr⟩ : ∃ r, retS O (placeS P (1, (citF g l).1, 0)).2 (placeS P (1, (citF g l).1, 0)).1 = r := ⟨_, rfl⟩
        rw [hr]
        obtain ⟨o, P'⟩ := r
        cases o with
        | none => rfl
        | some O' => exact ih P' O' (l.drop 3) (by rw [List.length_drop]; omega)
      · rw [if_neg hc, if_neg hc]
theorem mach_more {g : Int} {f : Nat} {P : List Stp} {O : Stk} {l : List UInt8} (h : l.length ≤ f) : ∀ m, mach g (f + m) P O l = mach g f P O l
  | 0 => rfl
  | m + 1 => by rw [← Nat.add_assoc, mach_fuel g (f + m) P O l (by omega), mach_more h m]
theorem mach_any {g : Int} {f f' : Nat} {P : List Stp} {O : Stk} {l : List UInt8} (h : l.length ≤ f) (h' : l.length ≤ f') : mach g f P O l = mach g f' P O l := by
  rw [← Nat.add_sub_cancel' h, ← Nat.add_sub_cancel' h', mach_more (Nat.le_refl _), mach_more (Nat.le_refl _)]
/-- The stack's reader goes on behind a part as the other one hands it back. -/
theorem mach_plant (g : Int) : ∀ (f : Nat) (P : List Stp) (l : List UInt8), l.length < f → ∀ (O : Stk) (m : Nat), l.length ≤ m →
    mach g m P O l = match (plant g f P l).1 with
      | none => none
      | some a => aftS g m (retS O (plant g f P l).2.1 a) (plant g f P l).2.2
  | 0, P, l, h, _, _, _ => by omega
  | f + 1, P, l, h, O, m, hm => by
    have ih := mach_plant g f
    rw [plant_succ, mach_any hm (show l.length ≤ m + 1 by omega), mach_succ]
    by_cases hd : l.head? = some 68
    · rw [if_pos hd, if_pos hd]
      have e := congrArg List.length (head_68 hd)
      rw [List.length_cons] at e
      rw [ih P l.tail (by omega) (none :: O) m (by omega)]
      have h1 := plant_le g f P l.tail
      obtain ⟨q, hq⟩ : ∃ q, plant g f P l.tail = q := ⟨_, rfl⟩
      rw [hq] at h1 ⊢
      obtain ⟨o, P1, l1⟩ := q
      have h2 := h1.less
      simp only at h2
      cases o with
      | none => rfl
      | some a =>
        show mach g m P1 (some a :: O) l1 = _
        rw [ih P1 l1 (by omega) (some a :: O) m (by omega)]
        show _ = match (plantB a (plant g f P1 l1)).1 with | none => none | some c => aftS g m (retS O (plantB a (plant g f P1 l1)).2.1 c) (plantB a (plant g f P1 l1)).2.2
        obtain ⟨q, hq⟩ : ∃ q, plant g f P1 l1 = q := ⟨_, rfl⟩
        rw [hq]
        obtain ⟨o, P2, l2⟩ := q
        cases o with
        | none => rfl
        | some b => rfl
    · rw [if_neg hd, if_neg hd]
      unfold plantC
      by_cases hc : (citF g l).2 = true
      · rw [if_pos hc, if_pos hc]
      · rw [if_neg hc, if_neg hc]
/-- What the reader by a stack makes of a whole text. -/
def machZ (g : Int) (l : List UInt8) : List Stp × Int :=
  if ¬ (0 ≤ g ∧ g ≤ 60) then ([], 1)
  else if 65536 < l.length then ([], 3)
  else match mach g l.length [] [] l with
    | none => ([], 2)
    | some P => if 60 < P.length then ([], 4) else (P, 0)
theorem machZ_is (g : Int) (l : List UInt8) : machZ g l = untreeZ g l := by
  unfold machZ untreeZ
  by_cases h1 : ¬ (0 ≤ g ∧ g ≤ 60)
  · rw [if_pos h1, if_pos h1]
  · rw [if_neg h1, if_neg h1]
    by_cases h2 : 65536 < l.length
    · rw [if_pos h2, if_pos h2]
    · rw [if_neg h2, if_neg h2, mach_plant g (l.length + 1) [] l (by omega) [] l.length (Nat.le_refl _)]
      obtain ⟨q, hq⟩ : ∃ q, plant g (l.length + 1) [] l = q := ⟨_, rfl⟩
      rw [hq]
      obtain ⟨o, P1, l1⟩ := q
      cases o with
      | none => rfl
      | some a =>
        cases l1 with
        | nil => rfl
        | cons c r => rfl

end Go.Proofs.Ytippmpcaongolaa

/- What the reader of trees has read, its tree's text is (pure). -/
namespace Go.Proofs.Ytippmpcaongolaa
open Go.RowKit

theorem dig_ofNat {b : UInt8} (h : digB b = true) : ∃ m : Nat, m < 10 ∧ (b.toNat : Int) - 48 = (m : Int) ∧ UInt8.ofNat (48 + m) = b := by
  unfold digB at h
  rw [Bool.and_eq_true, decide_eq_true_iff, decide_eq_true_iff] at h
  refine ⟨b.toNat - 48, by omega, by omega, ?_⟩
  rw [show 48 + (b.toNat - 48) = b.toNat by omega, UInt8.ofNat_toNat]
theorem citF_text {g : Int} {l : List UInt8} (h : (citF g l).2 = true) : ∃ y : Nat, (citF g l).1 = (y : Int) ∧ (y : Int) < g ∧ l = citT (y : Int) ++ l.drop 3 := by
  unfold citF at h ⊢
  split at h
  · rename_i a b c r
    split at h
    · rename_i hc
      simp only [if_pos hc]
      rw [Bool.and_eq_true, Bool.and_eq_true, decide_eq_true_iff] at hc
      obtain ⟨⟨ha, hb⟩, hcc⟩ := hc
      obtain ⟨m, m1, m2, m3⟩ := dig_ofNat hb
      obtain ⟨n, n1, n2, n3⟩ := dig_ofNat hcc
      rw [m2, n2] at h ⊢
      simp only [decide_eq_true_iff] at h
      refine ⟨10 * m + n, by omega, by omega, ?_⟩
      have e1 : a = 103 := by
        have : a.toNat = 103 := by omega
        rw [← UInt8.ofNat_toNat (x := a), this]
        rfl
      unfold citT
      rw [Int.toNat_natCast, show (10 * m + n) / 10 = m by omega, show (10 * m + n) % 10 = n by omega, m3, n3, e1]
      rfl
    · cases h
  · cases h
theorem place_good {g : Int} {P : List Stp} {x : Stp} (h : stepsTo g P P.length) (hx : stepOk g P.length x = true) :
    stepsTo g (placeS P x).2 (placeS P x).2.length ∧ (∃ S, (placeS P x).2 = P ++ S) ∧ (placeS P x).1 < (placeS P x).2.length ∧ (placeS P x).2[(placeS P x).1]? = some x := by
  unfold placeS
  by_cases hc : P.contains x = true
  · rw [if_pos hc]
    have hl := List.idxOf_lt_length_iff.2 (List.contains_iff_mem.1 hc)
    exact ⟨h, ⟨[], by simp⟩, hl, by rw [List.getElem?_eq_getElem hl, List.getElem_idxOf hl]⟩
  · rw [if_neg hc]
    exact ⟨stepsTo_snoc h hx, ⟨[x], rfl⟩, by simp, by simp⟩
/-- What the reader read is the tree's text. -/
theorem plant_text {g : Int} : ∀ (f : Nat) (P : List Stp) (l : List UInt8) (a : Nat) (P1 : List Stp) (l1 : List UInt8), stepsTo g P P.length → plant g f P l = (some a, P1, l1) →
    stepsTo g P1 P1.length ∧ (∃ S, P1 = P ++ S) ∧ a < P1.length ∧ l = treT P1 a ++ l1
  | 0, P, l, a, P1, l1, _, h => by cases h
  | f + 1, P, l, a, P1, l1, hP, h => by
    rw [plant_succ] at h
    by_cases hd : l.head? = some 68
    · rw [if_pos hd] at h
      obtain ⟨q, hq⟩ : ∃ q, plant g f P l.tail = q := ⟨_, rfl⟩
      rw [hq] at h
      obtain ⟨o, P2, l2⟩ := q
      cases o with
      | none => cases h
      | some c =>
        obtain ⟨c1, ⟨S1, c2⟩, c3, c4⟩ := plant_text f P l.tail c P2 l2 hP hq
        replace h : plantB c (plant g f P2 l2) = (some a, P1, l1) := h
        obtain ⟨q, hq2⟩ : ∃ q, plant g f P2 l2 = q := ⟨_, rfl⟩
        rw [hq2] at h
        obtain ⟨o, P3, l3⟩ := q
        cases o with
        | none => cases h
        | some d =>
          obtain ⟨d1, ⟨S2, d2⟩, d3, d4⟩ := plant_text f P2 l2 d P3 l3 c1 hq2
          have hcl : c < P3.length := by rw [d2, List.length_append]; omega
          have hso : stepOk g (P3.length : Int) (2, (c : Int), (d : Int)) = true := by
            unfold stepOk
            rw [if_neg (by simp), if_pos rfl, decide_eq_true (show 0 ≤ (c : Int) ∧ (c : Int) < (P3.length : Int) by omega), decide_eq_true (show 0 ≤ (d : Int) ∧ (d : Int) < (P3.length : Int) by omega)]
            rfl
          obtain ⟨q1, ⟨S3, q2⟩, q3, q4⟩ := place_good d1 hso
          simp only [plantB, Prod.mk.injEq, Option.some.injEq] at h
          obtain ⟨rfl, rfl, rfl⟩ := h
          refine ⟨q1, ⟨S1 ++ S2 ++ S3, by rw [q2, d2, c2]; simp⟩, q3, ?_⟩
          rcases stepOk_num (q1 _ q3 _ q4) with ⟨z1, _⟩ | ⟨_, z2, z3, z4, z5⟩
          · simp at z1
          · simp only at z3 z5
            rw [treT_det q4 (by omega) (by omega), q2, treT_pre _ hcl, treT_pre _ d3, d2, treT_pre _ c3, ← d2, head_68 hd, c4, d4, d2]
            simp
    · rw [if_neg hd] at h
      unfold plantC at h
      by_cases hc : (citF g l).2 = true
      · rw [if_pos hc] at h
        obtain ⟨y, y1, y2, y3⟩ := citF_text hc
        rw [y1] at h
        have hso : stepOk g (P.length : Int) (1, (y : Int), 0) = true := by
          unfold stepOk
          rw [if_pos rfl, decide_eq_true (show 0 ≤ (y : Int) ∧ (y : Int) < g from ⟨by omega, y2⟩)]
          rfl
        obtain ⟨q1, q2, q3, q4⟩ := place_good hP hso
        simp only [Prod.mk.injEq, Option.some.injEq] at h
        obtain ⟨rfl, rfl, rfl⟩ := h
        exact ⟨q1, q2, q3, by rw [treT_cite q4]; exact y3⟩
      · rw [if_neg hc] at h
        cases h
/-- The tree of what Untree has read is the text. -/
theorem tree_untree {g : Int} {l : List UInt8} (h : (untreeZ g l).2 = 0) : treZ g (untreeZ g l).1 = (l, 0) := by
  unfold untreeZ at h ⊢
  split at h
  · cases h
  · rename_i h1
    split at h
    · cases h
    · rename_i h2
      split at h
      · cases h
      · rename_i h3
        split at h
        · cases h
        · rename_i h4
          rw [if_neg h1, if_neg h2, if_neg h3, if_neg h4]
          have hg : 0 ≤ g ∧ g ≤ 60 := Classical.not_not.1 h1
          obtain ⟨q, hq⟩ : ∃ q, plant g (l.length + 1) [] l = q := ⟨_, rfl⟩
          rw [hq] at h3 h4 ⊢
          obtain ⟨o, P1, l1⟩ := q
          cases o with
          | none => simp at h3
          | some a =>
            cases l1 with
            | cons c r => simp at h3
            | nil =>
              obtain ⟨p1, _, p3, p4⟩ := plant_text _ [] l a P1 [] (fun j hj => by simp at hj) hq
              rw [List.append_nil] at p4
              obtain ⟨i, P', e1, e2, _, e4, e5, e6⟩ := plant_tree hg.2 p1 a p3 (l.length + 1) [] [] (ReadIs.nil g P1) (by rw [List.append_nil, ← p4]; omega)
              rw [List.append_nil, ← p4, hq] at e1
              simp only [Prod.mk.injEq, Option.some.injEq, and_true] at e1
              obtain ⟨rfl, rfl⟩ := e1
              have hal : a + 1 = P1.length := by
                rcases e6 a (by simp) p3 with hh | ⟨_, hh⟩
                · omega
                · exact hh
              simp only at h4 ⊢
              unfold treZ
              rw [if_pos (proofOk_all hg (by omega) p1), show P1.length - 1 = a by omega, ← p4, if_neg h2]

end Go.Proofs.Ytippmpcaongolaa

/- The reader by a stack, in memory: its map, its steps, its stack, the step that it places. -/
namespace Go.Proofs.Ytippmpcaongolaa
open Go.RowKit

/-- A mark of the stack. -/
def encK : Option Nat → Value
  | none => .int .i64 (-1)
  | some m => .int .i64 (m : Int)
def stkV (O : Stk) : List Value := O.reverse.map encK
theorem stkV_len (O : Stk) : (stkV O).length = O.length := by simp [stkV]
theorem stkV_cons (t : Option Nat) (O : Stk) : stkV (t :: O) = stkV O ++ [encK t] := by simp [stkV]
structure SAt (w : World) (N bm : Nat) (v o : Value) (M P : List Stp) (O : Stk) : Prop where
  mm : StepMap w bm M
  row : w.ownsRow N 123 3 v P.length (flatS P)
  stk : w.ownsRow N 3 1 o O.length (stkV O)
  hm : bm < N
  hN : N ≤ w.heap.size
  vo : ∀ k, v.ownBlock = some k → o.ownBlock ≠ some k
section
variable {w w1 w' : World} {N bm : Nat} {v v' o o' : Value} {M M' P : List Stp} {O : Stk}
theorem SAt.frame (h : SAt w N bm v o M P O) (hs : w.heap.size ≤ w'.heap.size) (hk : ∀ b, b = bm ∨ v.ownBlock = some b ∨ o.ownBlock = some b → w'.heap[b]? = w.heap[b]?) : SAt w' N bm v o M P O :=
  ⟨h.mm.same (hk _ (.inl rfl)), ownsRow_movedK h.row fun _ e => hk _ (.inr (.inl e)), ownsRow_movedK h.stk fun _ e => hk _ (.inr (.inr e)), h.hm, Nat.le_trans h.hN hs, h.vo⟩
theorem SAt.lts (h : SAt w N bm v o M P O) : bm < w.heap.size ∧ (∀ k, v.ownBlock = some k → N ≤ k ∧ k < w.heap.size) ∧ ∀ k, o.ownBlock = some k → N ≤ k ∧ k < w.heap.size :=
  ⟨h.mm.lt, fun k hk => h.row.lt k hk, fun k hk => h.stk.lt k hk⟩
theorem SAt.up (h : SAt w N bm v o M P O) (hb : Below w.heap.size w w') : SAt w' N bm v o M P O :=
  h.frame hb.size fun b hb' => hb.block b (by
    obtain ⟨l1, l2, l3⟩ := h.lts
    rcases hb' with rfl | e | e
    · exact l1
    · exact (l2 _ e).2
    · exact (l3 _ e).2)
theorem SAt.set (h : SAt w N bm v o M P O) {sb i : Nat} (hs : N ≤ sb) (hv : v.ownBlock ≠ some sb) (ho : o.ownBlock ≠ some sb) (u : Value) : SAt (w.setCell ⟨sb, i, none⟩ u) N bm v o M P O :=
  h.frame (by simp) fun b hb => heap_setCell_other w ⟨sb, i, none⟩ b u (by
    show b ≠ sb
    have := h.hm
    rcases hb with rfl | e | e
    · omega
    · exact fun e2 => hv (by rw [← e2]; exact e)
    · exact fun e2 => ho (by rw [← e2]; exact e))
theorem SAt.met (h : SAt w N bm v o M P O) (hm : StepMap w' bm M') (hg : w.grownBy w' (some bm)) : SAt w' N bm v o M' P O := by
  obtain ⟨l1, l2, l3⟩ := h.lts
  have hb := h.hm
  have hk : ∀ b, b < w.heap.size → b ≠ bm → w'.heap[b]? = w.heap[b]? := fun b hb hne => hg.block b hb (fun e => hne (Option.some.inj e))
  exact ⟨hm, ownsRow_movedK h.row fun k e => hk _ (l2 k e).2 (by have := (l2 k e).1; omega), ownsRow_movedK h.stk fun k e => hk _ (l3 k e).2 (by have := (l3 k e).1; omega), h.hm, Nat.le_trans h.hN hg.size, h.vo⟩
theorem SAt.snoc (h : SAt w N bm v o M P O) (ha : Below w.heap.size w w1) {x : Stp} (hown : w'.ownsRow N 123 3 v' (P.length + 1) (flatS P ++ [.int .i64 x.1, .int .i64 x.2.1, .int .i64 x.2.2])) (hg : w1.grownBy w' v.ownBlock) (ho : v'.ownBlock = v.ownBlock ∨ v'.ownBlock = some w1.heap.size) : SAt w' N bm v' o M (P ++ [x]) O := by
  have h1 := h.up ha
  obtain ⟨l1, l2, l3⟩ := h1.lts
  have hb := h.hm
  refine ⟨h1.mm.same (hg.block _ l1 fun e => ?_), by rw [List.length_append, List.length_singleton, flatS_snoc]; exact hown, ownsRow_movedK h1.stk fun k e => hg.block _ (l3 k e).2 fun e2 => h.vo k e2.symm e, h.hm, Nat.le_trans h1.hN hg.size, fun k hk => ?_⟩
  · have := (l2 _ e.symm).1; omega
  · rcases ho with e | e
    · exact h.vo k (by rw [← e]; exact hk)
    · rw [e] at hk
      cases hk
      exact fun e3 => by have := (l3 _ e3).2; omega
theorem SAt.push (h : SAt w N bm v o M P O) (ha : Below w.heap.size w w1) {t : Option Nat} (hown : w'.ownsRow N 3 1 o' (O.length + 1) (stkV O ++ [encK t])) (hg : w1.grownBy w' o.ownBlock) (ho : o'.ownBlock = o.ownBlock ∨ o'.ownBlock = some w1.heap.size) : SAt w' N bm v o' M P (t :: O) := by
  have h1 := h.up ha
  obtain ⟨l1, l2, l3⟩ := h1.lts
  have hb := h.hm
  refine ⟨h1.mm.same (hg.block _ l1 fun e => ?_), ownsRow_movedK h1.row fun k e => hg.block _ (l2 k e).2 fun e2 => h.vo k e e2.symm, by rw [List.length_cons, stkV_cons]; exact hown, h.hm, Nat.le_trans h1.hN hg.size, fun k hk e4 => ?_⟩
  · have := (l3 _ e.symm).1; omega
  · rcases ho with e | e
    · exact h.vo k hk (by rw [← e]; exact e4)
    · rw [e] at e4
      cases e4
      have := (l2 _ hk).2
      omega
theorem SAt.top {gb c : Nat} {t t' : Option Nat} (h : SAt w N bm v (.slice (some ⟨gb, 0, none⟩) (O.length + 1) c) M P (t :: O)) : SAt (w.setCell ⟨gb, O.length, none⟩ (encK t')) N bm v (.slice (some ⟨gb, 0, none⟩) (O.length + 1) c) M P (t' :: O) := by
  obtain ⟨l1, l2, l3⟩ := h.lts
  have hb := h.hm
  have hg := (l3 gb rfl).1
  have hs := (World.ownsRow.stored (show w.ownsRow N 3 1 (.slice (some ⟨gb, 0, none⟩) (O.length + 1) c) (O.length + 1) (stkV (t :: O)) from h.stk) O.length (encK t')).1
  rw [stkV_cons, List.set_append_right _ _ (by rw [stkV_len]; exact Nat.le_refl _), stkV_len, Nat.sub_self] at hs
  refine ⟨h.mm.same (heap_setCell_other w ⟨gb, O.length, none⟩ bm _ (show bm ≠ gb by omega)), ownsRow_movedK h.row fun k e => heap_setCell_other w ⟨gb, O.length, none⟩ k _ (show k ≠ gb from fun e2 => h.vo k e (by rw [e2]; rfl)), by rw [List.length_cons, stkV_cons]; exact hs, h.hm, Nat.le_trans h.hN (by simp), h.vo⟩
theorem SAt.pop {gb c : Nat} {t : Option Nat} (h : SAt w N bm v (.slice (some ⟨gb, 0, none⟩) (O.length + 1) c) M P (t :: O)) : SAt w N bm v (.slice (some ⟨gb, 0, none⟩) O.length c) M P O := by
  have hs : w.ownsRow N 3 1 (.slice (some ⟨gb, 0, none⟩) (O.length + 1) c) (O.length + 1) (stkV (t :: O)) := h.stk
  rw [stkV_cons] at hs
  exact ⟨h.mm, h.row, ownsRow_pop (by rw [stkV_len, Nat.mul_one]) hs, h.hm, h.hN, h.vo⟩
theorem SAt.form {t : Option Nat} (h : SAt w N bm v o M P (t :: O)) : ∃ gb c, o = .slice (some ⟨gb, 0, none⟩) (O.length + 1) c ∧ N ≤ gb ∧ gb < w.heap.size ∧ O.length + 1 ≤ c ∧ c ≤ maxLen ∧ w.cell? ⟨gb, O.length, none⟩ = some (encK t) ∧ w.frozen? ⟨gb, O.length, none⟩ = false := by
  have hs : w.ownsRow N 3 1 o (O.length + 1) (stkV (t :: O)) := h.stk
  obtain ⟨gb, c, rfl, h1, h2⟩ := hs.form (by omega)
  have hc : O.length + 1 ≤ c ∧ c ≤ maxLen := by
    rcases hs.2 with ⟨h0, _⟩ | ⟨g', cap', cur, hv, _, _, a1, a2, _⟩
    · cases h0
    · cases hv
      exact ⟨a1, a2⟩
  refine ⟨gb, c, rfl, h1, h2, hc.1, hc.2, ?_, hs.frozenAt _⟩
  rw [hs.cellAt _ (by omega), stkV_cons, List.getElem?_append_right (by rw [stkV_len]; exact Nat.le_refl _), stkV_len, Nat.sub_self]
  rfl
theorem SAt.topc {gb n c : Nat} {t : Option Nat} (h : SAt w N bm v (.slice (some ⟨gb, 0, none⟩) n c) M P (t :: O)) (_hn : (t :: O).length = n) : w.cell? ⟨gb, n - 1, none⟩ = some (encK t) ∧ w.frozen? ⟨gb, n - 1, none⟩ = false := by
  obtain ⟨gb', c', e, _, _, _, _, h1, h2⟩ := h.form
  cases e
  rw [Nat.add_sub_cancel]
  exact ⟨h1, h2⟩
end
/-- The step that is placed lies in a box of its own. -/
structure XAt (w : World) (N bx : Nat) (v o : Value) (x : Stp) : Prop where
  box : Blk w bx 123 #[.int .i64 x.1, .int .i64 x.2.1, .int .i64 x.2.2]
  hx : N ≤ bx
  av : v.ownBlock ≠ some bx
  ao : o.ownBlock ≠ some bx
theorem XAt.snoc {w w' : World} {N bx : Nat} {v v' o : Value} {x : Stp} {ob : Obj} (h : XAt w N bx v o x) (hb : bx < w.heap.size) (hg : (w.alloc ob).grownBy w' v.ownBlock) (ho : v'.ownBlock = v.ownBlock ∨ v'.ownBlock = some (w.alloc ob).heap.size) : XAt w' N bx v' o x := by
  refine ⟨(h.box.below (bel_al0 w ob) hb).grown hg (fun e => h.av e.symm), h.hx, fun e => ?_, h.ao⟩
  rcases ho with h1 | h1
  · exact h.av (by rw [← h1]; exact e)
  · rw [h1, World.size_alloc] at e
    cases e
    omega
theorem SAt.top_at {w : World} {N bm gb n c K : Nat} {v : Value} {M P : List Stp} {O : Stk} {t : Option Nat} (hn : (t :: O).length = n) (h : SAt w N bm v (.slice (some ⟨gb, 0, none⟩) n c) M P (t :: O)) : SAt (w.setCell ⟨gb, n - 1, none⟩ (.int .i64 (K : Int))) N bm v (.slice (some ⟨gb, 0, none⟩) n c) M P (some K :: O) := by
  rw [List.length_cons] at hn
  subst hn
  rw [Nat.add_sub_cancel]
  exact SAt.top (t' := some K) h
/-- The step for what has ended is stored, and the stack gets shorter. -/
theorem next_at {w : World} {N bm gb bx n c m K : Nat} {v : Value} {M P : List Stp} {O : Stk} {x : Stp} (hn : (some m :: O : Stk).length = n) (h : SAt w N bm v (.slice (some ⟨gb, 0, none⟩) n c) M P (some m :: O)) (hx : XAt w N bx v (.slice (some ⟨gb, 0, none⟩) n c) x) :
    SAt (((w.setCell ⟨bx, 0, none⟩ (.int .i64 2)).setCell ⟨bx, 1, none⟩ (.int .i64 (m : Int))).setCell ⟨bx, 2, none⟩ (.int .i64 (K : Int))) N bm v (.slice (some ⟨gb, 0, none⟩) (n - 1) c) M P O ∧
      XAt (((w.setCell ⟨bx, 0, none⟩ (.int .i64 2)).setCell ⟨bx, 1, none⟩ (.int .i64 (m : Int))).setCell ⟨bx, 2, none⟩ (.int .i64 (K : Int))) N bx v (.slice (some ⟨gb, 0, none⟩) (n - 1) c) (2, (m : Int), (K : Int)) := by
  rw [List.length_cons] at hn
  subst hn
  rw [Nat.add_sub_cancel]
  have h1 := ((h.set (i := 0) hx.hx hx.av hx.ao (.int .i64 2)).set (i := 1) hx.hx hx.av hx.ao (.int .i64 (m : Int))).set (i := 2) hx.hx hx.av hx.ao (.int .i64 (K : Int))
  refine ⟨h1.pop, ?_, hx.hx, hx.av, hx.ao⟩
  have h2 := ((hx.box.set_ 0 (.int .i64 2)).set_ 1 (.int .i64 (m : Int))).set_ 2 (.int .i64 (K : Int))
  simpa using h2
def lenV : Value → Nat
  | .slice _ n _ => n
  | _ => 0

end Go.Proofs.Ytippmpcaongolaa

namespace Go.Proofs.Ytippmpcaongolaa
open Go.RowKit

theorem mach_step {g : Int} {F : Nat} {P : List Stp} {O : Stk} {l : List UInt8} (h : l.length ≤ F) : mach g F P O l =
    if l.head? = some 68 then mach g F P (none :: O) l.tail
    else if (citF g l).2 = true then aftS g F (retS O (placeS P (1, (citF g l).1, 0)).2 (placeS P (1, (citF g l).1, 0)).1) (l.drop 3) else none := by
  rw [mach_any h (show l.length ≤ F + 1 by omega), mach_succ]
theorem mach_nil (g : Int) (F : Nat) (P : List Stp) (O : Stk) : mach g F P O [] = none := by
  rw [mach_any (f' := 0) (Nat.zero_le _) (Nat.le_refl _)]
  rfl
/-- How a round of the reader begins, with the letter at k. -/
structure Rnd (g : Int) (r : ByteArray) (R : Option (List Stp)) (k : Nat) (P : List Stp) (O : Stk) (b : Bool) : Prop where
  le : k ≤ r.size
  wh : b = true → O = []
  run : aftS g r.size (if b then none else some O, P) (r.data.toList.drop k) = R
  len : P.length + O.length + (r.size - k) ≤ r.size
  lt : ∀ m, some m ∈ O → m < P.length
theorem bytes_len (r : ByteArray) : r.data.toList.length = r.size := by simp
theorem dropB_at (r : ByteArray) {k : Nat} (hk : k < r.size) : r.data.toList.drop k = r[k] :: r.data.toList.drop (k + 1) := by
  rw [List.drop_eq_getElem_cons (by rw [bytes_len]; exact hk)]
  congr 1
theorem Rnd.whole {g : Int} {r : ByteArray} {R : Option (List Stp)} {k : Nat} {P : List Stp} {O : Stk} (h : Rnd g r R k P O true) (hk : k < r.size) : R = none := by
  rw [← h.run, dropB_at r hk]
  rfl
theorem Rnd.end_ {g : Int} {r : ByteArray} {R : Option (List Stp)} {P : List Stp} {O : Stk} {b : Bool} (h : Rnd g r R r.size P O b) : R = if b then some P else none := by
  rw [← h.run, List.drop_of_length_le (by rw [bytes_len]; exact Nat.le_refl _)]
  cases b
  · exact mach_nil g _ P O
  · rfl
theorem Rnd.open_ {g : Int} {r : ByteArray} {R : Option (List Stp)} {k : Nat} {P : List Stp} {O : Stk} (h : Rnd g r R k P O false) (hk : k < r.size) (hc : (r[k].toNat : Int) = 68) : Rnd g r R (k + 1) P (none :: O) false := by
  have e : r[k] = 68 := by
    have h1 : r[k].toNat = 68 := by omega
    rw [← UInt8.ofNat_toNat (x := r[k]), h1]
    rfl
  refine ⟨hk, fun x => (by cases x), ?_, by have := h.len; rw [List.length_cons]; omega, fun m hm => h.lt m (by simpa using hm)⟩
  have h1 : mach g r.size P O (r.data.toList.drop k) = R := h.run
  rw [mach_step (by rw [List.length_drop, bytes_len]; omega), dropB_at r hk, if_pos (by rw [e]; rfl)] at h1
  exact h1
theorem Rnd.cite {g : Int} {r : ByteArray} {R : Option (List Stp)} {k : Nat} {P : List Stp} {O : Stk} (h : Rnd g r R k P O false) (hk : k < r.size) (hc : (r[k].toNat : Int) ≠ 68) :
    R = if (citF g (r.data.toList.drop k)).2 = true then aftS g r.size (retS O (placeS P (1, (citF g (r.data.toList.drop k)).1, 0)).2 (placeS P (1, (citF g (r.data.toList.drop k)).1, 0)).1) (r.data.toList.drop (k + 3)) else none := by
  have h1 : mach g r.size P O (r.data.toList.drop k) = R := h.run
  rw [mach_step (by rw [List.length_drop, bytes_len]; omega), if_neg (by rw [dropB_at r hk]; intro e; have e2 : r[k] = 68 := Option.some.inj e; exact hc (by rw [e2]; rfl)), List.drop_drop] at h1
  exact h1.symm
theorem cit_short (g : Int) (r : ByteArray) {k : Nat} (hk : r.size < k + 3) : (citF g (r.data.toList.drop k)).2 = false := by
  cases h : (citF g (r.data.toList.drop k)).2
  · rfl
  · have := (citF_ok h).1
    rw [List.length_drop, bytes_len] at this
    omega
theorem cit_at (g : Int) (r : ByteArray) {k : Nat} (hk : k + 3 ≤ r.size) : citF g (r.data.toList.drop k) =
    if (decide ((r[k].toNat : Int) = 103) && digI (r[k + 1].toNat : Int) && digI (r[k + 2].toNat : Int)) = true then (10 * ((r[k + 1].toNat : Int) - 48) + ((r[k + 2].toNat : Int) - 48), decide (10 * ((r[k + 1].toNat : Int) - 48) + ((r[k + 2].toNat : Int) - 48) < g)) else (0, false) := by
  rw [dropB_at r (show k < r.size by omega), dropB_at r (show k + 1 < r.size by omega), dropB_at r (show k + 1 + 1 < r.size by omega)]
  rfl
theorem cit_not (g : Int) (r : ByteArray) {k : Nat} (hk : k < r.size) (hc : (r[k].toNat : Int) ≠ 103) : (citF g (r.data.toList.drop k)).2 = false := by
  by_cases h3 : k + 3 ≤ r.size
  · rw [cit_at g r h3, decide_eq_false hc]
    rfl
  · exact cit_short g r (by omega)
/-- A part has ended, and the step x stands for it: what the reader does then. -/
structure Fin_ (g : Int) (r : ByteArray) (R : Option (List Stp)) (k : Nat) (P : List Stp) (O : Stk) (x : Stp) : Prop where
  le : k ≤ r.size
  run : aftS g r.size (retS O (placeS P x).2 (placeS P x).1) (r.data.toList.drop k) = R
  len : P.length + O.length + 1 + (r.size - k) ≤ r.size
  lt : ∀ m, some m ∈ O → m < P.length
  good : GoodStp x
theorem placeS_lt (P : List Stp) (x : Stp) : (placeS P x).1 < (placeS P x).2.length ∧ P.length ≤ (placeS P x).2.length ∧ (placeS P x).2.length ≤ P.length + 1 := placeS_le P x
theorem Fin_.whole {g : Int} {r : ByteArray} {R : Option (List Stp)} {k : Nat} {P : List Stp} {x : Stp} (h : Fin_ g r R k P [] x) : Rnd g r R k (placeS P x).2 [] true :=
  ⟨h.le, fun _ => rfl, h.run, by have := h.len; have := (placeS_lt P x).2.2; simp only [List.length_nil] at *; omega, fun m hm => by cases hm⟩
theorem Fin_.major {g : Int} {r : ByteArray} {R : Option (List Stp)} {k : Nat} {P : List Stp} {O : Stk} {x : Stp} (h : Fin_ g r R k P (none :: O) x) : Rnd g r R k (placeS P x).2 (some (placeS P x).1 :: O) false := by
  have h1 := placeS_lt P x
  refine ⟨h.le, fun e => (by cases e), h.run, by have := h.len; simp only [List.length_cons] at *; omega, fun m hm => ?_⟩
  rcases List.mem_cons.1 hm with e | e
  · cases e; exact h1.1
  · have := h.lt m (by simp [e]); omega
theorem Fin_.minor {g : Int} {r : ByteArray} {R : Option (List Stp)} {k : Nat} {P : List Stp} {O : Stk} {x : Stp} {m : Nat} (h : Fin_ g r R k P (some m :: O) x) (hr : r.size ≤ 100000) : Fin_ g r R k (placeS P x).2 O (2, (m : Int), ((placeS P x).1 : Int)) := by
  have h1 := placeS_lt P x
  have h2 := h.lt m (by simp)
  have h3 := h.len
  simp only [List.length_cons] at h3
  refine ⟨h.le, h.run, by omega, fun j hj => ?_, ?_⟩
  · have := h.lt j (by simp [hj]); omega
  · refine ⟨by simp, ?_, ?_⟩
    · simp only; omega
    · simp only; omega

end Go.Proofs.Ytippmpcaongolaa
