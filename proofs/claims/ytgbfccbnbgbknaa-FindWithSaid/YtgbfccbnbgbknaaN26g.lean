/- Joins of valid terms: the plain mathematics. -/
import Derived.Test.YtgbfccbnbgbknaaN24g
import Derived.Test.YtgbfccbnbgbknaaY21g
/- Joins: the plain mathematics. -/
namespace Go.Proofs.Ytgbfccbnbgbknaa
open Go.RowKit

/-- The variable that tells a pair. -/
def ixT (M : List Two) (x : Two) : Int := -((M.idxOf x : Nat) : Int) - 1
/-- The common form of two terms that stand side by side, the pairs being known. -/
def jn (ss : Sg) (M : List Two) : List Int → List Int → List Int
  | [], _ => []
  | x :: a, b => if 0 ≤ x ∧ b.head? = some x then x :: jn ss M a b.tail else ixT M (prt ss (x :: a) 0, prt ss b 0) :: jn ss M (a.drop ((prt ss (x :: a) 0).length - 1)) (b.drop (prt ss b 0).length)
termination_by a => a.length
decreasing_by all_goals (simp only [List.length_cons, List.length_drop]; omega)
/-- Two lists of as many terms, side by side. -/
inductive Jnt (ss : Sg) : List Int → List Int → Prop
  | nil : Jnt ss [] []
  | same (x : Int) (a b : List Int) (h : 0 ≤ x) : Jnt ss a b → Jnt ss (x :: a) (x :: b)
  | part (x : Int) (p q a b : List Int) (hp : scan ss 1 (x :: p) = some []) (hq : scan ss 1 q = some []) (hd : ¬ (0 ≤ x ∧ q.head? = some x)) : Jnt ss a b → Jnt ss (x :: (p ++ a)) (q ++ b)
theorem jnt_of {ss : Sg} : ∀ (m : Nat) (a b : List Int) (n : Nat), a.length ≤ m → scan ss n a = some [] → scan ss n b = some [] → Jnt ss a b
  | m, [], b, n, _, h1, h2 => by
    cases n with
    | succ n => cases h1
    | zero => rw [scan_zero] at h2; cases h2; exact .nil
  | 0, x :: a, b, n, hm, h1, h2 => by simp at hm
  | m + 1, x :: a, b, n, hm, h1, h2 => by
    obtain ⟨k, rfl, h1'⟩ := scan_ne h1
    by_cases hs : 0 ≤ x ∧ b.head? = some x
    · cases b with
      | nil => cases hs.2
      | cons y b =>
        obtain rfl : y = x := by simpa using hs.2
        exact .same _ _ _ hs.1 (jnt_of m a b _ (by simpa using hm) h1' h2)
    · obtain ⟨pA, sA⟩ := scan_prt h1
      obtain ⟨pB, sB⟩ := scan_prt h2
      have eA := pA.split
      have eB := pB.split
      simp only [List.drop_zero, Nat.zero_add] at eA eB
      have gA := pA.good
      have lA := pA.len
      have lB := pB.len
      have hh := pA.head (by simp)
      generalize prt ss (x :: a) 0 = P at *
      generalize prt ss b 0 = Q at *
      cases P with
      | nil => simp at lA
      | cons z p =>
        obtain rfl : z = x := by simpa using hh
        have hd : ¬ (0 ≤ z ∧ Q.head? = some z) := fun h => hs ⟨h.1, by
          rw [eB]
          cases Q with
          | nil => cases h.2
          | cons u Q => simpa using h.2⟩
        have hl : ((z :: a).drop (z :: p).length).length ≤ m := by simp at hm ⊢; omega
        have := jnt_of m _ _ k hl sA sB
        have h3 := Jnt.part z p Q _ _ gA pB.good hd this
        rw [← List.cons_append, ← eA, ← eB] at h3
        exact h3
section
variable {ss : Sg} {M : List Two}
theorem jn_same {x : Int} (a b : List Int) (h : 0 ≤ x) : jn ss M (x :: a) (x :: b) = x :: jn ss M a b := by
  rw [jn, if_pos ⟨h, rfl⟩]; rfl
theorem head_app {q b : List Int} {x : Int} (hq : q ≠ []) (hd : ¬ (0 ≤ x ∧ q.head? = some x)) : ¬ (0 ≤ x ∧ (q ++ b).head? = some x) := fun h => hd ⟨h.1, by
  cases q with
  | nil => exact absurd rfl hq
  | cons u q => simpa using h.2⟩
theorem scan_nn {q : List Int} (h : scan ss 1 q = some []) : q ≠ [] := fun e => by rw [e] at h; cases h
theorem jn_part {x : Int} {p q : List Int} (a b : List Int) (hp : scan ss 1 (x :: p) = some []) (hq : scan ss 1 q = some []) (hd : ¬ (0 ≤ x ∧ q.head? = some x)) : jn ss M (x :: (p ++ a)) (q ++ b) = ixT M (x :: p, q) :: jn ss M a b := by
  have e1 : prt ss (x :: (p ++ a)) 0 = x :: p := prt_front a hp
  have e2 : prt ss (q ++ b) 0 = q := prt_front b hq
  rw [jn, if_neg (head_app (scan_nn hq) hd), e1, e2]
  simp
theorem comF_same {f : Nat} {x : Int} (a b : List Int) (met : List Two) (h : 0 ≤ x) : comF ss (f + 1) (x :: a) (x :: b) met = (x :: (comF ss f a b met).1, (comF ss f a b met).2) := by
  rw [comF, if_pos ⟨h, rfl⟩]; rfl
theorem comF_part {f : Nat} {x : Int} {p q : List Int} (a b : List Int) (met : List Two) (hp : scan ss 1 (x :: p) = some []) (hq : scan ss 1 q = some []) (hd : ¬ (0 ≤ x ∧ q.head? = some x)) :
    comF ss (f + 1) (x :: (p ++ a)) (q ++ b) met = (ixT (meet1 met (x :: p, q)) (x :: p, q) :: (comF ss f a b (meet1 met (x :: p, q))).1, (comF ss f a b (meet1 met (x :: p, q))).2) := by
  have e1 : prt ss (x :: (p ++ a)) 0 = x :: p := prt_front a hp
  have e2 : prt ss (q ++ b) 0 = q := prt_front b hq
  rw [comF, if_neg (head_app (scan_nn hq) hd), e1, e2]
  simp [ixT]
theorem mem_meet1 (met : List Two) (x : Two) : x ∈ meet1 met x := by
  unfold meet1; split
  · rename_i h; exact List.contains_iff_mem.1 h
  · simp
theorem meet1_ext (met : List Two) (x : Two) : ∃ r, meet1 met x = met ++ r := by
  unfold meet1; split
  · exact ⟨[], by simp⟩
  · exact ⟨[x], rfl⟩
theorem comF_ext {a b : List Int} (h : Jnt ss a b) : ∀ (f : Nat) (met : List Two), a.length ≤ f → ∃ r, (comF ss f a b met).2 = met ++ r := by
  induction h with
  | nil => intro f met _; cases f <;> exact ⟨[], by simp [comF]⟩
  | same x a b h0 _ ih =>
    intro f met hf
    cases f with
    | zero => simp at hf
    | succ f => rw [comF_same a b met h0]; exact ih f met (by simpa using hf)
  | part x p q a b hp hq hd _ ih =>
    intro f met hf
    cases f with
    | zero => simp at hf
    | succ f =>
      rw [comF_part a b met hp hq hd]
      obtain ⟨r1, h1⟩ := meet1_ext met (x :: p, q)
      obtain ⟨r2, h2⟩ := ih f (meet1 met (x :: p, q)) (by simp at hf; omega)
      exact ⟨r1 ++ r2, by rw [h2, h1, List.append_assoc]⟩
theorem ix_stable {met : List Two} {x : Two} (r : List Two) (h : x ∈ met) : ixT (met ++ r) x = ixT met x := by
  unfold ixT; rw [List.idxOf_append, if_pos h]
theorem getD_ix {met : List Two} {x : Two} (h : x ∈ met) : (met[(-ixT met x - 1).toNat]?.getD ([-1], [-1])) = x := by
  unfold ixT
  have hl := List.idxOf_lt_length_of_mem h
  rw [show (-(-((met.idxOf x : Nat) : Int) - 1) - 1).toNat = met.idxOf x by omega, List.getElem?_eq_getElem hl]
  simp
theorem comF_jn {a b : List Int} (h : Jnt ss a b) : ∀ (f : Nat) (met r : List Two), a.length ≤ f → (comF ss f a b met).2 ++ r = M → jn ss M a b = (comF ss f a b met).1 := by
  induction h with
  | nil => intro f met r _ _; cases f <;> simp [comF, jn]
  | same x a b h0 _ ih =>
    intro f met r hf hM
    cases f with
    | zero => simp at hf
    | succ f =>
      rw [comF_same a b met h0] at hM ⊢
      rw [jn_same a b h0, ih f met r (by simpa using hf) hM]
  | part x p q a b hp hq hd hj ih =>
    intro f met r hf hM
    cases f with
    | zero => simp at hf
    | succ f =>
      rw [comF_part a b met hp hq hd] at hM ⊢
      have hl : a.length ≤ f := by simp at hf; omega
      rw [jn_part a b hp hq hd, ih f _ r hl hM]
      congr 1
      obtain ⟨r2, h2⟩ := comF_ext hj f (meet1 met (x :: p, q)) hl
      simp only at hM
      rw [← hM, h2, List.append_assoc]
      exact ix_stable _ (mem_meet1 _ _)
/-- What the variables tell, on the left and on the right. -/
def sideL (M : List Two) (v : Nat) : List Int := (M[v]?.getD ([-1], [-1])).1
def sideR (M : List Two) (v : Nat) : List Int := (M[v]?.getD ([-1], [-1])).2
theorem ixT_neg (M : List Two) (x : Two) : ixT M x < 0 := by unfold ixT; omega
theorem jn_sides {a b : List Int} (h : Jnt ss a b) : ∀ (f : Nat) (met r : List Two), a.length ≤ f → (comF ss f a b met).2 ++ r = M → apN (sideL M) (jn ss M a b) = a ∧ apN (sideR M) (jn ss M a b) = b := by
  induction h with
  | nil => intro f met r _ _; simp [jn, apN]
  | same x a b h0 _ ih =>
    intro f met r hf hM
    cases f with
    | zero => simp at hf
    | succ f =>
      rw [comF_same a b met h0] at hM
      obtain ⟨i1, i2⟩ := ih f met r (by simpa using hf) hM
      rw [jn_same a b h0, apN_cons, apN_cons, if_neg (by omega), if_neg (by omega), i1, i2]
      exact ⟨rfl, rfl⟩
  | part x p q a b hp hq hd hj ih =>
    intro f met r hf hM
    cases f with
    | zero => simp at hf
    | succ f =>
      rw [comF_part a b met hp hq hd] at hM
      have hl : a.length ≤ f := by simp at hf; omega
      obtain ⟨i1, i2⟩ := ih f _ r hl hM
      obtain ⟨r2, h2⟩ := comF_ext hj f (meet1 met (x :: p, q)) hl
      have hmem : (x :: p, q) ∈ M := by
        simp only at hM
        rw [← hM, h2]
        exact List.mem_append_left _ (List.mem_append_left _ (mem_meet1 _ _))
      have hg := getD_ix hmem
      rw [jn_part a b hp hq hd, apN_cons, apN_cons, if_pos (ixT_neg _ _), if_pos (ixT_neg _ _), i1, i2]
      unfold sideL sideR
      rw [hg]
      exact ⟨by simp, rfl⟩
theorem jn_scan {a b : List Int} (h : Jnt ss a b) : ∀ (n : Nat), scan ss n a = some [] → scan ss n (jn ss M a b) = some [] := by
  induction h with
  | nil => intro n hn; rw [jn]; exact hn
  | same x a b h0 _ ih =>
    intro n hn
    obtain ⟨m, rfl, hm⟩ := scan_ne hn
    rw [jn_same a b h0]
    exact ih _ hm
  | part x p q a b hp hq hd hj ih =>
    intro n hn
    obtain ⟨m, rfl, hm⟩ := scan_ne hn
    rw [jn_part a b hp hq hd]
    simp only [scan]
    rw [arOf_neg ss (ixT_neg _ _), Nat.add_zero]
    apply ih
    have h1 := scan_append ss _ _ _ a hp
    rw [List.cons_append, List.nil_append] at h1
    rw [show m + 1 = 1 + m by omega, scan_add, h1] at hn
    exact hn
theorem jn_append {p q : List Int} (h : Jnt ss p q) (a b : List Int) : jn ss M (p ++ a) (q ++ b) = jn ss M p q ++ jn ss M a b := by
  induction h with
  | nil => simp [jn]
  | same x p q h0 _ ih => rw [List.cons_append, List.cons_append, jn_same _ _ h0, jn_same _ _ h0, ih]; rfl
  | part x p q a' b' hp hq hd hj ih =>
    rw [List.cons_append, List.append_assoc, List.append_assoc, jn_part _ _ hp hq hd, jn_part _ _ hp hq hd, ih]
    rfl
theorem jn_apN {σ τ : Nat → List Int} (hσ : ∀ v, v < 12 → scan ss 1 (σ v) = some []) (hτ : ∀ v, v < 12 → scan ss 1 (τ v) = some []) : ∀ (c : List Int), (∀ z ∈ c, -12 ≤ z) → jn ss M (apN σ c) (apN τ c) = apN (fun v => jn ss M (σ v) (τ v)) c
  | [], _ => by simp [apN, jn]
  | z :: c, hz => by
    have h12 := hz z (List.mem_cons_self ..)
    have ih := jn_apN hσ hτ c fun x hx => hz x (List.mem_cons_of_mem _ hx)
    rw [apN_cons, apN_cons, apN_cons]
    by_cases hn : z < 0
    · rw [if_pos hn, if_pos hn, if_pos hn]
      have hj := jnt_of _ _ _ 1 (Nat.le_refl _) (hσ (-z - 1).toNat (by omega)) (hτ (-z - 1).toNat (by omega))
      rw [jn_append hj, ih]
    · rw [if_neg hn, if_neg hn, if_neg hn, List.cons_append, List.cons_append, List.nil_append, List.nil_append, jn_same _ _ (by omega), ih]
      rfl
/-- Each part that is told is a term. -/
def AllT (ss : Sg) (met : List Two) : Prop := ∀ x ∈ met, scan ss 1 x.1 = some [] ∧ scan ss 1 x.2 = some []
theorem comF_terms {a b : List Int} (h : Jnt ss a b) : ∀ (f : Nat) (met : List Two), AllT ss met → AllT ss (comF ss f a b met).2 := by
  induction h with
  | nil => intro f met hm; cases f <;> simpa [comF] using hm
  | same x a b h0 _ ih =>
    intro f met hm
    cases f with
    | zero => simpa [comF] using hm
    | succ f => rw [comF_same a b met h0]; exact ih f met hm
  | part x p q a b hp hq hd hj ih =>
    intro f met hm
    cases f with
    | zero => simpa [comF] using hm
    | succ f =>
      rw [comF_part a b met hp hq hd]
      refine ih f _ fun y hy => ?_
      unfold meet1 at hy
      split at hy
      · exact hm y hy
      · rcases List.mem_append.1 hy with hy | hy
        · exact hm y hy
        · obtain rfl := List.mem_singleton.1 hy; exact ⟨hp, hq⟩
theorem meet1_len (met : List Two) (x : Two) : met.length ≤ (meet1 met x).length := by
  obtain ⟨r, h⟩ := meet1_ext met x
  rw [h, List.length_append]; omega
theorem comF_nums {a b : List Int} (h : Jnt ss a b) : ∀ (f : Nat) (met : List Two), a.length ≤ f → ∀ z ∈ (comF ss f a b met).1, -((comF ss f a b met).2.length : Int) ≤ z ∧ (0 ≤ z → z ∈ a) := by
  induction h with
  | nil => intro f met _ z hz; cases f <;> simp [comF] at hz
  | same x a b h0 _ ih =>
    intro f met hf z hz
    cases f with
    | zero => simp at hf
    | succ f =>
      rw [comF_same a b met h0] at hz ⊢
      rcases List.mem_cons.1 hz with rfl | hz
      · exact ⟨by omega, fun _ => List.mem_cons_self ..⟩
      · obtain ⟨h1, h2⟩ := ih f met (by simpa using hf) z hz
        exact ⟨h1, fun h => List.mem_cons_of_mem _ (h2 h)⟩
  | part x p q a b hp hq hd hj ih =>
    intro f met hf z hz
    cases f with
    | zero => simp at hf
    | succ f =>
      have hl : a.length ≤ f := by simp at hf; omega
      rw [comF_part a b met hp hq hd] at hz ⊢
      rcases List.mem_cons.1 hz with rfl | hz
      · obtain ⟨r2, h2⟩ := comF_ext hj f (meet1 met (x :: p, q)) hl
        have h3 := List.idxOf_lt_length_of_mem (mem_meet1 met (x :: p, q))
        have h4 := congrArg List.length h2
        rw [List.length_append] at h4
        have := ixT_neg (meet1 met (x :: p, q)) (x :: p, q)
        exact ⟨by simp only [ixT]; omega, fun h => by omega⟩
      · obtain ⟨h1, h2⟩ := ih f _ hl z hz
        exact ⟨h1, fun h => List.mem_cons_of_mem _ (List.mem_append_right _ (h2 h))⟩
def swp (x : Two) : Two := (x.2, x.1)
theorem swp_inj {x y : Two} (h : swp x = swp y) : x = y := by
  unfold swp at h
  cases x; cases y
  simp only [Prod.mk.injEq] at h ⊢
  exact ⟨h.2, h.1⟩
theorem idx_swp : ∀ (l : List Two) (x : Two), (l.map swp).idxOf (swp x) = l.idxOf x
  | [], _ => rfl
  | y :: l, x => by
    rw [List.map_cons, List.idxOf_cons, List.idxOf_cons, idx_swp l x]
    by_cases e : y = x
    · subst e; simp
    · have b1 : (swp y == swp x) = false := beq_eq_false_iff_ne.2 fun h => e (swp_inj h)
      have b2 : (y == x) = false := beq_eq_false_iff_ne.2 e
      rw [b1, b2]
theorem meet1_swp (met : List Two) (x : Two) : meet1 (met.map swp) (swp x) = (meet1 met x).map swp := by
  unfold meet1
  by_cases h : x ∈ met
  · rw [if_pos (List.contains_iff_mem.2 h), if_pos (List.contains_iff_mem.2 (List.mem_map_of_mem h))]
  · have h2 : ¬ swp x ∈ met.map swp := fun hh => by
      obtain ⟨y, hy, e⟩ := List.mem_map.1 hh
      exact h (swp_inj e ▸ hy)
    rw [if_neg (fun hh => h (List.contains_iff_mem.1 hh)), if_neg (fun hh => h2 (List.contains_iff_mem.1 hh))]
    simp
theorem comF_swp {a b : List Int} (h : Jnt ss a b) : ∀ (f g : Nat) (met : List Two), a.length ≤ f → b.length ≤ g → comF ss g b a (met.map swp) = ((comF ss f a b met).1, (comF ss f a b met).2.map swp) := by
  induction h with
  | nil => intro f g met _ _; cases f <;> cases g <;> simp [comF]
  | same x a b h0 _ ih =>
    intro f g met hf hg
    cases f with
    | zero => simp at hf
    | succ f =>
      cases g with
      | zero => simp at hg
      | succ g =>
        rw [comF_same a b met h0, comF_same b a _ h0, ih f g met (by simpa using hf) (by simpa using hg)]
  | part x p q a b hp hq hd hj ih =>
    intro f g met hf hg
    cases f with
    | zero => simp at hf
    | succ f =>
      cases q with
      | nil => exact absurd rfl (scan_nn hq)
      | cons y q =>
        cases g with
        | zero => simp at hg
        | succ g =>
          have hd2 : ¬ (0 ≤ y ∧ (x :: p).head? = some y) := fun h => by
            have e : x = y := by simpa using h.2
            have h1 := h.1
            rw [← e] at h1
            exact hd ⟨h1, by simp [e]⟩
          rw [comF_part a b met hp hq hd, List.cons_append, ← List.cons_append (a := x), comF_part b a _ hq hp hd2]
          rw [show ((y :: q, x :: p) : Two) = swp (x :: p, y :: q) from rfl, meet1_swp, ih f g _ (by simp at hf; omega) (by simp at hg; omega)]
          simp only [ixT, idx_swp]
end

end Go.Proofs.Ytgbfccbnbgbknaa

namespace Go.Proofs.Ytgbfccbnbgbknaa
open Go.RowKit

section
variable {ss : Sg} {za zb : List Int}
theorem jnt_valid (ha : valOk ss za = true) (hb : valOk ss zb = true) : Jnt ss za zb :=
  jnt_of _ _ _ 1 (Nat.le_refl _) (valOk_term ha).2.2.2 (valOk_term hb).2.2.2
theorem joinZ_ok (h : (joinZ ss za zb).2 = 0) : (comF ss za.length za zb []).2.length ≤ 12 ∧ (joinZ ss za zb).1 = (comF ss za.length za zb []).1 := by
  unfold joinZ at h ⊢
  split at h
  · rename_i hl; rw [if_pos hl]; exact ⟨hl, rfl⟩
  · simp at h
theorem joinZ_err (h : (joinZ ss za zb).2 ≠ 0) : joinZ ss za zb = ([], 4) := by
  unfold joinZ at h ⊢
  split at h
  · exact absurd rfl h
  · rename_i hl; rw [if_neg hl]
theorem joinZ_swap (ha : valOk ss za = true) (hb : valOk ss zb = true) : joinZ ss zb za = joinZ ss za zb := by
  have h := comF_swp (jnt_valid ha hb) za.length zb.length [] (Nat.le_refl _) (Nat.le_refl _)
  rw [List.map_nil] at h
  unfold joinZ
  rw [h]
  simp
theorem join_jn (ha : valOk ss za = true) (hb : valOk ss zb = true) : jn ss (comF ss za.length za zb []).2 za zb = (comF ss za.length za zb []).1 :=
  comF_jn (jnt_valid ha hb) za.length [] [] (Nat.le_refl _) (by simp)
theorem side_scan {M : List Two} (hM : AllT ss M) (v : Nat) : scan ss 1 (sideL M v) = some [] ∧ scan ss 1 (sideR M v) = some [] := by
  unfold sideL sideR
  cases h : M[v]? with
  | none => exact ⟨scan_neg (by omega), scan_neg (by omega)⟩
  | some x => exact hM x (List.mem_of_getElem? h)
theorem join_sides (ha : valOk ss za = true) (hb : valOk ss zb = true) : ∃ σ τ : Nat → List Int, (∀ v, scan ss 1 (σ v) = some []) ∧ (∀ v, scan ss 1 (τ v) = some []) ∧ apN σ (comF ss za.length za zb []).1 = za ∧ apN τ (comF ss za.length za zb []).1 = zb := by
  have hj := jnt_valid ha hb
  have hM := comF_terms hj za.length [] (fun x hx => by simp at hx)
  have hs := jn_sides hj za.length [] [] (Nat.le_refl _) (M := (comF ss za.length za zb []).2) (by simp)
  rw [join_jn ha hb] at hs
  exact ⟨_, _, fun v => (side_scan hM v).1, fun v => (side_scan hM v).2, hs.1, hs.2⟩
theorem scan_len {q : List Int} (h : scan ss 1 q = some []) : 1 ≤ q.length := by
  cases q with
  | nil => cases h
  | cons x q => simp
theorem join_len (ha : valOk ss za = true) (hb : valOk ss zb = true) : (comF ss za.length za zb []).1.length ≤ za.length ∧ (comF ss za.length za zb []).1.length ≤ zb.length := by
  obtain ⟨σ, τ, s1, s2, s3, s4⟩ := join_sides ha hb
  have h1 := (apN_len (σ := σ) (a := (comF ss za.length za zb []).1) fun z _ _ => scan_len (s1 _)).1
  have h2 := (apN_len (σ := τ) (a := (comF ss za.length za zb []).1) fun z _ _ => scan_len (s2 _)).1
  rw [s3] at h1
  rw [s4] at h2
  exact ⟨h1, h2⟩
theorem join_valid (ha : valOk ss za = true) (hb : valOk ss zb = true) (h : (joinZ ss za zb).2 = 0) : valOk ss (joinZ ss za zb).1 = true := by
  obtain ⟨h12, e⟩ := joinZ_ok h
  rw [e]
  obtain ⟨a1, a2, a3, a4⟩ := valOk_term ha
  have hl := (join_len ha hb).1
  have hsc := jn_scan (M := (comF ss za.length za zb []).2) (jnt_valid ha hb) 1 a4
  rw [join_jn ha hb] at hsc
  have hn := comF_nums (jnt_valid ha hb) za.length [] (Nat.le_refl _)
  simp only [valOk, termOk, Bool.and_eq_true, decide_eq_true_eq, List.all_eq_true, numOk]
  refine ⟨valOk_sig ha, scan_len hsc, by omega, fun z hz => ?_, hsc⟩
  obtain ⟨n1, n2⟩ := hn z hz
  refine ⟨by omega, ?_⟩
  by_cases h0 : 0 ≤ z
  · exact (a3 z (n2 h0)).2
  · have := (sigOk_len (valOk_sig ha)).1; omega
theorem join_ins (ha : valOk ss za = true) (hb : valOk ss zb = true) (h : (joinZ ss za zb).2 = 0) : insB ss (joinZ ss za zb).1 za = true ∧ insB ss (joinZ ss za zb).1 zb = true := by
  have hv := join_valid ha hb h
  obtain ⟨σ, τ, s1, s2, s3, s4⟩ := join_sides ha hb
  rw [← (joinZ_ok h).2] at s3 s4
  exact ⟨ins_in hv ha (fun v _ => s1 v) s3, ins_in hv hb (fun v _ => s2 v) s4⟩
theorem join_least {c : List Int} (h1 : insB ss c za = true) (h2 : insB ss c zb = true) (h : (joinZ ss za zb).2 = 0) : insB ss c (joinZ ss za zb).1 = true := by
  obtain ⟨hc, ha⟩ := ins_valid h1
  have hb := (ins_valid h2).2
  have hv := join_valid ha hb h
  obtain ⟨σ, s1, s2⟩ := ins_out h1
  obtain ⟨τ, t1, t2⟩ := ins_out h2
  have hz : ∀ z ∈ c, -12 ≤ z := fun z hz => ((valOk_term hc).2.2.1 z hz).1
  have hσ := fun v (hv : v < 12) => (valOk_term (s1 v hv)).2.2.2
  have hτ := fun v (hv : v < 12) => (valOk_term (t1 v hv)).2.2.2
  refine ins_in (σ := fun v => jn ss (comF ss za.length za zb []).2 (σ v) (τ v)) hc hv (fun v hv' => ?_) ?_
  · exact jn_scan (jnt_of _ _ _ 1 (Nat.le_refl _) (hσ v hv') (hτ v hv')) 1 (hσ v hv')
  · rw [← jn_apN hσ hτ c hz, s2, t2, join_jn ha hb, (joinZ_ok h).2]
theorem join_alike (ha : valOk ss za = true) (hb : valOk ss zb = true) (h : (joinZ ss za zb).2 = 0) : insB ss za zb = alikeOk ss (joinZ ss za zb).1 za := by
  obtain ⟨j1, j2⟩ := join_ins ha hb h
  rw [← ins_alike, j1, Bool.true_and]
  cases h1 : insB ss za zb
  · cases h2 : insB ss za (joinZ ss za zb).1
    · rfl
    · rw [ins_trans h2 j2] at h1; cases h1
  · have := ins_refl (ss := ss) (a := za)
    rw [ha] at this
    exact (join_least this h1 h).symm
theorem alike_self {t : List Int} (h : valOk ss t = true) : alikeOk ss t t = true := by
  rw [← ins_alike, ins_refl, h]; rfl
/-- The join, and the error. -/
def joZ (ss : Sg) (za zb : List Int) : List Int × Int := if (valOk ss za && valOk ss zb) = true then joinZ ss za zb else ([], 1)
end

end Go.Proofs.Ytgbfccbnbgbknaa
