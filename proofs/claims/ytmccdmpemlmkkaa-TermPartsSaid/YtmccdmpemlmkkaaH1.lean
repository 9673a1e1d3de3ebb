/- Parts of a term by where they begin: the plain mathematics. -/
import Derived.Test.YtmccdmpemlmkkaaD1
namespace Go.Proofs.Ytmccdmpemlmkkaa
open Go.RowKit

theorem scan_append (ss : Sg) : ∀ (l : List Int) (n : Nat) (r x : List Int), scan ss n l = some r → scan ss n (l ++ x) = some (r ++ x)
  | l, 0, r, x, h => by rw [scan_zero] at h ⊢; cases h; rfl
  | [], n + 1, r, x, h => by cases h
  | z :: l, n + 1, r, x, h => by
    simp only [scan, List.cons_append] at h ⊢
    exact scan_append ss l _ r x h

/-- The part that begins at an index. -/
def prt (ss : Sg) (zs : List Int) (a : Nat) : List Int := (zs.drop a).take ((zs.drop a).length - ((scan ss 1 (zs.drop a)).getD []).length)
/-- Where the part k behind the head at an index begins. -/
def psA (ss : Sg) (zs : List Int) (a k : Nat) : Nat := zs.length - ((scan ss k (zs.drop (a + 1))).getD []).length

structure PrtIs (ss : Sg) (zs : List Int) (a : Nat) (P : List Int) : Prop where
  len : 1 ≤ P.length
  le : a + P.length ≤ zs.length
  split : zs.drop a = P ++ zs.drop (a + P.length)
  good : scan ss 1 P = some []
  head : ∀ h : a < zs.length, P[0]? = some zs[a]
  whole : scan ss 1 (zs.drop a) = some (zs.drop (a + P.length))

theorem prt_is {ss : Sg} {zs : List Int} {a : Nat} {r0 : List Int} (h : scan ss 1 (zs.drop a) = some r0) : PrtIs ss zs a (prt ss zs a) := by
  obtain ⟨p, h1, h2, h3⟩ := scan_suffix ss _ _ _ h
  have hl := congrArg List.length h3
  rw [List.length_drop] at h1
  simp only [List.length_drop] at hl
  have e0 : (zs.drop a).length - ((scan ss 1 (zs.drop a)).getD []).length = p := by
    rw [h]
    simp only [Option.getD_some, List.length_drop]
    omega
  have eP : prt ss zs a = (zs.drop a).take p := by unfold prt; rw [e0]
  have el : (prt ss zs a).length = p := by rw [eP, List.length_take, List.length_drop]; omega
  have ed : zs.drop (a + p) = (zs.drop a).drop p := by rw [List.drop_drop]
  refine ⟨by omega, by omega, ?_, ?_, ?_, ?_⟩
  · rw [el, ed, eP, List.take_append_drop]
  · rw [eP]
    exact scan_take ss _ _ _ (by rw [List.length_drop]; omega) (by rw [h, h3])
  · intro hlt
    rw [eP, List.getElem?_take, if_pos (by omega), List.getElem?_drop, Nat.add_zero, List.getElem?_eq_getElem hlt]
  · rw [el, ed, h, h3]

theorem prt_eq {ss : Sg} {zs : List Int} {a n : Nat} {x : List Int} (h : scan ss 1 (zs.drop a) = some x) (hx : (zs.drop a).length = n + x.length) : prt ss zs a = (zs.drop a).take n := by
  unfold prt
  rw [h]
  simp only [Option.getD_some]
  congr 1
  omega

theorem prt_whole {ss : Sg} {zs : List Int} (h : scan ss 1 zs = some []) : prt ss zs 0 = zs := by
  have := prt_eq (ss := ss) (zs := zs) (a := 0) (n := zs.length) (x := []) (by simpa using h) (by simp)
  rw [this]
  simp

section
variable {ss : Sg} {zs P : List Int} {a : Nat}
theorem prt_drop (h : PrtIs ss zs a P) {q : Nat} (hq : q ≤ P.length) : zs.drop (a + q) = P.drop q ++ zs.drop (a + P.length) := by
  have e : zs.drop (a + q) = (zs.drop a).drop q := by rw [List.drop_drop]
  rw [e, h.split, List.drop_append_of_le_length hq]
theorem prt_ar (h : PrtIs ss zs a P) (hl : a < zs.length) : scan ss (arOf ss zs[a]) (P.drop 1) = some [] := by
  have h1 := scan_head h.good h.len
  have h2 := h.head hl
  rw [List.getElem?_eq_getElem h.len] at h2
  rw [← Option.some.inj h2]
  exact h1
theorem prt_pos (h : PrtIs ss zs a P) (hl : a < zs.length) {k : Nat} (hk : k ≤ arOf ss zs[a]) :
    psA ss zs a k = a + pos ss P k ∧ 1 + k ≤ pos ss P k ∧ pos ss P k ≤ P.length ∧ scan ss k (zs.drop (a + 1)) = some (zs.drop (psA ss zs a k)) := by
  obtain ⟨h1, h2, h3⟩ := pos_scan (prt_ar h hl) h.len hk
  have h4 := scan_append ss _ _ _ (zs.drop (a + P.length)) h1
  rw [← prt_drop h h.len, ← prt_drop h h3] at h4
  have hle := h.le
  have e2 : psA ss zs a k = a + pos ss P k := by
    unfold psA
    rw [h4]
    simp only [Option.getD_some, List.length_drop]
    omega
  exact ⟨e2, h2, h3, by rw [e2]; exact h4⟩
theorem prt_step (h : PrtIs ss zs a P) (hl : a < zs.length) {k : Nat} (hk : k < arOf ss zs[a]) :
    scan ss 1 (zs.drop (psA ss zs a k)) = some (zs.drop (psA ss zs a (k + 1))) ∧ psA ss zs a k < psA ss zs a (k + 1) ∧ psA ss zs a (k + 1) ≤ zs.length ∧ prt ss zs (psA ss zs a k) = argL ss P k := by
  obtain ⟨a1, a2, a3, a4⟩ := prt_pos h hl (Nat.le_of_lt hk)
  obtain ⟨b1, b2, b3, b4⟩ := prt_pos h hl (show k + 1 ≤ _ from hk)
  obtain ⟨_, c2, _⟩ := pos_step (prt_ar h hl) h.len hk
  have hle := h.le
  have s1 : scan ss 1 (zs.drop (psA ss zs a k)) = some (zs.drop (psA ss zs a (k + 1))) := by
    rw [scan_add, a4] at b4
    exact b4
  refine ⟨s1, by omega, by omega, ?_⟩
  rw [prt_eq (n := pos ss P (k + 1) - pos ss P k) s1 (by simp only [List.length_drop]; omega), a1]
  unfold argL
  rw [prt_drop h a3, List.take_append_of_le_length (by rw [List.length_drop]; omega)]
theorem psA_zero (hl : a < zs.length) : psA ss zs a 0 = a + 1 := by
  unfold psA
  rw [scan_zero]
  simp only [Option.getD_some, List.length_drop]
  omega
end

/-- The greatest depth of the first arguments; the depth. -/
def dep (ss : Sg) : Nat → List Int → Nat
  | 0, _ => 0
  | f + 1, zs => (List.range (arOf ss (zs.headD 0))).foldl (fun m k => max m (dep ss f (argL ss zs k))) 0 + 1
def depTo (ss : Sg) (f : Nat) (zs : List Int) (k : Nat) : Nat := (List.range k).foldl (fun m k => max m (dep ss f (argL ss zs k))) 0
theorem depTo_zero (ss : Sg) (f : Nat) (zs : List Int) : depTo ss f zs 0 = 0 := rfl
theorem depTo_succ (ss : Sg) (f : Nat) (zs : List Int) (k : Nat) : depTo ss f zs (k + 1) = max (depTo ss f zs k) (dep ss f (argL ss zs k)) := by
  simp [depTo, List.range_succ]
theorem dep_succ (ss : Sg) (f : Nat) (zs : List Int) : dep ss (f + 1) zs = depTo ss f zs (arOf ss (zs.headD 0)) + 1 := rfl
theorem foldl_max_le {α : Type} (g : α → Nat) (b : Nat) : ∀ (l : List α) (m : Nat), m ≤ b → (∀ x ∈ l, g x ≤ b) → l.foldl (fun m x => max m (g x)) m ≤ b
  | [], m, h, _ => h
  | x :: l, m, h, hx => foldl_max_le g b l _ (Nat.max_le.2 ⟨h, hx x (List.mem_cons_self ..)⟩) (fun y hy => hx y (List.mem_cons_of_mem _ hy))
theorem dep_le (ss : Sg) : ∀ (f : Nat) (zs : List Int), dep ss f zs ≤ f
  | 0, _ => Nat.le_refl _
  | f + 1, zs => by
    rw [dep_succ]
    have := foldl_max_le (fun k => dep ss f (argL ss zs k)) f (List.range (arOf ss (zs.headD 0))) 0 (Nat.zero_le _) (fun k _ => dep_le ss f _)
    unfold depTo
    omega
theorem foldl_max_init {α : Type} (g : α → Nat) : ∀ (l : List α) (m : Nat), l.foldl (fun m x => max m (g x)) m = max m (l.foldl (fun m x => max m (g x)) 0)
  | [], m => by simp
  | x :: l, m => by
    simp only [List.foldl_cons]
    rw [foldl_max_init g l (max m (g x)), foldl_max_init g l (max 0 (g x))]
    omega
theorem dmax_cons (x : It) (l : List It) : dmax (x :: l) = max (x.1.length + 1) (dmax l) := by
  have := foldl_max_init (fun it : It => it.1.length + 1) l (max 0 (x.1.length + 1))
  simp only [dmax, List.foldl_cons]
  rw [this]
  omega
theorem dmax_append (l l' : List It) : dmax (l ++ l') = max (dmax l) (dmax l') := by
  have := foldl_max_init (fun it : It => it.1.length + 1) l' (dmax l)
  simp only [dmax, List.foldl_append] at this ⊢
  exact this
theorem dmax_walk (ss : Sg) : ∀ (f : Nat) (p : List Nat) (o : Nat) (zs : List Int), dmax (walkL ss f p o zs) = if f = 0 then 0 else p.length + dep ss f zs
  | 0, _, _, _ => rfl
  | f + 1, p, o, zs => by
    have key : ∀ n : Nat, dmax ((List.range n).flatMap fun k => walkL ss f (p ++ [k]) (o + pos ss zs k) (argL ss zs k)) ≤ p.length + 1 + depTo ss f zs n ∧ p.length + 1 + depTo ss f zs n ≤ max (p.length + 1) (dmax ((List.range n).flatMap fun k => walkL ss f (p ++ [k]) (o + pos ss zs k) (argL ss zs k))) := by
      intro n
      induction n with
      | zero => simp [depTo_zero, dmax]
      | succ n ih =>
        rw [List.range_succ, List.flatMap_append, dmax_append, depTo_succ]
        simp only [List.flatMap_cons, List.flatMap_nil, List.append_nil]
        rw [dmax_walk ss f]
        simp only [List.length_append, List.length_cons, List.length_nil]
        by_cases hf : f = 0
        · subst hf
          simp only [if_true, dep]
          omega
        · rw [if_neg hf]
          omega
    have := key (arOf ss (zs.headD 0))
    simp only [walkL]
    rw [dmax_cons, if_neg (by omega), dep_succ]
    simp only
    omega
theorem depthN_dep {ss : Sg} {zs : List Int} (h : 1 ≤ zs.length) : depthN ss zs = dep ss zs.length zs := by
  unfold depthN
  rw [dmax_walk, if_neg (by omega)]
  simp

end Go.Proofs.Ytmccdmpemlmkkaa
