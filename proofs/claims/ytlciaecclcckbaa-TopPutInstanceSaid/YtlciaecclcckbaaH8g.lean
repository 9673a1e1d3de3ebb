/- Paths in a term, and what is put at them: the plain mathematics. -/
import Derived.Test.YtlciaecclcckbaaD1g
import Derived.Test.YtlciaecclcckbaaH0g
/- The depth of a term by its parts: the plain mathematics. -/
namespace Go.Proofs.Ytlciaecclcckbaa
open Go.RowKit

/-- The greatest depth of the first arguments; the depth. -/
def dep (ss : Sg) : Nat → List Int → Nat
  | 0, _ => 0
  | f + 1, zs => (List.range (arOf ss (zs.headD 0))).foldl (fun m k => max m (dep ss f (argL ss zs k))) 0 + 1
def depTo (ss : Sg) (f : Nat) (zs : List Int) (k : Nat) : Nat := (List.range k).foldl (fun m k => max m (dep ss f (argL ss zs k))) 0
theorem depTo_zero (ss : Sg) (f : Nat) (zs : List Int) : depTo ss f zs 0 = 0 := rfl
theorem depTo_succ (ss : Sg) (f : Nat) (zs : List Int) (k : Nat) : depTo ss f zs (k + 1) = max (depTo ss f zs k) (dep ss f (argL ss zs k)) := by
  simp [depTo, List.range_succ]
theorem dep_succ (ss : Sg) (f : Nat) (zs : List Int) : dep ss (f + 1) zs = depTo ss f zs (arOf ss (zs.headD 0)) + 1 := rfl
theorem foldl_max_le {α : Type} (g : α → Nat) (b : Nat) : ∀ (l : List α) (m : Nat), m ≤ b → (∀ x ∈ l, g x ≤ b) → l.foldl (fun m x => max m (g x)) m ≤ b
  | [], m, h, _ => h
  | x :: l, m, h, hx => foldl_max_le g b l _ (Nat.max_le.2 ⟨h, hx x (List.mem_cons_self ..)⟩) (fun y hy => hx y (List.mem_cons_of_mem _ hy))
theorem dep_le (ss : Sg) : ∀ (f : Nat) (zs : List Int), dep ss f zs ≤ f
  | 0, _ => Nat.le_refl _
  | f + 1, zs => by
    rw [dep_succ]
    have := foldl_max_le (fun k => dep ss f (argL ss zs k)) f (List.range (arOf ss (zs.headD 0))) 0 (Nat.zero_le _) (fun k _ => dep_le ss f _)
    unfold depTo
    omega
theorem foldl_max_init {α : Type} (g : α → Nat) : ∀ (l : List α) (m : Nat), l.foldl (fun m x => max m (g x)) m = max m (l.foldl (fun m x => max m (g x)) 0)
  | [], m => by simp
  | x :: l, m => by
    simp only [List.foldl_cons]
    rw [foldl_max_init g l (max m (g x)), foldl_max_init g l (max 0 (g x))]
    omega
theorem dmax_cons (x : It) (l : List It) : dmax (x :: l) = max (x.1.length + 1) (dmax l) := by
  have := foldl_max_init (fun it : It => it.1.length + 1) l (max 0 (x.1.length + 1))
  simp only [dmax, List.foldl_cons]
  rw [this]
  omega
theorem dmax_append (l l' : List It) : dmax (l ++ l') = max (dmax l) (dmax l') := by
  have := foldl_max_init (fun it : It => it.1.length + 1) l' (dmax l)
  simp only [dmax, List.foldl_append] at this ⊢
  exact this
theorem dmax_walk (ss : Sg) : ∀ (f : Nat) (p : List Nat) (o : Nat) (zs : List Int), dmax (walkL ss f p o zs) = if f = 0 then 0 else p.length + dep ss f zs
  | 0, _, _, _ => rfl
  | f + 1, p, o, zs => by
    have key : ∀ n : Nat, dmax ((List.range n).flatMap fun k => walkL ss f (p ++ [k]) (o + pos ss zs k) (argL ss zs k)) ≤ p.length + 1 + depTo ss f zs n ∧ p.length + 1 + depTo ss f zs n ≤ max (p.length + 1) (dmax ((List.range n).flatMap fun k => walkL ss f (p ++ [k]) (o + pos ss zs k) (argL ss zs k))) := by
      intro n
      induction n with
      | zero => simp [depTo_zero, dmax]
      | succ n ih =>
        rw [List.range_succ, List.flatMap_append, dmax_append, depTo_succ]
        simp only [List.flatMap_cons, List.flatMap_nil, List.append_nil]
        rw [dmax_walk ss f]
        simp only [List.length_append, List.length_cons, List.length_nil]
        by_cases hf : f = 0
        · subst hf
          simp only [if_true, dep]
          omega
        · rw [if_neg hf]
          omega
    have := key (arOf ss (zs.headD 0))
    simp only [walkL]
    rw [dmax_cons, if_neg (by omega), dep_succ]
    simp only
    omega
theorem depthN_dep {ss : Sg} {zs : List Int} (h : 1 ≤ zs.length) : depthN ss zs = dep ss zs.length zs := by
  unfold depthN
  rw [dmax_walk, if_neg (by omega)]
  simp

end Go.Proofs.Ytlciaecclcckbaa

namespace Go.Proofs.Ytlciaecclcckbaa
open Go.RowKit

theorem endI_scan {ss : Sg} {zs : List Int} {x y : Nat} (h : scan ss 1 (zs.drop x) = some (zs.drop y)) (hy : y ≤ zs.length) : endI ss zs x = (y : Int) := by
  unfold endI
  rw [h]
  simp only [List.length_drop]
  congr 1; omega
theorem drop_at {l : List Int} {j : Nat} {k : Int} (h : l[j]? = some k) : l.drop j = k :: l.drop (j + 1) := by
  obtain ⟨hj, rfl⟩ := List.getElem?_eq_some_iff.1 h
  exact List.drop_eq_getElem_cons hj

/-- Where a path leads that goes on from an index. -/
def locN (ss : Sg) (zs : List Int) : List Int → Nat → Option Nat
  | [], a => some a
  | k :: p, a => if k < 0 ∨ (arOf ss (zs.getD a 0) : Int) ≤ k then none else locN ss zs p (psA ss zs a k.toNat)
def atR (ss : Sg) (zs p : List Int) : List Int × Int :=
  if valOk ss zs = false then ([], 1) else
  match locN ss zs p 0 with
  | none => ([], 8)
  | some a => (prt ss zs a, 0)
def putL (ss : Sg) (zs us : List Int) (a : Nat) : List Int := zs.take a ++ us ++ zs.drop (a + (prt ss zs a).length)
def putR (ss : Sg) (zs p us : List Int) : List Int × Int :=
  if (valOk ss zs && valOk ss us) = false then ([], 1) else
  match locN ss zs p 0 with
  | none => ([], 8)
  | some a => if 60 < (putL ss zs us a).length then ([], 4) else (putL ss zs us a, 0)

/-- There is a part at an index. -/
def PartAt (ss : Sg) (zs : List Int) (a : Nat) : Prop := a < zs.length ∧ ∃ r0, scan ss 1 (zs.drop a) = some r0
theorem PartAt.is {ss : Sg} {zs : List Int} {a : Nat} (h : PartAt ss zs a) : PrtIs ss zs a (prt ss zs a) := by
  obtain ⟨_, r0, h1⟩ := h
  exact prt_is h1
theorem PartAt.getD {ss : Sg} {zs : List Int} {a : Nat} (h : PartAt ss zs a) : zs.getD a 0 = zs[a]'h.1 := by
  rw [List.getD_eq_getElem?_getD, List.getElem?_eq_getElem h.1]; rfl
theorem PartAt.arg {ss : Sg} {zs : List Int} {a k : Nat} (h : PartAt ss zs a) (hk : k < arOf ss (zs.getD a 0)) : PartAt ss zs (psA ss zs a k) := by
  rw [h.getD] at hk
  obtain ⟨s1, s2, s3, _⟩ := prt_step h.is h.1 hk
  exact ⟨by omega, _, s1⟩
theorem PartAt.zero {ss : Sg} {zs : List Int} (h : valOk ss zs = true) : PartAt ss zs 0 := by
  obtain ⟨h1, _, _, h4⟩ := valOk_term h
  exact ⟨by omega, [], by simpa using h4⟩
theorem locN_nil (ss : Sg) (zs : List Int) (a : Nat) : locN ss zs [] a = some a := rfl
theorem locN_bad {ss : Sg} {zs p : List Int} {a : Nat} {k : Int} (h : k < 0 ∨ (arOf ss (zs.getD a 0) : Int) ≤ k) : locN ss zs (k :: p) a = none := by
  simp only [locN]; rw [if_pos h]
theorem locN_step {ss : Sg} {zs p : List Int} {a k : Nat} (h : k < arOf ss (zs.getD a 0)) : locN ss zs ((k : Int) :: p) a = locN ss zs p (psA ss zs a k) := by
  simp only [locN]
  rw [if_neg (by omega), Int.toNat_natCast]
theorem locN_inv {ss : Sg} {zs p : List Int} {a b : Nat} {k : Int} (h : locN ss zs (k :: p) a = some b) : ∃ j : Nat, k = (j : Int) ∧ j < arOf ss (zs.getD a 0) ∧ locN ss zs p (psA ss zs a j) = some b := by
  by_cases hk : k < 0 ∨ (arOf ss (zs.getD a 0) : Int) ≤ k
  · rw [locN_bad hk] at h; cases h
  · obtain ⟨j, rfl⟩ : ∃ j : Nat, k = (j : Int) := ⟨k.toNat, by omega⟩
    have hj : j < arOf ss (zs.getD a 0) := by omega
    rw [locN_step hj] at h
    exact ⟨j, rfl, hj, h⟩
theorem locN_part {ss : Sg} {zs : List Int} : ∀ (p : List Int) (a b : Nat), PartAt ss zs a → locN ss zs p a = some b → PartAt ss zs b ∧ a ≤ b
  | [], a, b, h, e => by cases e; exact ⟨h, Nat.le_refl _⟩
  | k :: p, a, b, h, e => by
    obtain ⟨j, rfl, hj, e'⟩ := locN_inv e
    have hp := h.arg hj
    obtain ⟨q1, q2⟩ := locN_part p _ b hp e'
    have hj' := hj
    rw [h.getD] at hj'
    have := (prt_pos h.is h.1 (Nat.le_of_lt hj')).1
    exact ⟨q1, by omega⟩
theorem locN_lt {ss : Sg} {zs p : List Int} {a b : Nat} {k : Int} (h : PartAt ss zs a) (e : locN ss zs (k :: p) a = some b) : a < b := by
  obtain ⟨j, rfl, hj, e'⟩ := locN_inv e
  have q2 := (locN_part p _ b (h.arg hj) e').2
  rw [h.getD] at hj
  obtain ⟨p1, p2, _⟩ := prt_pos h.is h.1 (Nat.le_of_lt hj)
  omega
/-- A path in a part is a path in the whole. -/
theorem drop_in {ss : Sg} {zs P : List Int} {b : Nat} (h : PrtIs ss zs b P) {j : Nat} (hj : j ≤ P.length) : zs.drop (b + j) = P.drop j ++ zs.drop (b + P.length) := prt_drop h hj
theorem PartAt.sub {ss : Sg} {zs P : List Int} {b j : Nat} (h : PrtIs ss zs b P) (hj : PartAt ss P j) : PartAt ss zs (b + j) ∧ prt ss zs (b + j) = prt ss P j ∧ zs.getD (b + j) 0 = P.getD j 0 := by
  obtain ⟨j1, r0, j2⟩ := hj
  have hle := h.le
  have e1 := drop_in h (Nat.le_of_lt j1)
  have s1 := scan_append ss _ _ _ (zs.drop (b + P.length)) j2
  rw [← e1] at s1
  have hpj := prt_is j2
  have e3 := hpj.whole
  rw [j2] at e3
  have hl2 := hpj.le
  have hl3 := congrArg List.length (Option.some.inj e3)
  rw [List.length_drop] at hl3
  refine ⟨⟨by omega, _, s1⟩, ?_, ?_⟩
  · rw [prt_eq (n := (prt ss P j).length) s1 (by simp only [List.length_append, List.length_drop]; omega), e1, List.take_append_of_le_length (by rw [List.length_drop]; omega)]
    have := prt_eq (n := (prt ss P j).length) j2 (by rw [List.length_drop]; omega)
    exact this.symm
  · have := congrArg (fun l => l[0]?) e1
    simp only [List.getElem?_drop, Nat.add_zero] at this
    rw [List.getElem?_append_left (by rw [List.length_drop]; omega), List.getElem?_drop, Nat.add_zero] at this
    rw [List.getD_eq_getElem?_getD, List.getD_eq_getElem?_getD, this]
theorem psA_sub {ss : Sg} {zs P : List Int} {b j k : Nat} (h : PrtIs ss zs b P) (hj : PartAt ss P j) (hk : k < arOf ss (P.getD j 0)) : psA ss zs (b + j) k = b + psA ss P j k := by
  rw [hj.getD] at hk
  obtain ⟨s1, s2, s3, s4⟩ := prt_pos hj.is hj.1 (Nat.le_of_lt hk)
  have hle := h.le
  have hle2 := hj.is.le
  obtain ⟨q, hq⟩ : ∃ q, psA ss P j k = q := ⟨_, rfl⟩
  rw [hq] at s1 s4
  have s5 := scan_append ss _ _ _ (zs.drop (b + P.length)) s4
  rw [← drop_in h (show j + 1 ≤ P.length from hj.1)] at s5
  rw [hq]
  unfold psA
  rw [show b + j + 1 = b + (j + 1) from by omega, s5]
  simp only [Option.getD_some, List.length_append, List.length_drop]
  omega
theorem locN_sub {ss : Sg} {zs P : List Int} {b : Nat} (h : PrtIs ss zs b P) : ∀ (p : List Int) (j : Nat), PartAt ss P j → locN ss zs p (b + j) = (locN ss P p j).map (b + ·)
  | [], j, _ => rfl
  | k :: p, j, hj => by
    have e := (PartAt.sub h hj).2.2
    by_cases hk : k < 0 ∨ (arOf ss (P.getD j 0) : Int) ≤ k
    · rw [locN_bad hk, locN_bad (by rw [e]; exact hk)]; rfl
    · obtain ⟨i, rfl⟩ : ∃ i : Nat, k = (i : Int) := ⟨k.toNat, by omega⟩
      have hi : i < arOf ss (P.getD j 0) := by omega
      rw [locN_step hi, locN_step (by rw [e]; exact hi), psA_sub h hj hi]
      exact locN_sub h p _ (hj.arg hi)

/-- What is put in at a path. -/
theorem take_put {zs us : List Int} {a : Nat} (x : List Int) (ha : a ≤ zs.length) (b : Nat) (hb : b ≤ a) : (zs.take a ++ us ++ x).take b = zs.take b := by
  rw [List.append_assoc, List.take_append_of_le_length (by rw [List.length_take]; omega), List.take_take]
  congr 1; omega
theorem drop_put {zs us : List Int} {a q b : Nat} (x : List Int) (ha : a ≤ zs.length) (hq : q ≤ a) (hbq : b ≤ q) : (zs.take a ++ us ++ x).drop b = (zs.drop b).take (q - b) ++ (zs.take a ++ us ++ x).drop q := by
  obtain ⟨C, hC⟩ : ∃ C, zs.take a ++ us ++ x = C := ⟨_, rfl⟩
  have h1 : C.take q = zs.take q := by rw [← hC]; exact take_put x ha q hq
  rw [hC]
  have h2 : (zs.drop b).take (q - b) = (C.drop b).take (q - b) := by
    rw [← List.drop_take, ← List.drop_take, h1]
  rw [h2]
  have : C.drop q = (C.drop b).drop (q - b) := by rw [List.drop_drop]; congr 1; omega
  rw [this, List.take_append_drop]

theorem locN_put {ss : Sg} {zs us x : List Int} {a : Nat} : ∀ (p : List Int) (b : Nat), PartAt ss zs b → locN ss zs p b = some a → locN ss (zs.take a ++ us ++ x) p b = some a
  | [], b, _, e => by cases e; rfl
  | k :: p, b, h, e => by
    have hlt := locN_lt h e
    obtain ⟨j, rfl, hj, e'⟩ := locN_inv e
    have hpa := h.arg hj
    obtain ⟨r1, r2⟩ := locN_part p _ a hpa e'
    have ha : a ≤ zs.length := Nat.le_of_lt r1.1
    have hg : (zs.take a ++ us ++ x).getD b 0 = zs.getD b 0 := by
      rw [List.getD_eq_getElem?_getD, List.getD_eq_getElem?_getD, List.append_assoc, List.getElem?_append_left (by rw [List.length_take]; omega), List.getElem?_take, if_pos hlt]
    have hj' := hj
    rw [h.getD] at hj'
    obtain ⟨q1, q2, q3, q4⟩ := prt_pos h.is h.1 (Nat.le_of_lt hj')
    obtain ⟨q, hq⟩ : ∃ q, psA ss zs b j = q := ⟨_, rfl⟩
    rw [hq] at q1 q4 r2 e'
    have hlc : a ≤ (zs.take a ++ us ++ x).length := by simp; omega
    have hX := scan_take ss (zs.drop (b + 1)) j (q - (b + 1)) (by rw [List.length_drop]; omega) (by rw [List.drop_drop, q4]; congr 2; omega)
    have hC := scan_append ss _ _ _ ((zs.take a ++ us ++ x).drop q) hX
    rw [← drop_put x ha r2 (by omega : b + 1 ≤ q)] at hC
    have hps : psA ss (zs.take a ++ us ++ x) b j = q := by
      unfold psA
      rw [hC]
      simp only [Option.getD_some, List.nil_append, List.length_drop]
      omega
    rw [locN_step (by rw [hg]; exact hj), hps]
    rw [hq] at hpa
    exact locN_put p q hpa e'
theorem prt_put {ss : Sg} {zs us x : List Int} {a : Nat} (ha : a ≤ zs.length) (hu : scan ss 1 us = some []) : prt ss (zs.take a ++ us ++ x) a = us := by
  have e : (zs.take a ++ us ++ x).drop a = us ++ x := by
    rw [List.append_assoc, List.drop_append_of_le_length (by rw [List.length_take]; omega), List.drop_of_length_le (by rw [List.length_take]; omega), List.nil_append]
  have h1 := scan_append ss _ _ _ x hu
  rw [← e, List.nil_append] at h1
  rw [prt_eq (n := us.length) h1 (by rw [e]; simp), e, List.take_left]
theorem scan_split (ss : Sg) : ∀ (A : List Int) (n : Nat), (∃ m, ∀ l, scan ss n (A ++ l) = scan ss m l) ∨ (∃ A', ∀ l, scan ss n (A ++ l) = some (A' ++ l))
  | [], n => .inl ⟨n, fun l => rfl⟩
  | z :: A, 0 => .inr ⟨z :: A, fun l => by rw [scan_zero]⟩
  | z :: A, n + 1 => by
    simp only [List.cons_append, scan]
    exact scan_split ss A _
theorem valid_put {ss : Sg} {zs us : List Int} {a : Nat} (hv : valOk ss zs = true) (hu : valOk ss us = true) (h : PartAt ss zs a) (hl : (putL ss zs us a).length ≤ 60) : valOk ss (putL ss zs us a) = true := by
  obtain ⟨h1, h60, hnum, hscan⟩ := valOk_term hv
  obtain ⟨u1, u60, unum, uscan⟩ := valOk_term hu
  have hP := h.is
  have hp1 := hP.len
  have hsc : scan ss 1 (putL ss zs us a) = some [] := by
    unfold putL
    have e : zs = zs.take a ++ (prt ss zs a ++ zs.drop (a + (prt ss zs a).length)) := by
      rw [← hP.split, List.take_append_drop]
    rcases scan_split ss (zs.take a) 1 with ⟨m, hm⟩ | ⟨A', hA⟩
    · rw [List.append_assoc, hm]
      rw [e, hm] at hscan
      cases m with
      | zero =>
        rw [scan_zero] at hscan
        have := congrArg List.length (Option.some.inj hscan)
        simp only [List.length_append, List.length_nil] at this
        omega
      | succ m =>
        rw [show m + 1 = 1 + m from by omega, scan_add, scan_append ss _ _ _ _ hP.good] at hscan
        rw [show m + 1 = 1 + m from by omega, scan_add, scan_append ss _ _ _ _ uscan]
        exact hscan
    · rw [e, hA] at hscan
      have := congrArg List.length (Option.some.inj hscan)
      simp only [List.length_append, List.length_nil] at this
      omega
  simp only [valOk, termOk, Bool.and_eq_true, decide_eq_true_eq, List.all_eq_true, numOk]
  refine ⟨valOk_sig hv, ?_, hl, fun z hz => ?_, hsc⟩
  · unfold putL; simp only [List.length_append]; omega
  · unfold putL at hz
    rcases List.mem_append.1 hz with hz | hz
    · rcases List.mem_append.1 hz with hz | hz
      · exact hnum z (List.mem_of_mem_take hz)
      · exact unum z hz
    · exact hnum z (List.mem_of_mem_drop hz)
theorem valid_prt {ss : Sg} {zs : List Int} {a : Nat} (hv : valOk ss zs = true) (h : PartAt ss zs a) : valOk ss (prt ss zs a) = true := by
  obtain ⟨h1, h60, hnum, hscan⟩ := valOk_term hv
  have hP := h.is
  have hle := hP.le
  simp only [valOk, termOk, Bool.and_eq_true, decide_eq_true_eq, List.all_eq_true, numOk]
  refine ⟨valOk_sig hv, hP.len, by omega, fun z hz => ?_, hP.good⟩
  have : z ∈ zs.drop a := by rw [hP.split]; exact List.mem_append_left _ hz
  exact hnum z (List.mem_of_mem_drop this)

theorem atR_inv {ss : Sg} {zs p x : List Int} (h : atR ss zs p = (x, 0)) : valOk ss zs = true ∧ ∃ a, locN ss zs p 0 = some a ∧ x = prt ss zs a := by
  unfold atR at h
  split at h
  · cases h
  · rename_i hv
    split at h
    · cases h
    · rename_i a e
      refine ⟨by simpa using hv, a, e, ?_⟩
      exact (congrArg Prod.fst h).symm
theorem atR_mk {ss : Sg} {zs p : List Int} {a : Nat} (hv : valOk ss zs = true) (e : locN ss zs p 0 = some a) : atR ss zs p = (prt ss zs a, 0) := by
  unfold atR
  rw [if_neg (by simp [hv]), e]
theorem putR_mk {ss : Sg} {zs p us : List Int} {a : Nat} (hv : valOk ss zs = true) (hu : valOk ss us = true) (e : locN ss zs p 0 = some a) : putR ss zs p us = if 60 < (putL ss zs us a).length then ([], 4) else (putL ss zs us a, 0) := by
  unfold putR
  rw [if_neg (by simp [hv, hu]), e]
theorem at_put {ss : Sg} {zs p x : List Int} (h : atR ss zs p = (x, 0)) : putR ss zs p x = (zs, 0) := by
  obtain ⟨hv, a, e, rfl⟩ := atR_inv h
  have hpa := (locN_part p 0 a (PartAt.zero hv) e).1
  have hall : putL ss zs (prt ss zs a) a = zs := by
    unfold putL
    rw [List.append_assoc, ← hpa.is.split, List.take_append_drop]
  have h60 := (valOk_term hv).2.1
  rw [putR_mk hv (valid_prt hv hpa) e, hall, if_neg (by omega)]
theorem put_at {ss : Sg} {zs p us c : List Int} (h : putR ss zs p us = (c, 0)) : atR ss c p = (us, 0) := by
  unfold putR at h
  split at h
  · cases h
  · rename_i hvu
    have hv : valOk ss zs = true ∧ valOk ss us = true := by simpa using hvu
    split at h
    · cases h
    · rename_i a e
      split at h
      · cases h
      · rename_i h60
        obtain rfl := congrArg Prod.fst h
        simp only
        have hpa := (locN_part p 0 a (PartAt.zero hv.1) e).1
        have hval := valid_put hv.1 hv.2 hpa (by omega)
        have hloc : locN ss (putL ss zs us a) p 0 = some a := locN_put p 0 (PartAt.zero hv.1) e
        rw [atR_mk hval hloc]
        have : prt ss (putL ss zs us a) a = us := prt_put (Nat.le_of_lt hpa.1) (valOk_term hv.2).2.2.2
        rw [this]
theorem at_down {ss : Sg} {zs p x : List Int} {k : Int} (h : atR ss zs (k :: p) = (x, 0)) : ∃ j : Nat, k = (j : Int) ∧ j < arOf ss (zs.headD 0) ∧ atR ss (argL ss zs j) p = (x, 0) := by
  obtain ⟨hv, a, e, rfl⟩ := atR_inv h
  obtain ⟨j, rfl, hj, e'⟩ := locN_inv e
  have h0 := PartAt.zero hv
  have hpa := h0.arg hj
  have hhd : zs.getD 0 0 = zs.headD 0 := by cases zs <;> rfl
  have hj' := hj
  rw [h0.getD] at hj'
  have hP := h0.is
  rw [prt_whole (valOk_term hv).2.2.2] at hP
  have e4 := (prt_step hP h0.1 hj').2.2.2
  have hva : valOk ss (argL ss zs j) = true := by rw [← e4]; exact valid_prt hv hpa
  have hQ := hpa.is
  rw [e4] at hQ
  refine ⟨j, rfl, by rw [← hhd]; exact hj, ?_⟩
  have hs := locN_sub hQ p 0 (PartAt.zero hva)
  rw [Nat.add_zero, e'] at hs
  cases hl : locN ss (argL ss zs j) p 0 with
  | none => rw [hl] at hs; cases hs
  | some i =>
    rw [hl] at hs
    obtain rfl := Option.some.inj hs
    have hpi := (locN_part p 0 i (PartAt.zero hva) hl).1
    rw [atR_mk hva hl, (PartAt.sub hQ hpi).2.1]

end Go.Proofs.Ytlciaecclcckbaa
