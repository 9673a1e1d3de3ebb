/- Detachment: plain mathematics. -/
import Derived.Test.YtojofbmpknpggaaKDg
import Derived.Test.YtojofbmpknpggaaG1g
import Derived.Test.YtojofbmpknpggaaZFg
/- The kernel's fit: what fitted makes, as lists. -/
namespace Go.Proofs.Ytojofbmpknpggaa
open Go.RowKit

/-- The minor's variables are others. -/
def shv (x : Int) : Int := if x < 0 then x - 12 else x

section
variable {ss : Sg} {nums : List Int}
/-- The index behind j parts, the first of which begins at p. -/
def bhj (ss : Sg) (nums : List Int) (p j : Nat) : Nat := match scan ss j (nums.drop p) with
  | some r => nums.length - r.length
  | none => 0
/-- The index behind the part that begins at p. -/
def bhd (ss : Sg) (nums : List Int) (p : Nat) : Nat := bhj ss nums p 1
/-- Every number begins a part. -/
def PartsOk (ss : Sg) (nums : List Int) : Prop := ∀ p, p < nums.length → ∃ r, scan ss 1 (nums.drop p) = some r
theorem bhj_zero {p : Nat} (hp : p ≤ nums.length) : bhj ss nums p 0 = p := by
  unfold bhj
  rw [scan_zero]
  simp only [List.length_drop]
  omega
/-- Where j parts end, of more than j that there are, another part begins: its end is that of j + 1. -/
theorem bhj_succ {p j c : Nat} {r : List Int} (h : scan ss c (nums.drop p) = some r) (hj : j < c) (hp : p ≤ nums.length) : p + j ≤ bhj ss nums p j ∧ bhj ss nums p j < nums.length ∧ bhd ss nums (bhj ss nums p j) = bhj ss nums p (j + 1) := by
  have h1 : scan ss (j + (c - j)) (nums.drop p) = some r := by rw [show j + (c - j) = c by omega]; exact h
  rw [scan_add] at h1
  cases e : scan ss j (nums.drop p) with
  | none => rw [e] at h1; cases h1
  | some m =>
    rw [e] at h1
    have h2 : scan ss (c - j) m = some r := h1
    obtain ⟨q, q1, q2, rfl⟩ := scan_suffix ss _ _ _ e
    rw [List.drop_drop] at h2
    rw [List.length_drop] at q1
    have hq : bhj ss nums p j = p + q := by
      unfold bhj
      rw [e]
      simp only [List.length_drop]
      omega
    have h3 := scan_le ss _ _ _ h2
    rw [List.length_drop] at h3
    have hb : bhd ss nums (p + q) = bhj ss nums p (j + 1) := by
      unfold bhd bhj
      rw [scan_add, e]
      show _ = (match scan ss 1 ((nums.drop p).drop q) with | some r => nums.length - r.length | none => 0)
      rw [List.drop_drop]
    rw [hq]
    exact ⟨by omega, by omega, hb⟩
/-- The parts of a part: behind the last one lies what lies behind it. -/
theorem bhd_all {p : Nat} (h : PartsOk ss nums) (hp : p < nums.length) : (∃ r, scan ss (arOf ss nums[p]) (nums.drop (p + 1)) = some r) ∧ bhj ss nums (p + 1) (arOf ss nums[p]) = bhd ss nums p := by
  obtain ⟨r, hr⟩ := h p hp
  obtain ⟨_, h2⟩ := scan_step (N := 0) hr
  rw [Nat.zero_add] at h2
  refine ⟨⟨r, h2⟩, ?_⟩
  unfold bhd bhj
  rw [hr, h2]
def kbF (ss : Sg) (nums : List Int) : List Nat := (List.range nums.length).map (bhd ss nums)
def kpF (nums : List Int) : List Nat := (List.range nums.length).map fun p => if nums.getD p 0 < 0 then nums.idxOf (nums.getD p 0) else p
theorem kbF_len : (kbF ss nums).length = nums.length := by simp [kbF]
theorem kpF_len : (kpF nums).length = nums.length := by simp [kpF]
theorem kbF_get {p : Nat} (hp : p < nums.length) : (kbF ss nums)[p]? = some (bhd ss nums p) := by simp [kbF, List.getElem?_range hp]
theorem kpF_get {p : Nat} (hp : p < nums.length) : (kpF nums)[p]? = some (if nums.getD p 0 < 0 then nums.idxOf (nums.getD p 0) else p) := by simp [kpF, List.getElem?_range hp]
/-- A list that is filled from its end. -/
def endL (F : List Nat) (k : Nat) : List Nat := List.replicate (F.length - k) 0 ++ F.drop (F.length - k)
theorem endL_len (F : List Nat) (k : Nat) : (endL F k).length = F.length := by unfold endL; rw [List.length_append, List.length_replicate, List.length_drop]; omega
theorem endL_zero (F : List Nat) : endL F 0 = List.replicate F.length 0 := by simp [endL]
theorem endL_all (F : List Nat) : endL F F.length = F := by simp [endL]
theorem endL_get {F : List Nat} {k i : Nat} (h : F.length - k ≤ i) : (endL F k)[i]? = F[i]? := by
  unfold endL
  rw [List.getElem?_append_right (by rw [List.length_replicate]; exact h), List.length_replicate, List.getElem?_drop, show F.length - k + (i - (F.length - k)) = i by omega]
theorem endL_set {F : List Nat} {k x : Nat} (hk : k < F.length) (h : F[F.length - 1 - k]? = some x) : (endL F k).set (F.length - 1 - k) x = endL F (k + 1) := by
  apply List.ext_getElem?
  intro i
  rw [List.getElem?_set]
  by_cases e : F.length - 1 - k = i
  · subst e
    rw [if_pos rfl, if_pos (by rw [endL_len]; omega), endL_get (by omega), h]
  · rw [if_neg e]
    by_cases h1 : F.length - k ≤ i
    · rw [endL_get h1, endL_get (by omega)]
    · unfold endL
      rw [List.getElem?_append_left (by rw [List.length_replicate]; omega), List.getElem?_append_left (by rw [List.length_replicate]; omega), List.getElem?_replicate, List.getElem?_replicate, if_pos (by omega), if_pos (by omega)]
/-- Setting twice at one place. -/
theorem argK_kbF {c p : Nat} (hp : p ≤ nums.length) {r : List Int} (h : scan ss c (nums.drop p) = some r) : ∀ (d j : Nat), j + d = c → ∀ q ∈ argK (kbF ss nums) d (bhj ss nums p j), q < nums.length
  | 0, _, _, q, hq => by cases hq
  | d + 1, j, hj, q, hq => by
    obtain ⟨h1, h2, h3⟩ := bhj_succ h (show j < c by omega) hp
    unfold argK at hq
    rcases List.mem_cons.1 hq with rfl | hq
    · exact h2
    · rw [List.getD_eq_getElem?_getD, kbF_get h2, Option.getD_some, h3] at hq
      exact argK_kbF hp h d (j + 1) (by omega) q hq
/-- What fitted makes keeps what the numbers ask. -/
theorem kok_fit (hs : ∀ x ∈ nums, x < (ss.length : Int)) (ha : ArOk ss) (hl : ∀ x ∈ nums, -1000 ≤ x) (hf : ss.length ≤ 1000) (h : PartsOk ss nums) : KOk ss nums (kbF ss nums) := by
  refine ⟨hs, ha, fun p hp q hq => ?_, hl, hf⟩
  obtain ⟨⟨r, h1⟩, _⟩ := bhd_all h hp
  unfold argsK at hq
  rw [List.getD_eq_getElem?_getD, List.getElem?_eq_getElem hp, Option.getD_some] at hq
  have := argK_kbF (by omega) h1 (arOf ss nums[p]) 0 (by omega) q
  rw [bhj_zero (by omega)] at this
  exact this hq
end

end Go.Proofs.Ytojofbmpknpggaa

/- The kernel's fit: what unite makes, as plain mathematics. -/
namespace Go.Proofs.Ytojofbmpknpggaa
open Go.RowKit

section
variable {ss : Sg} {nums : List Int} {kb : List Nat}
/-- The fit as a graph of nodes. -/
def fk (ss : Sg) (nums : List Int) (kb kp : List Nat) : Fd := ⟨nums, (List.range nums.length).map (argsK ss nums kb), kp, []⟩
theorem fk_args {kp : List Nat} {k : Nat} {us : List Nat} (h : (fk ss nums kb kp).args[k]? = some us) : k < nums.length ∧ us = argsK ss nums kb k := by
  obtain ⟨hk, e⟩ := List.getElem?_eq_some_iff.1 h
  have hk' : k < nums.length := by simpa [fk] using hk
  refine ⟨hk', ?_⟩
  rw [← e]
  simp [fk]
theorem fk_at {kp : List Nat} {k : Nat} (h : k < nums.length) : (fk ss nums kb kp).args[k]? = some (argsK ss nums kb k) := by simp [fk, h]
theorem args_len {k : Nat} {x : Int} (h : nums[k]? = some x) : (argsK ss nums kb k).length = arOf ss x := by
  unfold argsK
  rw [argK_len, List.getD_eq_getElem?_getD, h]; rfl
theorem args_var {k : Nat} {x : Int} (h : nums[k]? = some x) (hx : x < 0) : argsK ss nums kb k = [] := by
  refine List.eq_nil_of_length_eq_zero ?_
  rw [args_len h, arOf_neg' hx]
/-- Two parts have one root. -/
def EqR (kp : List Nat) (p q : Nat) : Prop := ∃ m r, rootS kp m p = some r ∧ rootS kp m q = some r
/-- What stands for a symbol has its symbol, and arguments that are the same; but for some parts. -/
def CongK (ss : Sg) (nums : List Int) (kb kp : List Nat) (E : Nat → Prop) : Prop :=
  ∀ (p q : Nat) (x : Int), nums[p]? = some x → 0 ≤ x → ¬ E p → kp[p]? = some q → nums[q]? = some x ∧ ∀ e ∈ (argsK ss nums kb p).zip (argsK ss nums kb q), EqR kp e.1 e.2
structure StepK (ss : Sg) (nums : List Int) (kb kp kp' : List Nat) : Prop where
  len : kp'.length = kp.length
  eq : ∀ p q : Nat, EqR kp p q → EqR kp' p q
  old : ∀ p q : Nat, kp[p]? = some q → q ≠ p → kp'[p]? = some q
  cong : ∀ E, CongK ss nums kb kp E → CongK ss nums kb kp' E
theorem StepK.refl (kp : List Nat) : StepK ss nums kb kp kp := ⟨rfl, fun _ _ h => h, fun _ _ h _ => h, fun _ h => h⟩
theorem StepK.trans {k1 k2 k3 : List Nat} (h : StepK ss nums kb k1 k2) (g : StepK ss nums kb k2 k3) : StepK ss nums kb k1 k3 :=
  ⟨g.len.trans h.len, fun p q e => g.eq p q (h.eq p q e), fun p q e n => g.old p q (h.old p q e n) n, fun E e => g.cong E (h.cong E e)⟩
theorem EqR.set {kp : List Nat} {x y p q : Nat} (hx : kp[x]? = some x) (hy : kp[y]? = some y) (hxy : x ≠ y) (h : EqR kp p q) : EqR (kp.set x y) p q := by
  obtain ⟨m, r, h1, h2⟩ := h
  exact ⟨m + 1, _, rootS_setp hx hy hxy h1, rootS_setp hx hy hxy h2⟩
theorem set_old {kp : List Nat} {x y p q : Nat} (hx : kp[x]? = some x) (h : kp[p]? = some q) (hne : q ≠ p) : (kp.set x y)[p]? = some q := by
  have : x ≠ p := fun e => by subst e; rw [hx] at h; cases h; exact hne rfl
  rw [List.getElem?_set_ne this]; exact h
theorem cong_set {kp : List Nat} {x y : Nat} {E : Nat → Prop} (hx : kp[x]? = some x) (hy : kp[y]? = some y) (hxy : x ≠ y) (h : CongK ss nums kb kp E) : CongK ss nums kb (kp.set x y) (fun p => E p ∨ p = x) := by
  intro p q z hz h0 hE hp
  have hne : x ≠ p := fun e => hE (.inr e.symm)
  rw [List.getElem?_set_ne hne] at hp
  obtain ⟨h1, h2⟩ := h p q z hz h0 (fun e => hE (.inl e)) hp
  exact ⟨h1, fun e he => (h2 e he).set hx hy hxy⟩
theorem step_var {kp : List Nat} {x y : Nat} {z : Int} (hx : kp[x]? = some x) (hy : kp[y]? = some y) (hxy : x ≠ y) (hz : nums[x]? = some z) (h0 : z < 0) : StepK ss nums kb kp (kp.set x y) := by
  refine ⟨by simp, fun p q h => h.set hx hy hxy, fun p q h hne => set_old hx h hne, fun E h p q w hw h1 hE hp => ?_⟩
  by_cases e : p = x
  · subst e; rw [hz] at hw; cases hw; omega
  · exact cong_set hx hy hxy h p q w hw h1 (fun e2 => e2.elim hE e) hp
theorem val_set {kp : List Nat} {ν : Nat → List Int} {x y : Nat} (h : Val ss (fk ss nums kb kp) ν) (e : ν x = ν y) : Val ss (fk ss nums kb (kp.set x y)) ν :=
  ⟨h.trm, h.sym, h.var, mem_set_prx h.prx e⟩
theorem heads_set {c x y : Nat} {kp : List Nat} (h : Heads c kp) (hx : kp[x]? = some x) (hxy : x ≠ y) : 1 ≤ c ∧ Heads (c - 1) (kp.set x y) := h.setp hx hxy

/-- Two parts that may become the same become it, within rounds enough. -/
theorem uniK_some (ho : ∀ p, p < nums.length → ∀ q ∈ argsK ss nums kb p, q < nums.length) {ν : Nat → List Int} : ∀ (f : Nat) (kp : List Nat) (a b c : Nat), kp.length = nums.length → RootsIn (nums.length + 2 - c) kp → Heads c kp → c ≤ nums.length → nums.length + 3 + c ≤ f → Val ss (fk ss nums kb kp) ν → a < nums.length → b < nums.length → ν a = ν b →
    ∃ kp' c', uniK ss nums kb f kp a b = some kp' ∧ StepK ss nums kb kp kp' ∧ EqR kp' a b ∧ c' ≤ c ∧ RootsIn (nums.length + 2 - c') kp' ∧ Heads c' kp' ∧ Val ss (fk ss nums kb kp') ν
  | 0, kp, a, b, c, _, _, _, _, hf, _, _, _, _ => by omega
  | f + 1, kp, a, b, c, hl, hR, hH, hc, hf, hV, ha, hb, hab => by
    obtain ⟨x, hx⟩ := hR a (by omega)
    obtain ⟨y, hy⟩ := hR b (by omega)
    have hxf := rootS_mono (show nums.length + 2 - c ≤ f by omega) hx
    have hyf := rootS_mono (show nums.length + 2 - c ≤ f by omega) hy
    obtain ⟨_, hxl, hxx⟩ := rootS_lt hx
    obtain ⟨_, hyl, hyy⟩ := rootS_lt hy
    have hxn : x < nums.length := by omega
    have hyn : y < nums.length := by omega
    have hνx := rootS_val hV.prx hx
    have hνy := rootS_val hV.prx hy
    have hνxy : ν x = ν y := by rw [← hνx, ← hνy, hab]
    have hgx := List.getElem?_eq_getElem hxn
    have hgy := List.getElem?_eq_getElem hyn
    have e3 : nums.getD y 0 = nums[y] := by rw [List.getD_eq_getElem?_getD, hgy]; rfl
    unfold uniK
    rw [hxf, hyf]
    simp only
    by_cases hxy : x = y
    · subst hxy
      rw [if_pos rfl]
      exact ⟨kp, c, rfl, StepK.refl _, ⟨f, x, hxf, hyf⟩, Nat.le_refl _, hR, hH, hV⟩
    rw [if_neg hxy, e3]
    have eqy : EqR (kp.set y x) a b := by
      refine ⟨f + 1, x, ?_, ?_⟩
      · have := rootS_setp hyy hxx (fun e => hxy e.symm) hxf
        rwa [if_neg hxy] at this
      · have := rootS_setp hyy hxx (fun e => hxy e.symm) hyf
        rwa [if_pos rfl] at this
    have eqx : EqR (kp.set x y) a b := by
      refine ⟨f + 1, y, ?_, ?_⟩
      · have := rootS_setp hxx hyy hxy hxf
        rwa [if_pos rfl] at this
      · have := rootS_setp hxx hyy hxy hyf
        rwa [if_neg (fun e => hxy e.symm)] at this
    obtain ⟨hc1, hHx⟩ := heads_set hH hxx hxy
    obtain ⟨_, hHy⟩ := heads_set hH hyy (fun e => hxy e.symm)
    have hRx : RootsIn (nums.length + 2 - (c - 1)) (kp.set x y) := (hR.setp hxx hyy hxy).mono (by omega)
    have hRy : RootsIn (nums.length + 2 - (c - 1)) (kp.set y x) := (hR.setp hyy hxx (fun e => hxy e.symm)).mono (by omega)
    by_cases h0 : nums[y] < 0
    · rw [if_pos h0, args_var hgy h0]
      simp only [List.length_nil, Nat.zero_le, if_true, List.zip_nil_left]
      exact ⟨kp.set y x, c - 1, rfl, step_var hyy hxx (fun e => hxy e.symm) hgy h0, eqy, by omega, hRy, hHy, val_set hV hνxy.symm⟩
    rw [if_neg h0]
    by_cases h1 : nums[x] < 0
    · rw [args_var hgx h1]
      simp only [List.length_nil, Nat.zero_le, if_true, List.zip_nil_left]
      exact ⟨kp.set x y, c - 1, rfl, step_var hxx hyy hxy hgx h1, eqx, by omega, hRx, hHx, val_set hV hνxy⟩
    obtain ⟨s1, s2⟩ := hV.sym x nums[x] _ hgx (fk_at hxn) (by omega)
    obtain ⟨s3, s4⟩ := hV.sym y nums[y] _ hgy (fk_at hyn) (by omega)
    rw [s1, s3, List.cons.injEq] at hνxy
    obtain ⟨hsym, hfl⟩ := hνxy
    have hlen : (argsK ss nums kb x).length = (argsK ss nums kb y).length := by rw [s2, s4, hsym]
    have hpair := flat_zip (ss := ss) (ν := ν) _ _ hlen (fun k hk => hV.trm k (ho x hxn k hk)) (fun k hk => hV.trm k (ho y hyn k hk)) hfl
    rw [if_pos (by omega)]
    have hmem : ∀ e ∈ (argsK ss nums kb x).zip (argsK ss nums kb y), e.1 < nums.length ∧ e.2 < nums.length := fun e he =>
      ⟨ho x hxn _ (List.of_mem_zip he).1, ho y hyn _ (List.of_mem_zip he).2⟩
    have key : ∀ (P : List (Nat × Nat)) (kp2 : List Nat) (c2 : Nat), (∀ e ∈ P, e.1 < nums.length ∧ e.2 < nums.length) → (∀ e ∈ P, ν e.1 = ν e.2) → kp2.length = nums.length → RootsIn (nums.length + 2 - c2) kp2 → Heads c2 kp2 → c2 ≤ nums.length → nums.length + 3 + c2 ≤ f → Val ss (fk ss nums kb kp2) ν →
        ∃ kp' c', uniL (uniK ss nums kb f) P kp2 = some kp' ∧ StepK ss nums kb kp2 kp' ∧ (∀ e ∈ P, EqR kp' e.1 e.2) ∧ c' ≤ c2 ∧ RootsIn (nums.length + 2 - c') kp' ∧ Heads c' kp' ∧ Val ss (fk ss nums kb kp') ν := by
      intro P
      induction P with
      | nil => intro kp2 c2 _ _ _ g1 g2 _ _ g3; exact ⟨kp2, c2, rfl, StepK.refl _, fun e he => by simp at he, Nat.le_refl _, g1, g2, g3⟩
      | cons e P ih =>
        intro kp2 c2 hm hp g0 g1 g2 g4 g5 g3
        obtain ⟨k3, c3, q1, q2, q3, q4, q5, q6, q7⟩ := uniK_some ho f kp2 e.1 e.2 c2 g0 g1 g2 g4 g5 g3 (hm e (List.mem_cons_self ..)).1 (hm e (List.mem_cons_self ..)).2 (hp e (List.mem_cons_self ..))
        obtain ⟨k4, c4, r1, r2, r3, r4, r5, r6, r7⟩ := ih k3 c3 (fun e he => hm e (List.mem_cons_of_mem _ he)) (fun e he => hp e (List.mem_cons_of_mem _ he)) (q2.len.trans g0) q5 q6 (by omega) (by omega) q7
        refine ⟨k4, c4, ?_, q2.trans r2, fun e' he' => ?_, by omega, r5, r6, r7⟩
        · unfold uniL
          rw [q1]; exact r1
        · rcases List.mem_cons.1 he' with rfl | he'
          · exact r2.eq _ _ q3
          · exact r3 e' he'
    obtain ⟨k4, c4, r1, r2, r3, r4, r5, r6, r7⟩ := key _ (kp.set x y) (c - 1) hmem hpair (by simpa using hl) hRx hHx (by omega) (by omega) (val_set hV (by rw [s1, s3, hsym, hfl]))
    refine ⟨k4, c4, r1, ⟨by rw [r2.len]; simp, fun p q h => r2.eq _ _ (h.set hxx hyy hxy), fun p q h hne => r2.old _ _ (set_old hxx h hne) hne, fun E h p q z hz hz0 hE hp => ?_⟩, r2.eq _ _ eqx, by omega, r5, r6, r7⟩
    by_cases e : p = x
    · subst e
      have hk := r2.old p y (by rw [List.getElem?_set_self hxl]) (fun e => hxy e.symm)
      rw [hk] at hp
      cases hp
      rw [hgx] at hz
      cases hz
      exact ⟨by rw [hgy, hsym], r3⟩
    · exact r2.cong _ (cong_set hxx hyy hxy h) p q z hz hz0 (fun e2 => e2.elim hE e) hp

/-- What may become of all parts stays so. -/
theorem uniK_val (ho : ∀ p, p < nums.length → ∀ q ∈ argsK ss nums kb p, q < nums.length) {ν : Nat → List Int} : ∀ (f : Nat) (kp : List Nat) (a b : Nat) (kp' : List Nat), kp.length = nums.length → Val ss (fk ss nums kb kp) ν → a < nums.length → b < nums.length → ν a = ν b → uniK ss nums kb f kp a b = some kp' → Val ss (fk ss nums kb kp') ν ∧ kp'.length = nums.length
  | 0, kp, a, b, kp', _, _, _, _, _, h => by cases h
  | f + 1, kp, a, b, kp', hl, hV, ha, hb, hab, h => by
    unfold uniK at h
    cases hx : rootS kp f a with
    | none => rw [hx] at h; cases h
    | some x =>
    cases hy : rootS kp f b with
    | none => rw [hx, hy] at h; cases h
    | some y =>
    rw [hx, hy] at h
    simp only at h
    obtain ⟨_, hxl, hxx⟩ := rootS_lt hx
    obtain ⟨_, hyl, hyy⟩ := rootS_lt hy
    have hxn : x < nums.length := by omega
    have hyn : y < nums.length := by omega
    have hνxy : ν x = ν y := by rw [← rootS_val hV.prx hx, ← rootS_val hV.prx hy, hab]
    have hgx := List.getElem?_eq_getElem hxn
    have hgy := List.getElem?_eq_getElem hyn
    have e3 : nums.getD y 0 = nums[y] := by rw [List.getD_eq_getElem?_getD, hgy]; rfl
    rw [e3] at h
    split at h
    · cases h; exact ⟨hV, hl⟩
    split at h
    · rename_i h0
      rw [args_var hgy h0] at h
      simp only [List.length_nil, Nat.zero_le, if_true, List.zip_nil_left] at h
      cases h
      exact ⟨val_set hV hνxy.symm, by simpa using hl⟩
    rename_i h0
    by_cases h1 : nums[x] < 0
    · rw [args_var hgx h1] at h
      simp only [List.length_nil, Nat.zero_le, if_true, List.zip_nil_left] at h
      cases h
      exact ⟨val_set hV hνxy, by simpa using hl⟩
    obtain ⟨s1, s2⟩ := hV.sym x nums[x] _ hgx (fk_at hxn) (by omega)
    obtain ⟨s3, s4⟩ := hV.sym y nums[y] _ hgy (fk_at hyn) (by omega)
    have hνs := hνxy
    rw [s1, s3, List.cons.injEq] at hνs
    obtain ⟨hsym, hfl⟩ := hνs
    have hlen : (argsK ss nums kb x).length = (argsK ss nums kb y).length := by rw [s2, s4, hsym]
    have hpair := flat_zip (ss := ss) (ν := ν) _ _ hlen (fun k hk => hV.trm k (ho x hxn k hk)) (fun k hk => hV.trm k (ho y hyn k hk)) hfl
    rw [if_pos (by omega)] at h
    have hmem : ∀ e ∈ (argsK ss nums kb x).zip (argsK ss nums kb y), e.1 < nums.length ∧ e.2 < nums.length := fun e he =>
      ⟨ho x hxn _ (List.of_mem_zip he).1, ho y hyn _ (List.of_mem_zip he).2⟩
    have key : ∀ (P : List (Nat × Nat)) (kp2 : List Nat), (∀ e ∈ P, e.1 < nums.length ∧ e.2 < nums.length) → (∀ e ∈ P, ν e.1 = ν e.2) → kp2.length = nums.length → Val ss (fk ss nums kb kp2) ν → uniL (uniK ss nums kb f) P kp2 = some kp' → Val ss (fk ss nums kb kp') ν ∧ kp'.length = nums.length := by
      intro P
      induction P with
      | nil => intro kp2 _ _ g0 g3 e; cases e; exact ⟨g3, g0⟩
      | cons e P ih =>
        intro kp2 hm hp g0 g3 hu
        unfold uniL at hu
        cases h5 : uniK ss nums kb f kp2 e.1 e.2 with
        | none => rw [h5] at hu; cases hu
        | some k3 =>
          rw [h5] at hu
          obtain ⟨v1, v2⟩ := uniK_val ho f kp2 e.1 e.2 k3 g0 g3 (hm e (List.mem_cons_self ..)).1 (hm e (List.mem_cons_self ..)).2 (hp e (List.mem_cons_self ..)) h5
          exact ih k3 (fun e he => hm e (List.mem_cons_of_mem _ he)) (fun e he => hp e (List.mem_cons_of_mem _ he)) v2 v1 hu
    exact key _ _ hmem hpair (by simpa using hl) (val_set hV hνxy) h
end

end Go.Proofs.Ytojofbmpknpggaa

/- The kernel's fit: what its parts become, and what form writes: plain mathematics. -/
namespace Go.Proofs.Ytojofbmpknpggaa
open Go.RowKit

section
variable {ss : Sg} {nums : List Int}
theorem apV_flatMap (σ : Int → List Int) (f : Nat → List Int) : ∀ us : List Nat, apV σ (us.flatMap f) = us.flatMap fun u => apV σ (f u)
  | [] => rfl
  | u :: us => by rw [List.flatMap_cons, List.flatMap_cons, apV_append, apV_flatMap σ f us]
theorem bhd_prt (h : PartsOk ss nums) {p : Nat} (hp : p < nums.length) : bhd ss nums p = p + (prt ss nums p).length ∧ PrtIs ss nums p (prt ss nums p) := by
  obtain ⟨r, hr⟩ := h p hp
  have hP := prt_is hr
  refine ⟨?_, hP⟩
  have h1 := hP.le
  unfold bhd bhj
  rw [hP.whole]
  simp only [List.length_drop]
  omega
/-- So many parts, one behind the other, are those at the indexes. -/
theorem args_flat (h : PartsOk ss nums) : ∀ (c p : Nat) (r : List Int), p ≤ nums.length → scan ss c (nums.drop p) = some r → nums.drop p = (argK (kbF ss nums) c p).flatMap (prt ss nums) ++ r ∧ ∀ q ∈ argK (kbF ss nums) c p, q < nums.length ∧ p ≤ q
  | 0, p, r, hp, hs => by
    rw [scan_zero] at hs
    cases hs
    exact ⟨rfl, fun q hq => by cases hq⟩
  | c + 1, p, r, hp, hs => by
    by_cases hlt : p < nums.length
    · obtain ⟨h1, hP⟩ := bhd_prt h hlt
      have h2 := hs
      rw [Nat.add_comm c 1, scan_add, hP.whole] at h2
      have hle := hP.le
      have hln := hP.len
      obtain ⟨h3, h4⟩ := args_flat h c (p + (prt ss nums p).length) r (by omega) h2
      have hk : (kbF ss nums).getD p 0 = p + (prt ss nums p).length := by rw [List.getD_eq_getElem?_getD, kbF_get hlt, Option.getD_some, h1]
      unfold argK
      rw [hk]
      refine ⟨?_, fun q hq => ?_⟩
      · rw [List.flatMap_cons, List.append_assoc, ← h3]; exact hP.split
      · rcases List.mem_cons.1 hq with rfl | hq
        · exact ⟨hlt, Nat.le_refl _⟩
        · have := h4 q hq; omega
    · rw [List.drop_eq_nil_of_le (by omega)] at hs
      cases hs
theorem part_node (h : PartsOk ss nums) {p : Nat} (hp : p < nums.length) : prt ss nums p = nums[p] :: (argsK ss nums (kbF ss nums) p).flatMap (prt ss nums) ∧ ∀ q ∈ argsK ss nums (kbF ss nums) p, q < nums.length ∧ p < q := by
  obtain ⟨_, hP⟩ := bhd_prt h hp
  obtain ⟨⟨r, hr⟩, _⟩ := bhd_all h hp
  obtain ⟨h1, h2⟩ := args_flat h _ (p + 1) r (by omega) hr
  have h3 : argsK ss nums (kbF ss nums) p = argK (kbF ss nums) (arOf ss nums[p]) (p + 1) := by unfold argsK; rw [List.getD_eq_getElem?_getD, List.getElem?_eq_getElem hp]; rfl
  rw [h3]
  refine ⟨?_, fun q hq => by have := h2 q hq; omega⟩
  obtain ⟨_, h4⟩ := scan_step (N := 0) hP.whole
  rw [Nat.zero_add, hr] at h4
  cases h4
  have h5 := hP.split
  rw [List.drop_eq_getElem_cons hp, h1, ← List.cons_append] at h5
  exact (List.append_cancel_right h5).symm
theorem prt_var (h : PartsOk ss nums) {p : Nat} (hp : p < nums.length) (hx : nums[p] < 0) : prt ss nums p = [nums[p]] := by
  rw [(part_node h hp).1, args_var (List.getElem?_eq_getElem hp) hx]; rfl
/-- Values of the variables are values of all parts. -/
theorem val_of (h : PartsOk ss nums) {σ : Int → List Int} (hσ : GoodV ss σ) {kp : List Nat} (hp : ∀ k p : Nat, kp[k]? = some p → apV σ (prt ss nums k) = apV σ (prt ss nums p)) : Val ss (fk ss nums (kbF ss nums) kp) (fun p => apV σ (prt ss nums p)) := by
  refine ⟨fun k hk => ?_, fun k x us hx hu h0 => ?_, fun k x us hx hu h0 => ?_, hp⟩
  · exact scan_apV hσ _ _ _ (bhd_prt h hk).2.good
  · obtain ⟨hk, rfl⟩ := fk_args hu
    have hx' : nums[k]? = some x := hx
    have e := List.getElem?_eq_getElem hk
    rw [e] at hx'
    cases hx'
    refine ⟨?_, args_len e⟩
    rw [(part_node h hk).1, show nums[k] :: (argsK ss nums (kbF ss nums) k).flatMap (prt ss nums) = [nums[k]] ++ (argsK ss nums (kbF ss nums) k).flatMap (prt ss nums) from rfl, apV_append, apV_one, if_neg (by omega), apV_flatMap]
    rfl
  · obtain ⟨hk, rfl⟩ := fk_args hu
    exact args_var (show nums[k]? = some x from hx) h0
theorem kpF_sym {p : Nat} {x : Int} (hx : nums[p]? = some x) (h0 : 0 ≤ x) : (kpF nums)[p]? = some p := by
  obtain ⟨hp, rfl⟩ := List.getElem?_eq_some_iff.1 hx
  rw [kpF_get hp, List.getD_eq_getElem?_getD, hx, Option.getD_some, if_neg (by omega)]
theorem kpF_var {p : Nat} {x : Int} (hx : nums[p]? = some x) (h0 : x < 0) : (kpF nums)[p]? = some (nums.idxOf x) ∧ nums[nums.idxOf x]? = some x ∧ (kpF nums)[nums.idxOf x]? = some (nums.idxOf x) := by
  obtain ⟨hp, rfl⟩ := List.getElem?_eq_some_iff.1 hx
  have hm := List.idxOf_lt_length_iff.2 (List.mem_of_getElem? hx)
  have hg : nums[nums.idxOf nums[p]]? = some nums[p] := by rw [List.getElem?_eq_getElem hm, List.getElem_idxOf]
  refine ⟨by rw [kpF_get hp, List.getD_eq_getElem?_getD, hx, Option.getD_some, if_pos h0], hg, ?_⟩
  rw [kpF_get hm, List.getD_eq_getElem?_getD, hg, Option.getD_some, if_pos h0]
theorem val_first (h : PartsOk ss nums) {σ : Int → List Int} (hσ : GoodV ss σ) : Val ss (fk ss nums (kbF ss nums) (kpF nums)) (fun p => apV σ (prt ss nums p)) := by
  refine val_of h hσ fun k p hk => ?_
  have hkl : k < nums.length := by have := (List.getElem?_eq_some_iff.1 hk).1; rwa [kpF_len] at this
  have hg := List.getElem?_eq_getElem hkl
  by_cases h0 : nums[k] < 0
  · obtain ⟨h1, h2, _⟩ := kpF_var hg h0
    rw [h1] at hk
    cases hk
    obtain ⟨hi, e⟩ := List.getElem?_eq_some_iff.1 h2
    rw [prt_var h hkl h0, prt_var h hi (by rw [e]; exact h0), e]
  · rw [kpF_sym hg (by omega)] at hk
    cases hk
    rfl
theorem root_first {p q : Nat} (hp : (kpF nums)[p]? = some q) (hq : (kpF nums)[q]? = some q) : rootS (kpF nums) 2 p = some q := by
  unfold rootS
  rw [hp]
  simp only
  split
  · rename_i e; rw [e]
  · unfold rootS
    rw [hq]
    simp
theorem roots_first : RootsIn 2 (kpF nums) := by
  intro k hk
  rw [kpF_len] at hk
  have hg := List.getElem?_eq_getElem hk
  by_cases h0 : nums[k] < 0
  · obtain ⟨h1, _, h3⟩ := kpF_var hg h0
    exact ⟨_, root_first h1 h3⟩
  · have h1 := kpF_sym hg (show 0 ≤ nums[k] by omega)
    exact ⟨_, root_first h1 h1⟩
theorem heads_first : Heads nums.length (kpF nums) := ⟨List.range nums.length, fun k hk => by
  have := (List.getElem?_eq_some_iff.1 hk).1
  rw [kpF_len] at this
  exact List.mem_range.2 this, by simp⟩
theorem cong_first {kb : List Nat} (ho : ∀ p, p < nums.length → ∀ q ∈ argsK ss nums kb p, q < nums.length) : CongK ss nums kb (kpF nums) (fun _ => False) := by
  intro p q x hx h0 _ hp
  rw [kpF_sym hx h0] at hp
  cases hp
  refine ⟨hx, fun e he => ?_⟩
  have hpl := (List.getElem?_eq_some_iff.1 hx).1
  obtain ⟨i, hi, e1⟩ := List.getElem_of_mem he
  rw [List.getElem_zip] at e1
  rw [← e1]
  simp only
  have hl : i < (argsK ss nums kb p).length := by rw [List.length_zip] at hi; omega
  obtain ⟨r, hr⟩ := roots_first (nums := nums) ((argsK ss nums kb p)[i]) (by rw [kpF_len]; exact ho p hpl _ (List.getElem_mem hl))
  exact ⟨2, r, hr, hr⟩

section
variable {kb kp : List Nat} {R : Nat}
theorem fk_arn (har : ArOk ss) : ArN ss (fk ss nums kb kp) := fun k x us hx hu => by
  obtain ⟨hk, rfl⟩ := fk_args hu
  have e : (argsK ss nums kb k).length = arOf ss x := args_len hx
  exact ⟨e, by rw [e]; exact arOf_le har _⟩
theorem fk_al : (fk ss nums kb kp).args.length = (fk ss nums kb kp).tops.length := by simp [fk]
/-- All parts become terms of finite depth. -/
theorem fin_all {ν : Nat → List Int} (ho : ∀ p, p < nums.length → ∀ q ∈ argsK ss nums kb p, q < nums.length) (hV : Val ss (fk ss nums kb kp) ν) (hR : RootsIn R kp) (hl : kp.length = nums.length) : ∀ (n p : Nat), p < nums.length → (ν p).length ≤ n → FinD (fk ss nums kb kp) R n p
  | 0, p, hp, hn => by
    have := scan_len (hV.trm p hp)
    omega
  | n + 1, p, hp, hn => by
    obtain ⟨r, hr⟩ := hR p (by omega)
    obtain ⟨_, hrl, _⟩ := rootS_lt hr
    have hrn : r < nums.length := by omega
    refine ⟨r, argsK ss nums kb r, hr, fk_at hrn, fun u hu => ?_⟩
    have hg := List.getElem?_eq_getElem hrn
    by_cases h0 : nums[r] < 0
    · rw [args_var hg h0] at hu; cases hu
    · have hs := (hV.sym r nums[r] _ hg (fk_at hrn) (by omega)).1
      rw [rootS_val hV.prx hr, hs, List.length_cons] at hn
      have := flat_lt (ν := ν) u hu
      exact fin_all ho hV hR hl n u (ho r hrn u hu) (by omega)
theorem eqr_nu (hR : RootsIn R kp) {p q : Nat} (h : EqR kp p q) : nuF (fk ss nums kb kp) R p = nuF (fk ss nums kb kp) R q := by
  obtain ⟨m, r, h1, h2⟩ := h
  exact nu_root (F := fk ss nums kb kp) (root_by hR h1) (root_by hR h2)
theorem map_zip {f : Nat → List Int} : ∀ (us vs : List Nat), us.length = vs.length → (∀ e ∈ us.zip vs, f e.1 = f e.2) → us.map f = vs.map f
  | [], [], _, _ => rfl
  | [], _ :: _, h, _ => by simp at h
  | _ :: _, [], h, _ => by simp at h
  | u :: us, v :: vs, h, he => by
    rw [List.map_cons, List.map_cons, he (u, v) (by simp), map_zip us vs (by simpa using h) fun e h2 => he e (by simp [h2])]
theorem cong_nu (hR : RootsIn R kp) (hC : CongK ss nums kb kp fun _ => False) : ∀ (m p r : Nat) (x : Int), rootS kp m p = some r → nums[p]? = some x → 0 ≤ x → nums[r]? = some x ∧ (argsK ss nums kb p).map (nuF (fk ss nums kb kp) R) = (argsK ss nums kb r).map (nuF (fk ss nums kb kp) R)
  | 0, p, r, x, h, _, _ => by cases h
  | m + 1, p, r, x, h, hx, h0 => by
    unfold rootS at h
    cases e : kp[p]? with
    | none => rw [e] at h; cases h
    | some q =>
      rw [e] at h
      simp only at h
      split at h
      · cases h; exact ⟨hx, rfl⟩
      · obtain ⟨h1, h2⟩ := hC p q x hx h0 (fun h => h) e
        obtain ⟨h3, h4⟩ := cong_nu hR hC m q r x h h1 h0
        refine ⟨h3, Eq.trans ?_ h4⟩
        exact map_zip _ _ (by rw [args_len hx, args_len h1]) fun e he => eqr_nu hR (h2 e he)
open Classical in
/-- What the variables become. -/
noncomputable def tauK (ss : Sg) (nums : List Int) (kb kp : List Nat) (R : Nat) (z : Int) : List Int := if z ∈ nums then nuF (fk ss nums kb kp) R (nums.idxOf z) else [z]
theorem tau_good (har : ArOk ss) : GoodV ss (tauK ss nums kb kp R) := fun z hz => by
  unfold tauK
  split
  · exact nu_scan (fk_arn har) fk_al _
  · exact scan_neg hz
end
/-- What the parts become is what becomes of them where the variables become what they become. -/
theorem tau_prt (h : PartsOk ss nums) {kp : List Nat} {R : Nat} (hR : RootsIn R kp) (hl : kp.length = nums.length) (hC : CongK ss nums (kbF ss nums) kp fun _ => False) (hS : StepK ss nums (kbF ss nums) (kpF nums) kp)
    (hF : ∀ p, p < nums.length → ∃ n, FinD (fk ss nums (kbF ss nums) kp) R n p) : ∀ (d p : Nat), nums.length - p ≤ d → p < nums.length → apV (tauK ss nums (kbF ss nums) kp R) (prt ss nums p) = nuF (fk ss nums (kbF ss nums) kp) R p
  | 0, p, hd, hp => by omega
  | d + 1, p, hd, hp => by
    have hg := List.getElem?_eq_getElem hp
    by_cases h0 : nums[p] < 0
    · rw [prt_var h hp h0, apV_one, if_pos h0]
      unfold tauK
      rw [if_pos (List.getElem_mem hp)]
      obtain ⟨h1, _, h3⟩ := kpF_var hg h0
      exact (eqr_nu hR (hS.eq _ _ ⟨2, _, root_first h1 h3, root_first h3 h3⟩)).symm
    · obtain ⟨r, hr⟩ := hR p (by omega)
      obtain ⟨_, hrl, _⟩ := rootS_lt hr
      have hrn : r < nums.length := by omega
      obtain ⟨h1, h2⟩ := cong_nu hR hC R p r _ hr hg (by omega)
      obtain ⟨h3, h4⟩ := part_node h hp
      have h5 := (nu_node (F := fk ss nums (kbF ss nums) kp) (hF p hp) hr (fk_at hrn) h1).1
      rw [h5, h3, show nums[p] :: (argsK ss nums (kbF ss nums) p).flatMap (prt ss nums) = [nums[p]] ++ (argsK ss nums (kbF ss nums) p).flatMap (prt ss nums) from rfl, apV_append, apV_one, if_neg h0, apV_flatMap]
      have e7 : ((argsK ss nums (kbF ss nums) p).flatMap fun u => apV (tauK ss nums (kbF ss nums) kp R) (prt ss nums u)) = (argsK ss nums (kbF ss nums) r).flatMap (nuF (fk ss nums (kbF ss nums) kp) R) := by
        rw [List.flatMap_def, List.flatMap_def, ← h2]
        congr 1
        refine List.map_congr_left fun q hq => ?_
        have := h4 q hq
        exact tau_prt h hR hl hC hS hF d q (by omega) this.1
      rw [e7]
      rfl

section
variable {kb kp : List Nat} {R : Nat}
theorem rawOk_pre {a b : List Int} (h : RawOk (a ++ b)) : RawOk a := by
  obtain ⟨h1, h2⟩ := h
  rw [List.length_append] at h1
  refine ⟨by omega, ?_⟩
  have key : ∀ (b l : List Int), l.length ≤ (b.foldl addSeen l).length := by
    intro b
    induction b with
    | nil => intro l; exact Nat.le_refl _
    | cons z b ih =>
      intro l
      obtain ⟨r, hr⟩ := addSeen_ext l z
      have := ih (addSeen l z)
      rw [hr, List.length_append] at this
      show _ ≤ (b.foldl addSeen (addSeen l z)).length
      rw [hr]
      omega
  unfold seenA at h2 ⊢
  rw [List.foldl_append] at h2
  exact Nat.le_trans (key b _) h2
/-- What is written is what the part becomes. -/
theorem wr_nu (hR : RootsIn R kp) (hl : kp.length = nums.length) : ∀ (f p : Nat) (raw raw' : List Int) (ok : Bool), wrK ss nums kb kp f p raw = some (ok, raw') → (∃ n, FinD (fk ss nums kb kp) R n p) → (ok = true → raw' = raw ++ nuF (fk ss nums kb kp) R p) ∧ (ok = false → ¬ RawOk (raw ++ nuF (fk ss nums kb kp) R p))
  | 0, p, raw, raw', ok, h, _ => by cases h
  | f + 1, p, raw, raw', ok, h, hf => by
    unfold wrK at h
    cases hr : rootS kp f p with
    | none => rw [hr] at h; cases h
    | some r =>
    rw [hr] at h
    simp only at h
    obtain ⟨_, hrl, _⟩ := rootS_lt hr
    have hrn : r < nums.length := by omega
    have hg := List.getElem?_eq_getElem hrn
    have e3 : nums.getD r 0 = nums[r] := by rw [List.getD_eq_getElem?_getD, hg]; rfl
    obtain ⟨h5, h6⟩ := nu_node (F := fk ss nums kb kp) hf (root_by hR hr) (fk_at hrn) hg
    rw [e3] at h
    rw [h5]
    split at h
    · rename_i h60
      cases h
      refine ⟨fun e => (by cases e), fun _ hok => ?_⟩
      have := hok.1
      rw [List.length_append, List.length_cons] at this
      omega
    split at h
    · rename_i h12
      cases h
      refine ⟨fun e => (by cases e), fun _ hok => ?_⟩
      rw [show raw ++ nums[r] :: (argsK ss nums kb r).flatMap (nuF (fk ss nums kb kp) R) = (raw ++ [nums[r]]) ++ (argsK ss nums kb r).flatMap (nuF (fk ss nums kb kp) R) by simp] at hok
      have := (rawOk_pre hok).2
      rw [seenA_add] at this
      omega
    have key : ∀ (us : List Nat) (raw0 : List Int), (∀ u ∈ us, ∃ n, FinD (fk ss nums kb kp) R n u) → wrL (wrK ss nums kb kp f) us raw0 = some (ok, raw') → (ok = true → raw' = raw0 ++ us.flatMap (nuF (fk ss nums kb kp) R)) ∧ (ok = false → ¬ RawOk (raw0 ++ us.flatMap (nuF (fk ss nums kb kp) R))) := by
      intro us
      induction us with
      | nil => intro raw0 _ e; cases e; exact ⟨fun _ => by simp, fun e => by cases e⟩
      | cons u us ih =>
        intro raw0 hu e
        unfold wrL at e
        cases e1 : wrK ss nums kb kp f u raw0 with
        | none => rw [e1] at e; cases e
        | some q =>
          obtain ⟨b1, r1⟩ := q
          rw [e1] at e
          obtain ⟨w1, w2⟩ := wr_nu hR hl f u raw0 r1 b1 e1 (hu u (List.mem_cons_self ..))
          rw [List.flatMap_cons, ← List.append_assoc]
          cases b1 with
          | false =>
            cases e
            exact ⟨fun e => (by cases e), fun _ hok => w2 rfl (rawOk_pre hok)⟩
          | true =>
            have h1 := w1 rfl
            subst h1
            exact ih _ (fun v hv => hu v (List.mem_cons_of_mem _ hv)) e
    have := key _ _ h6 h
    rw [show (raw ++ [nums[r]]) ++ (argsK ss nums kb r).flatMap (nuF (fk ss nums kb kp) R) = raw ++ nums[r] :: (argsK ss nums kb r).flatMap (nuF (fk ss nums kb kp) R) by simp] at this
    exact this
/-- Writing ends. -/
theorem wr_some (hR : RootsIn R kp) : ∀ (n p : Nat), FinD (fk ss nums kb kp) R n p → ∀ (f : Nat) (raw : List Int), n + R ≤ f → ∃ r, wrK ss nums kb kp f p raw = some r
  | 0, p, h, _, _, _ => h.elim
  | n + 1, p, h, f, raw, hf => by
    obtain ⟨r, us, h1, h2, h3⟩ := h
    obtain ⟨_, rfl⟩ := fk_args h2
    obtain ⟨f', rfl⟩ : ∃ f', f = f' + 1 := ⟨f - 1, by omega⟩
    have h1' := rootS_mono (show R ≤ f' by omega) h1
    unfold wrK
    rw [show rootS kp f' p = some r from h1']
    simp only
    split
    · exact ⟨_, rfl⟩
    split
    · exact ⟨_, rfl⟩
    have key : ∀ (us : List Nat) (raw0 : List Int), (∀ u ∈ us, FinD (fk ss nums kb kp) R n u) → ∃ r, wrL (wrK ss nums kb kp f') us raw0 = some r := by
      intro us
      induction us with
      | nil => intro raw0 _; exact ⟨_, rfl⟩
      | cons u us ih =>
        intro raw0 hu
        obtain ⟨⟨b1, r1⟩, e1⟩ := wr_some hR n u (hu u (List.mem_cons_self ..)) f' raw0 (by omega)
        unfold wrL
        rw [e1]
        cases b1 with
        | false => exact ⟨_, rfl⟩
        | true => exact ih r1 fun v hv => hu v (List.mem_cons_of_mem _ hv)
    exact key _ _ h3
end
end

end Go.Proofs.Ytojofbmpknpggaa

namespace Go.Proofs.Ytojofbmpknpggaa
open Go.RowKit

section
variable {ss : Sg}
theorem arOf_shv (z : Int) : arOf ss (shv z) = arOf ss z := by
  unfold shv
  split
  · rename_i h; rw [arOf_neg' (by omega), arOf_neg' h]
  · rfl
/-- Every number of a term begins a part. -/
theorem parts_term {z : List Int} (h : scan ss 1 z = some []) : PartsOk ss z := by
  have key : ∀ p, p ≤ z.length → ∃ k, scan ss k (z.drop p) = some [] := by
    intro p
    induction p with
    | zero => intro _; exact ⟨1, h⟩
    | succ p ih =>
      intro hp
      obtain ⟨k, hk⟩ := ih (by omega)
      cases k with
      | zero =>
        rw [scan_zero] at hk
        have := congrArg List.length (Option.some.inj hk)
        rw [List.length_drop, List.length_nil] at this
        omega
      | succ k =>
        obtain ⟨_, h2⟩ := scan_step hk
        exact ⟨_, h2⟩
  intro p hp
  obtain ⟨k, hk⟩ := key p (by omega)
  cases k with
  | zero =>
    rw [scan_zero] at hk
    have := congrArg List.length (Option.some.inj hk)
    rw [List.length_drop, List.length_nil] at this
    omega
  | succ k =>
    rw [Nat.add_comm, scan_add] at hk
    cases e : scan ss 1 (z.drop p) with
    | none => rw [e] at hk; cases hk
    | some r => exact ⟨r, rfl⟩
theorem parts_app {a b : List Int} (h1 : PartsOk ss a) (h2 : PartsOk ss b) : PartsOk ss (a ++ b) := by
  intro p hp
  by_cases hpa : p < a.length
  · obtain ⟨r, hr⟩ := h1 p hpa
    rw [List.drop_append_of_le_length (by omega)]
    exact ⟨_, scan_append ss _ _ _ b hr⟩
  · rw [List.length_append] at hp
    rw [List.drop_append, List.drop_eq_nil_of_le (by omega), List.nil_append]
    exact h2 _ (by omega)
/-- The numbers of a major and, behind them, of a minor. -/
def nmK (zm zn : List Int) : List Int := zm ++ zn.map shv
theorem apV_shv (σ : Int → List Int) (t : List Int) : apV σ (t.map shv) = apV (sft σ 12) t := by
  unfold apV
  rw [List.flatMap_map]
  refine flat_same fun z _ => ?_
  unfold shv sft
  by_cases h : z < 0
  · rw [if_pos h, if_pos (by omega), if_pos h]
  · rw [if_neg h, if_neg h, if_neg h]
theorem apV_cong {σ τ : Int → List Int} {t : List Int} (h : ∀ z ∈ t, z < 0 → σ z = τ z) : apV σ t = apV τ t := by
  unfold apV
  refine flat_same fun z hz => ?_
  by_cases hn : z < 0
  · rw [if_pos hn, if_pos hn, h z hz hn]
  · rw [if_neg hn, if_neg hn]
theorem valOk_mk {z : List Int} (hs : sigOk ss = true) (h1 : z.length ≤ 60) (h2 : ∀ x ∈ z, -12 ≤ x ∧ x < (ss.length : Int)) (h3 : scan ss 1 z = some []) : valOk ss z = true := by
  simp only [valOk, termOk, Bool.and_eq_true, decide_eq_true_eq, List.all_eq_true, numOk]
  exact ⟨hs, scan_len h3, h1, fun x hx => h2 x hx, h3⟩
theorem sig_if (hs : sigOk ss = true) : arOf ss 0 = 2 := by
  simp only [sigOk, Bool.and_eq_true, decide_eq_true_eq] at hs
  obtain ⟨_, _, h, _⟩ := hs
  cases ss with
  | nil => cases h
  | cons x r =>
    simp only [sigHead, decide_eq_true_eq] at h
    simp [arOf, h]

/-- A major with its two parts, and a minor. -/
structure Shot (ss : Sg) (zm zn A B : List Int) : Prop where
  vm : valOk ss zm = true
  vn : valOk ss zn = true
  eq : zm = 0 :: (A ++ B)
  sa : scan ss 1 A = some []
  sb : scan ss 1 B = some []
theorem shot_of {zm zn : List Int} (vm : valOk ss zm = true) (vn : valOk ss zn = true) (h : zm.head? = some 0) : ∃ B, Shot ss zm zn (prt ss zm 1) B := by
  obtain ⟨h1, h2, h3, h4⟩ := valOk_term vm
  cases zm with
  | nil => cases h
  | cons x r =>
    cases h
    have h5 : scan ss 2 r = some [] := by
      have := h4
      simp only [scan] at this
      rw [sig_if (valOk_sig vm)] at this
      exact this
    rw [show 2 = 1 + 1 from rfl, scan_add] at h5
    cases e : scan ss 1 r with
    | none => rw [e] at h5; cases h5
    | some m =>
      rw [e] at h5
      have hm : scan ss 1 m = some [] := h5
      have hP := prt_is (ss := ss) (zs := 0 :: r) (a := 1) e
      have hw := hP.whole
      rw [show ((0 : Int) :: r).drop 1 = r from rfl, e] at hw
      have hsp := hP.split
      rw [show ((0 : Int) :: r).drop 1 = r from rfl, ← Option.some.inj hw] at hsp
      exact ⟨m, vm, vn, by rw [← hsp], hP.good, hm⟩
section
variable {zm zn A B : List Int}
theorem Shot.parts (h : Shot ss zm zn A B) : PartsOk ss (nmK zm zn) :=
  parts_app (parts_term (valOk_term h.vm).2.2.2) (parts_term (by have := scan_map (f := shv) arOf_shv _ _ _ (valOk_term h.vn).2.2.2; exact this))
theorem Shot.lens (h : Shot ss zm zn A B) : (nmK zm zn).length = zm.length + zn.length ∧ zm.length = 1 + A.length + B.length ∧ 1 ≤ A.length ∧ 1 ≤ B.length ∧ 1 ≤ zn.length ∧ zm.length ≤ 60 ∧ zn.length ≤ 60 := by
  obtain ⟨_, m60, _⟩ := valOk_term h.vm
  obtain ⟨n1, n60, _⟩ := valOk_term h.vn
  refine ⟨by simp [nmK], by rw [h.eq]; simp; omega, scan_len h.sa, scan_len h.sb, n1, m60, n60⟩
theorem prt_pre {a b : List Int} (p : Nat) {c : List Int} (hd : a.drop p = b ++ c) (hb : scan ss 1 b = some []) : prt ss a p = b := by
  have h2 := scan_append ss _ _ _ c hb
  rw [List.nil_append, ← hd] at h2
  rw [prt_eq (n := b.length) h2 (by rw [hd, List.length_append]), hd, List.take_left]
theorem Shot.pa (h : Shot ss zm zn A B) : prt ss (nmK zm zn) 1 = A := by
  refine prt_pre 1 (c := B ++ zn.map shv) ?_ h.sa
  unfold nmK
  rw [h.eq]
  simp
theorem Shot.pb (h : Shot ss zm zn A B) : prt ss (nmK zm zn) (1 + A.length) = B := by
  refine prt_pre _ (c := zn.map shv) ?_ h.sb
  unfold nmK
  rw [h.eq, Nat.add_comm]
  simp
theorem Shot.pc (h : Shot ss zm zn A B) : prt ss (nmK zm zn) zm.length = zn.map shv := by
  refine prt_pre _ (c := []) ?_ (by have := scan_map (f := shv) arOf_shv _ _ _ (valOk_term h.vn).2.2.2; exact this)
  unfold nmK
  rw [List.drop_left, List.append_nil]
theorem Shot.bh (h : Shot ss zm zn A B) : bhd ss (nmK zm zn) 1 = 1 + A.length := by
  have hl := h.lens
  have := (bhd_prt h.parts (p := 1) (by omega)).1
  rw [h.pa] at this
  exact this
theorem Shot.va (h : Shot ss zm zn A B) : valOk ss A = true := by
  obtain ⟨m1, m60, mn, _⟩ := valOk_term h.vm
  have hl := h.lens
  exact valOk_mk (valOk_sig h.vm) (by omega) (fun x hx => mn x (by rw [h.eq]; simp [hx])) h.sa
theorem Shot.args (h : Shot ss zm zn A B) : ∀ p, p < (nmK zm zn).length → ∀ q ∈ argsK ss (nmK zm zn) (kbF ss (nmK zm zn)) p, q < (nmK zm zn).length := fun _p hp q hq => ((part_node h.parts hp).2 q hq).1
/-- The graph behind unite. -/
def kpK (ss : Sg) (zm zn : List Int) : List Nat := (uniK ss (nmK zm zn) (kbF ss (nmK zm zn)) 500 (kpF (nmK zm zn)) 1 zm.length).getD []
noncomputable def nuK (ss : Sg) (zm zn : List Int) (p : Nat) : List Int := nuF (fk ss (nmK zm zn) (kbF ss (nmK zm zn)) (kpK ss zm zn)) ((nmK zm zn).length + 2) p
/-- All that is known of the graph where the first part and the minor may become the same. -/
structure FitIs (ss : Sg) (zm zn A B : List Int) : Prop where
  uni : uniK ss (nmK zm zn) (kbF ss (nmK zm zn)) 500 (kpF (nmK zm zn)) 1 zm.length = some (kpK ss zm zn)
  len : (kpK ss zm zn).length = (nmK zm zn).length
  rts : RootsIn ((nmK zm zn).length + 2) (kpK ss zm zn)
  fin : ∀ p, p < (nmK zm zn).length → ∃ n, FinD (fk ss (nmK zm zn) (kbF ss (nmK zm zn)) (kpK ss zm zn)) ((nmK zm zn).length + 2) n p
  own : ∃ τ, GoodV ss τ ∧ apV τ A = apV τ (zn.map shv) ∧ apV τ B = nuK ss zm zn (1 + A.length)
  gen : ∀ σ, GoodV ss σ → apV σ A = apV σ (zn.map shv) → apV σ (nuK ss zm zn (1 + A.length)) = apV σ B
theorem Shot.val (h : Shot ss zm zn A B) {σ : Int → List Int} (hσ : GoodV ss σ) : Val ss (fk ss (nmK zm zn) (kbF ss (nmK zm zn)) (kpF (nmK zm zn))) (fun p => apV σ (prt ss (nmK zm zn) p)) := val_first h.parts hσ
theorem Shot.fit (h : Shot ss zm zn A B) {σ0 : Int → List Int} (hσ0 : GoodV ss σ0) (he0 : apV σ0 A = apV σ0 (zn.map shv)) : FitIs ss zm zn A B := by
  obtain ⟨l1, l2, l3, l4, l5, l6, l7⟩ := h.lens
  have hab : ∀ {σ : Int → List Int}, apV σ A = apV σ (zn.map shv) → (fun p => apV σ (prt ss (nmK zm zn) p)) 1 = (fun p => apV σ (prt ss (nmK zm zn) p)) zm.length := fun he => by
    simp only
    rw [h.pa, h.pc, he]
  obtain ⟨kp', c', u1, u2, u3, u4, u5, u6, u7⟩ := uniK_some h.args 500 (kpF (nmK zm zn)) 1 zm.length (nmK zm zn).length kpF_len (roots_first.mono (by omega)) heads_first (Nat.le_refl _) (by omega) (h.val hσ0) (by omega) (by omega) (hab he0)
  have hk : kpK ss zm zn = kp' := by unfold kpK; rw [u1]; rfl
  have hlen : kp'.length = (nmK zm zn).length := u2.len.trans kpF_len
  have hR : RootsIn ((nmK zm zn).length + 2) kp' := u5.mono (by omega)
  have hF : ∀ p, p < (nmK zm zn).length → ∃ n, FinD (fk ss (nmK zm zn) (kbF ss (nmK zm zn)) kp') ((nmK zm zn).length + 2) n p := fun p hp => ⟨_, fin_all h.args u7 hR hlen _ p hp (Nat.le_refl _)⟩
  have hT := fun p hp => tau_prt h.parts hR hlen (u2.cong _ (cong_first h.args)) u2 hF _ p (Nat.le_refl _) hp
  refine ⟨by rw [hk]; exact u1, by rw [hk]; exact hlen, by rw [hk]; exact hR, by rw [hk]; exact hF, ⟨tauK ss (nmK zm zn) (kbF ss (nmK zm zn)) kp' ((nmK zm zn).length + 2), tau_good (sigOk_ar (valOk_sig h.vm)), ?_, ?_⟩, fun σ hσ he => ?_⟩
  · have h1 := hT 1 (by omega)
    have h2 := hT zm.length (by omega)
    rw [h.pa] at h1
    rw [h.pc] at h2
    rw [h1, h2]
    exact eqr_nu hR u3
  · have h1 := hT (1 + A.length) (by omega)
    rw [h.pb] at h1
    rw [h1]
    unfold nuK
    rw [hk]
  · obtain ⟨v1, _⟩ := uniK_val h.args 500 _ 1 zm.length kp' kpF_len (h.val hσ) (by omega) (by omega) (hab he) u1
    obtain ⟨n, hn⟩ := hF (1 + A.length) (by omega)
    have := nu_gen (τ := σ) v1 fk_al (fun j x hx hx0 => by
      have hx' : (nmK zm zn)[j]? = some x := hx
      obtain ⟨hj, e⟩ := List.getElem?_eq_some_iff.1 hx'
      rw [prt_var h.parts hj (by rw [e]; exact hx0), e, apV_one, if_pos hx0]) n _ hn
    rw [h.pb] at this
    unfold nuK
    rw [hk]
    exact this
theorem Shot.meets (h : Shot ss zm zn A B) : (hasZ ss 12 A zn = true → ∃ σ, GoodV ss σ ∧ apV σ A = apV σ (zn.map shv)) ∧ ∀ σ, GoodV ss σ → apV σ A = apV σ (zn.map shv) → hasZ ss 12 A zn = true := by
  rcases com_is (sh := 12) (by omega) h.va h.vn with ⟨h1, _, h2⟩ | ⟨h1, U, σ, g, e1, e2, _⟩
  · refine ⟨fun e => by (rw [h1] at e; cases e), fun σ hσ he => ?_⟩
    exact absurd (by rw [apV_sft0, he, apV_shv]) (h2 σ hσ)
  · refine ⟨fun _ => ⟨σ, g, ?_⟩, fun _ _ _ => h1⟩
    rw [apV_sft0] at e1
    rw [e1, apV_shv, e2]
instance (raw : List Int) : Decidable (RawOk raw) := by unfold RawOk; infer_instance
open Classical in
/-- What Detach hands back. -/
noncomputable def detZ (ss : Sg) (zm zn : List Int) : List Int × Int :=
  if (valOk ss zm && valOk ss zn) = true then
    (if zm.head? = some 0 then
      (if hasZ ss 12 (prt ss zm 1) zn = true then (if RawOk (nuK ss zm zn (bhd ss (nmK zm zn) 1)) then (canon (nuK ss zm zn (bhd ss (nmK zm zn) 1)), 0) else ([], 4)) else ([], 8))
    else ([], 10))
  else ([], 1)
theorem seenA_to (raw : List Int) : seenA raw = seenTo raw raw.length := by unfold seenA seenTo; rw [List.take_length]
theorem nuK_scan (h : Shot ss zm zn A B) (p : Nat) : scan ss 1 (nuK ss zm zn p) = some [] := nu_scan (fk_arn (sigOk_ar (valOk_sig h.vm))) fk_al p
theorem nuK_heads (h : Shot ss zm zn A B) (hF : FitIs ss zm zn A B) : HeadsOk ss (nuK ss zm zn (1 + A.length)) := by
  obtain ⟨n, hn⟩ := hF.fin (1 + A.length) (by have := h.lens; omega)
  refine nu_heads (fun z hz => ?_) fk_al _ hn
  have hz' : z ∈ nmK zm zn := hz
  have hns := sigOk_len (valOk_sig h.vm)
  rcases List.mem_append.1 hz' with hz' | hz'
  · exact ((valOk_term h.vm).2.2.1 z hz').2
  · obtain ⟨y, hy, rfl⟩ := List.mem_map.1 hz'
    have := ((valOk_term h.vn).2.2.1 y hy).2
    unfold shv
    split <;> omega
/-- What instances of a major and a minor are detached to is an instance of their detachment. -/
theorem det_inst {zM zN : List Int} {L K : List Bd} (vM : valOk ss zM = true) (vN : valOk ss zN = true) (hL : bindsOk ss L = true) (hK : bindsOk ss K = true) (hm : zm = appl L zM) (hn : zn = appl K zN) (h0 : (detZ ss zm zn).2 = 0) (h4 : (detZ ss zM zN).2 ≠ 4) (h10 : (detZ ss zM zN).2 ≠ 10) :
    (detZ ss zM zN).2 = 0 ∧ insB ss (detZ ss zM zN).1 (detZ ss zm zn).1 = true := by
  have e0 := h0
  unfold detZ at h0
  split at h0
  · rename_i hv
    rw [Bool.and_eq_true] at hv
    split at h0
    · rename_i hhd
      split at h0
      · rename_i hhas
        split at h0
        · rename_i hraw
          obtain ⟨B, sh⟩ := shot_of hv.1 hv.2 hhd
          obtain ⟨σ0, g0, s0⟩ := sh.meets.1 hhas
          have F := sh.fit g0 s0
          rw [sh.bh] at hraw
          have ez : detZ ss zm zn = (canon (nuK ss zm zn (1 + (prt ss zm 1).length)), 0) := by
            unfold detZ
            rw [if_pos (by rw [hv.1, hv.2]; rfl), if_pos hhd, if_pos hhas, sh.bh, if_pos hraw]
          have hMh : zM.head? = some 0 := by
            by_cases e : zM.head? = some 0
            · exact e
            · exfalso
              apply h10
              unfold detZ
              rw [if_pos (by rw [vM, vN]; rfl), if_neg e]
          obtain ⟨B', sH⟩ := shot_of vM vN hMh
          obtain ⟨τ, gτ, t1, t2⟩ := F.own
          obtain ⟨fL, hfL⟩ : ∃ f : Int → List Int, (fun z => if -12 ≤ z then ofB L (-z - 1) else [-1]) = f := ⟨_, rfl⟩
          obtain ⟨fK, hfK⟩ : ∃ f : Int → List Int, (fun z => if -12 ≤ z then ofB K (-z - 1) else [-1]) = f := ⟨_, rfl⟩
          have gL : GoodV ss fL := fun z hz => by
            rw [← hfL]
            simp only
            split
            · exact (valOk_term (ofB_ok hL (by omega) (by omega))).2.2.2
            · exact scan_neg (by omega)
          have gK : GoodV ss fK := fun z hz => by
            rw [← hfK]
            simp only
            split
            · exact (valOk_term (ofB_ok hK (by omega) (by omega))).2.2.2
            · exact scan_neg (by omega)
          have aL := appl_apV (ss := ss) L (valOk_term vM).2.2.1
          have aK := appl_apV (ss := ss) K (valOk_term vN).2.2.1
          rw [hfL, apV_sft0, ← hm] at aL
          rw [hfK, apV_sft0, ← hn] at aK
          obtain ⟨μ, hμ⟩ : ∃ μ : Int → List Int, (fun z => if -12 ≤ z then apV τ (fL z) else apV (sft τ 12) (fK (z + 12))) = μ := ⟨_, rfl⟩
          have gs : GoodV ss (sft τ 12) := fun z hz => gτ _ (by omega)
          have gμ : GoodV ss μ := fun z hz => by
            rw [← hμ]
            simp only
            split
            · exact scan_apV gτ _ 1 [] (gL z hz)
            · exact scan_apV gs _ 1 [] (gK _ (by omega))
          have m1 : ∀ t, (∀ z ∈ t, -12 ≤ z) → apV μ t = apV τ (apV fL t) := fun t ht => by
            rw [apV_flat]
            refine apV_cong fun z hz hz0 => ?_
            rw [← hμ]
            simp only
            rw [if_pos (ht z hz)]
          have m2 : apV μ (zN.map shv) = apV τ (zn.map shv) := by
            rw [apV_shv, apV_shv, ← aK, apV_flat]
            refine apV_cong fun z hz hz0 => ?_
            rw [← hμ]
            unfold sft
            simp only
            rw [if_neg (by omega), show z - 12 + 12 = z by omega]
          have hM12 : ∀ z ∈ zM, -12 ≤ z := fun z hz => ((valOk_term vM).2.2.1 z hz).1
          have hA12 : ∀ z ∈ prt ss zM 1, -12 ≤ z := fun z hz => hM12 z (by rw [sH.eq]; simp [hz])
          have hB12 : ∀ z ∈ B', -12 ≤ z := fun z hz => hM12 z (by rw [sH.eq]; simp [hz])
          have hsplit : apV fL (prt ss zM 1) = prt ss zm 1 ∧ apV fL B' = B := by
            have h1 := aL
            rw [sH.eq, sh.eq] at h1
            rw [show (0 : Int) :: (prt ss zM 1 ++ B') = [0] ++ (prt ss zM 1 ++ B') from rfl, apV_append, apV_append, apV_one, if_neg (by omega)] at h1
            have h2 : apV fL (prt ss zM 1) ++ apV fL B' = prt ss zm 1 ++ B := by
              have := h1
              simp only [List.cons_append, List.nil_append, List.cons.injEq, true_and] at this
              exact this
            exact scan_cancel (scan_apV gL _ 1 [] sH.sa) sh.sa h2
          have hμA : apV μ (prt ss zM 1) = apV μ (zN.map shv) := by rw [m1 _ hA12, hsplit.1, t1, m2]
          have hhas' := sH.meets.2 μ gμ hμA
          have F' := sH.fit gμ hμA
          have hgen := F'.gen μ gμ hμA
          have hraw' : RawOk (nuK ss zM zN (1 + (prt ss zM 1).length)) := by
            by_cases e : RawOk (nuK ss zM zN (1 + (prt ss zM 1).length))
            · exact e
            · exfalso
              apply h4
              unfold detZ
              rw [if_pos (by rw [vM, vN]; rfl), if_pos hMh, if_pos hhas', sH.bh, if_neg e]
          have eZ : detZ ss zM zN = (canon (nuK ss zM zN (1 + (prt ss zM 1).length)), 0) := by
            unfold detZ
            rw [if_pos (by rw [vM, vN]; rfl), if_pos hMh, if_pos hhas', sH.bh, if_pos hraw']
          rw [eZ, ez]
          refine ⟨rfl, ?_⟩
          have hc := canon_valid (valOk_sig hv.1) (nuK_scan sh _) (nuK_heads sh F) hraw.1 (by rw [← seenA_to]; exact hraw.2)
          have hgc : GoodV ss (fun z => [cnum (seenTo (nuK ss zm zn (1 + (prt ss zm 1).length)) (nuK ss zm zn (1 + (prt ss zm 1).length)).length) z]) := fun z _ => scan_neg (cnum_neg _ _)
          refine (canon_ins_of (σ := fun z => apV (fun z => [cnum (seenTo (nuK ss zm zn (1 + (prt ss zm 1).length)) (nuK ss zm zn (1 + (prt ss zm 1).length)).length) z]) (μ z)) hc (nuK_scan sH _) (goodV_comp gμ hgc) ?_ (by rw [← seenA_to]; exact hraw'.2)).2
          rw [← apV_flat, hgen, m1 _ hB12, hsplit.2, t2, ← canon_apV]
        · simp at h0
      · simp at h0
    · simp at h0
  · simp at h0
end
end

end Go.Proofs.Ytojofbmpknpggaa
