/- The parts of a term in their order, with their paths: the plain mathematics. -/
import Derived.Test.YtmccdmpemlmkkaaH8
namespace Go.Proofs.Ytmccdmpemlmkkaa
open Go.RowKit

section
variable {ss : Sg} {zs : List Int} {r : Nat}
theorem pos_full (h : scan ss r (zs.drop 1) = some []) (hl : 1 ≤ zs.length) : pos ss zs r = zs.length := by
  obtain ⟨d1, d2, d3⟩ := pos_scan h hl (Nat.le_refl _)
  rw [h] at d1
  have := congrArg List.length (Option.some.inj d1)
  simp only [List.length_nil, List.length_drop] at this
  omega
theorem flat_len (h : scan ss r (zs.drop 1) = some []) (hl : 1 ≤ zs.length) (W : Nat → List It) (hW : ∀ k, k < r → (W k).length = (argL ss zs k).length) : ∀ k, k ≤ r → ((List.range k).flatMap W).length = pos ss zs k - 1 := by
  intro k
  induction k with
  | zero => intro _; rw [pos_zero ss hl]; rfl
  | succ k ih =>
    intro hk
    rw [List.range_succ, List.flatMap_append, List.length_append, ih (by omega)]
    simp only [List.flatMap_cons, List.flatMap_nil, List.append_nil]
    rw [hW k (by omega), (argL_ok h hl (show k < r by omega)).2]
    have := (pos_step h hl (show k < r by omega)).2.1
    have := (pos_scan h hl (show k ≤ r by omega)).2.1
    omega
theorem flat_get (h : scan ss r (zs.drop 1) = some []) (hl : 1 ≤ zs.length) (W : Nat → List It) (hW : ∀ k, k < r → (W k).length = (argL ss zs k).length) {k j : Nat} (hk : k < r) (hj : j < (argL ss zs k).length) :
    ((List.range r).flatMap W)[pos ss zs k - 1 + j]? = (W k)[j]? := by
  have e3 : List.range r = List.range k ++ ([k] ++ (List.range (r - (k + 1))).map (k + 1 + ·)) := by
    rw [← List.append_assoc, ← List.range_succ, ← List.range_add]
    congr 1; omega
  have hlk := flat_len h hl W hW k (by omega)
  rw [e3, List.flatMap_append, List.flatMap_append, List.getElem?_append_right (by omega), hlk, Nat.add_sub_cancel_left]
  simp only [List.flatMap_cons, List.flatMap_nil, List.append_nil]
  rw [List.getElem?_append_left (by rw [hW k hk]; exact hj)]
theorem find_arg (hl : 1 ≤ zs.length) {i : Nat} (hi : 1 ≤ i) : ∀ m, i < pos ss zs m → ∃ k, k < m ∧ pos ss zs k ≤ i ∧ i < pos ss zs (k + 1) := by
  intro m
  induction m with
  | zero => intro h; rw [pos_zero ss hl] at h; omega
  | succ m ih =>
    intro h
    by_cases hlt : i < pos ss zs m
    · obtain ⟨k, a, b, c⟩ := ih hlt
      exact ⟨k, by omega, b, c⟩
    · exact ⟨m, by omega, by omega, h⟩
end

structure WalkIs (ss : Sg) (f : Nat) (p : List Nat) (o : Nat) (zs : List Int) : Prop where
  len : (walkL ss f p o zs).length = zs.length
  part : ∀ i, i < zs.length → PartAt ss zs i
  item : ∀ i, i < zs.length → ∃ q, (walkL ss f p o zs)[i]? = some (q, o + i, prt ss zs i)
  zero : (walkL ss f p o zs)[0]? = some (p, o, zs)
  step : ∀ a k q x, (walkL ss f p o zs)[a]? = some (q, x) → a < zs.length → k < arOf ss (zs.getD a 0) → ∃ y, (walkL ss f p o zs)[psA ss zs a k]? = some (q ++ [k], y)
  par : ∀ i, 0 < i → i < zs.length → ∃ a k, a < i ∧ k < arOf ss (zs.getD a 0) ∧ psA ss zs a k = i

theorem walk_is (ss : Sg) : ∀ (f : Nat) (p : List Nat) (o : Nat) (zs : List Int), zs.length ≤ f → 1 ≤ zs.length → scan ss 1 zs = some [] → WalkIs ss f p o zs := by
  intro f
  induction f with
  | zero => intro p o zs h1 h2; omega
  | succ f ih =>
    intro p o zs hf hl hscan
    have h0 : 0 < zs.length := by omega
    have hhd : zs.headD 0 = zs[0] := by cases zs with
      | nil => simp at h0
      | cons z r => rfl
    have hrest := scan_head hscan h0
    have hg0 : zs.getD 0 0 = zs[0] := by rw [List.getD_eq_getElem?_getD, List.getElem?_eq_getElem h0]; rfl
    have hP0 : PartAt ss zs 0 := ⟨h0, [], by simpa using hscan⟩
    have hPP := hP0.is
    rw [prt_whole hscan] at hPP
    obtain ⟨r, hr⟩ : ∃ r, arOf ss zs[0] = r := ⟨_, rfl⟩
    rw [hr] at hrest
    have hps : ∀ k, k ≤ r → psA ss zs 0 k = pos ss zs k := fun k hk => by
      have := (prt_pos hPP h0 (by rw [hr]; exact hk)).1
      omega
    have hargs : ∀ k, k < r → PrtIs ss zs (pos ss zs k) (argL ss zs k) ∧ PartAt ss zs (pos ss zs k) := fun k hk => by
      obtain ⟨s1, s2, s3, s4⟩ := prt_step hPP h0 (k := k) (by rw [hr]; exact hk)
      rw [hps k (by omega)] at s1 s4 s2
      have hpt : PartAt ss zs (pos ss zs k) := ⟨by omega, _, s1⟩
      refine ⟨?_, hpt⟩
      rw [← s4]
      exact hpt.is
    obtain ⟨W, hW⟩ : ∃ W, W = fun k => walkL ss f (p ++ [k]) (o + pos ss zs k) (argL ss zs k) := ⟨_, rfl⟩
    have hw : walkL ss (f + 1) p o zs = (p, o, zs) :: (List.range r).flatMap W := by
      rw [hW]
      simp only [walkL, hhd, hr]
    have IH : ∀ k, k < r → WalkIs ss f (p ++ [k]) (o + pos ss zs k) (argL ss zs k) := fun k hk => by
      obtain ⟨a1, a2⟩ := argL_ok hrest hl hk
      have b1 := (pos_step hrest hl hk).2.1
      have b2 := (pos_scan hrest hl (show k + 1 ≤ r from hk)).2.2
      have b3 := (pos_scan hrest hl (show k ≤ r by omega)).2.1
      exact ih _ _ _ (by omega) (by omega) a1
    have hWl : ∀ k, k < r → (W k).length = (argL ss zs k).length := fun k hk => by rw [hW]; exact (IH k hk).len
    have hWe : ∀ k, W k = walkL ss f (p ++ [k]) (o + pos ss zs k) (argL ss zs k) := fun k => by rw [hW]
    have hget : ∀ k j, k < r → j < (argL ss zs k).length → (walkL ss (f + 1) p o zs)[pos ss zs k + j]? = (W k)[j]? := fun k j hk hj => by
      have b3 := (pos_scan hrest hl (show k ≤ r by omega)).2.1
      rw [hw, show pos ss zs k + j = (pos ss zs k - 1 + j) + 1 from by omega, List.getElem?_cons_succ]
      exact flat_get hrest hl W hWl hk hj
    have hfind : ∀ i, 0 < i → i < zs.length → ∃ k j, k < r ∧ j < (argL ss zs k).length ∧ i = pos ss zs k + j := fun i hi hil => by
      obtain ⟨k, k1, k2, k3⟩ := find_arg (ss := ss) (zs := zs) hl hi r (by rw [pos_full hrest hl]; exact hil)
      exact ⟨k, i - pos ss zs k, k1, by rw [(argL_ok hrest hl k1).2]; omega, by omega⟩
    have hlen1 : ∀ k, k < r → 1 ≤ (argL ss zs k).length := fun k hk => (hargs k hk).1.len
    refine ⟨?_, fun i hi => ?_, fun i hi => ?_, by rw [hw]; rfl, fun a k q x hax hal hk => ?_, fun i hi hil => ?_⟩
    · rw [hw, List.length_cons, flat_len hrest hl W hWl r (Nat.le_refl _), pos_full hrest hl]
      omega
    · rcases Nat.eq_zero_or_pos i with rfl | h
      · exact hP0
      · obtain ⟨k, j, hk, hj, rfl⟩ := hfind i h hi
        exact (PartAt.sub (hargs k hk).1 ((IH k hk).part j hj)).1
    · rcases Nat.eq_zero_or_pos i with rfl | h
      · exact ⟨p, by rw [hw, prt_whole hscan]; rfl⟩
      · obtain ⟨k, j, hk, hj, rfl⟩ := hfind i h hi
        obtain ⟨q, hq⟩ := (IH k hk).item j hj
        refine ⟨q, ?_⟩
        rw [hget k j hk hj, hWe, hq, (PartAt.sub (hargs k hk).1 ((IH k hk).part j hj)).2.1]
        rw [Nat.add_assoc]
    · rcases Nat.eq_zero_or_pos a with rfl | h
      · rw [hw] at hax
        simp only [List.getElem?_cons_zero, Option.some.injEq, Prod.mk.injEq] at hax
        obtain ⟨rfl, _⟩ := hax
        rw [hg0, hr] at hk
        refine ⟨(o + pos ss zs k, argL ss zs k), ?_⟩
        have this : (walkL ss (f + 1) p o zs)[pos ss zs k]? = (W k)[0]? := hget k 0 hk (hlen1 k hk)
        rw [hps k (by omega), this, hWe, (IH k hk).zero]
      · obtain ⟨k', j, hk', hj, rfl⟩ := hfind a h hal
        have hpj := (IH k' hk').part j hj
        obtain ⟨t1, t2, t3⟩ := PartAt.sub (hargs k' hk').1 hpj
        rw [t3] at hk
        rw [hget k' j hk' hj, hWe] at hax
        obtain ⟨y, hy⟩ := (IH k' hk').step j k q x hax hj hk
        refine ⟨y, ?_⟩
        rw [psA_sub (hargs k' hk').1 hpj hk, hget k' _ hk' (hpj.arg hk).1, hWe, hy]
    · obtain ⟨k, j, hk, hj, rfl⟩ := hfind i hi hil
      rcases Nat.eq_zero_or_pos j with rfl | h
      · exact ⟨0, k, hi, by rw [hg0, hr]; exact hk, by rw [hps k (by omega)]; rfl⟩
      · obtain ⟨a', k', a1, a2, a3⟩ := (IH k hk).par j h hj
        have hpa := (IH k hk).part a' (by omega)
        obtain ⟨t1, t2, t3⟩ := PartAt.sub (hargs k hk).1 hpa
        exact ⟨pos ss zs k + a', k', by omega, by rw [t3]; exact a2, by rw [psA_sub (hargs k hk).1 hpa a2, a3]⟩

/-- The path to the part at an index, as numbers. -/
def pth (ss : Sg) (zs : List Int) (i : Nat) : List Nat := (((walkL ss zs.length [] 0 zs)[i]?).map (·.1)).getD []
def pthI (ss : Sg) (zs : List Int) (i : Nat) : List Int := (pth ss zs i).map fun k : Nat => (k : Int)
section
variable {ss : Sg} {zs : List Int}
theorem walk_of (hv : valOk ss zs = true) : WalkIs ss zs.length [] 0 zs :=
  walk_is ss zs.length [] 0 zs (Nat.le_refl _) (valOk_term hv).1 (valOk_term hv).2.2.2
theorem pth_zero (hv : valOk ss zs = true) : pthI ss zs 0 = [] := by
  unfold pthI pth
  rw [(walk_of hv).zero]
  rfl
theorem pth_step (hv : valOk ss zs = true) {a k : Nat} (ha : a < zs.length) (hk : k < arOf ss (zs.getD a 0)) : pthI ss zs (psA ss zs a k) = pthI ss zs a ++ [(k : Int)] := by
  obtain ⟨q, hq⟩ := (walk_of hv).item a ha
  obtain ⟨y, hy⟩ := (walk_of hv).step a k q _ hq ha hk
  unfold pthI pth
  rw [hq, hy]
  simp
theorem pth_item (hv : valOk ss zs = true) {i : Nat} (hi : i < zs.length) : (walkL ss zs.length [] 0 zs)[i]? = some (pth ss zs i, i, prt ss zs i) := by
  obtain ⟨q, hq⟩ := (walk_of hv).item i hi
  rw [Nat.zero_add] at hq
  unfold pth
  rw [hq]
  rfl
theorem pth_len (ss : Sg) : ∀ (f : Nat) (p : List Nat) (o : Nat) (zs : List Int), ∀ x ∈ walkL ss f p o zs, x.1.length ≤ p.length + f
  | 0, _, _, _, x, hx => by cases hx
  | f + 1, p, o, zs, x, hx => by
    simp only [walkL, List.mem_cons, List.mem_flatMap] at hx
    rcases hx with rfl | ⟨k, _, hx⟩
    · simp only; omega
    · have := pth_len ss f _ _ _ x hx
      simp only [List.length_append, List.length_cons, List.length_nil] at this
      omega
theorem pthI_len (hv : valOk ss zs = true) (i : Nat) : (pthI ss zs i).length ≤ 60 := by
  have h60 := (valOk_term hv).2.1
  unfold pthI pth
  rw [List.length_map]
  cases h : (walkL ss zs.length [] 0 zs)[i]? with
  | none => simp
  | some x =>
    have := pth_len ss _ _ _ _ x (List.mem_of_getElem? h)
    simp only [List.length_nil] at this
    simp only [Option.map_some, Option.getD_some]
    omega
/-- A path leads to its part. -/
theorem locN_pth (hv : valOk ss zs = true) : ∀ (i : Nat), i < zs.length → ∀ p, locN ss zs (pthI ss zs i ++ p) 0 = locN ss zs p i := by
  intro i
  induction i using Nat.strongRecOn with
  | _ i ih =>
    intro hi p
    rcases Nat.eq_zero_or_pos i with rfl | h
    · rw [pth_zero hv]; rfl
    · obtain ⟨a, k, h1, h2, rfl⟩ := (walk_of hv).par i h hi
      have ha : a < zs.length := by omega
      rw [pth_step hv ha h2, List.append_assoc, ih a h1 ha]
      exact locN_step h2
theorem at_pth (hv : valOk ss zs = true) {i : Nat} (hi : i < zs.length) : atR ss zs (pthI ss zs i) = (prt ss zs i, 0) := by
  have := locN_pth hv i hi []
  rw [List.append_nil] at this
  exact atR_mk hv this
end
/-- The paths of the first parts that are equal to a term. -/
def pathsTo (ss : Sg) (zs us : List Int) (k : Nat) : List (List Int) := ((List.range k).filter fun i => decide (prt ss zs i = us)).map (pthI ss zs)
theorem pathsTo_zero (ss : Sg) (zs us : List Int) : pathsTo ss zs us 0 = [] := rfl
theorem pathsTo_yes {ss : Sg} {zs us : List Int} {k : Nat} (h : prt ss zs k = us) : pathsTo ss zs us (k + 1) = pathsTo ss zs us k ++ [pthI ss zs k] := by
  simp [pathsTo, List.range_succ, List.filter_append, h]
theorem pathsTo_no {ss : Sg} {zs us : List Int} {k : Nat} (h : prt ss zs k ≠ us) : pathsTo ss zs us (k + 1) = pathsTo ss zs us k := by
  simp [pathsTo, List.range_succ, List.filter_append, h]
theorem pathsTo_le (ss : Sg) (zs us : List Int) (k : Nat) : (pathsTo ss zs us k).length ≤ k := by
  unfold pathsTo
  rw [List.length_map]
  have := List.length_filter_le (fun i => decide (prt ss zs i = us)) (List.range k)
  simpa using this
theorem pathsTo_mem {ss : Sg} {zs us : List Int} {k : Nat} {p : List Int} (h : p ∈ pathsTo ss zs us k) : ∃ i, i < k ∧ prt ss zs i = us ∧ p = pthI ss zs i := by
  unfold pathsTo at h
  obtain ⟨i, hi, rfl⟩ := List.mem_map.1 h
  rw [List.mem_filter] at hi
  exact ⟨i, by simpa using hi.1, by simpa using hi.2, rfl⟩
def pathsOk (ss : Sg) (zs us : List Int) : Bool := valOk ss zs && valOk ss us

end Go.Proofs.Ytmccdmpemlmkkaa
