/- Contract: the reference's Unify, as far as its error goes. -/
import Derived.Test.YtohhgghjpokdiaaN33g
import Derived.Test.YtohhgghjpokdiaaZCg
import Derived.Test.YtohhgghjpokdiaaN35g
import Derived.Test.YtohhgghjpokdiaaR1g
import Derived.Test.YtohhgghjpokdiaaN17g
import Derived.Great.BuildSlice
import Derived.Great.Walk
import Derived.Deep.WholeRow
import Derived.BigFrame
import Derived.Test.YtohhgghjpokdiaaN15g
/- What the program's unification finds is a unifier: the plain mathematics. -/
namespace Go.Proofs.Ytohhgghjpokdiaa
open Go.RowKit

section
variable {ss : Sg} {F : Fd} {R : Nat}
/-- A node becomes a term of finite depth. -/
def FinD (F : Fd) (R : Nat) : Nat → Nat → Prop
  | 0, _ => False
  | n + 1, k => ∃ r us, rootS F.prox R k = some r ∧ F.args[r]? = some us ∧ ∀ u ∈ us, FinD F R n u
/-- What it becomes. -/
def tmF (F : Fd) (R : Nat) : Nat → Nat → List Int
  | 0, _ => []
  | n + 1, k => match rootS F.prox R k with
    | none => []
    | some r => F.tops.getD r 0 :: (F.args.getD r []).flatMap (tmF F R n)
theorem FinD.mono : ∀ {n n' k : Nat}, n ≤ n' → FinD F R n k → FinD F R n' k
  | 0, n', k, _, h => h.elim
  | n + 1, 0, k, h, _ => by omega
  | n + 1, n' + 1, k, hn, h => by
    obtain ⟨r, us, h1, h2, h3⟩ := h
    exact ⟨r, us, h1, h2, fun u hu => FinD.mono (by omega) (h3 u hu)⟩
theorem flat_same {α : Type} {us : List α} {f g : α → List Int} (h : ∀ u ∈ us, f u = g u) : us.flatMap f = us.flatMap g := by
  induction us with
  | nil => rfl
  | cons u us ih => rw [List.flatMap_cons, List.flatMap_cons, h u (List.mem_cons_self ..), ih fun v hv => h v (List.mem_cons_of_mem _ hv)]
theorem tm_same : ∀ {n n' k : Nat}, n ≤ n' → FinD F R n k → tmF F R n' k = tmF F R n k
  | 0, n', k, _, h => h.elim
  | n + 1, 0, k, h, _ => by omega
  | n + 1, n' + 1, k, hn, h => by
    obtain ⟨r, us, h1, h2, h3⟩ := h
    unfold tmF
    rw [h1]
    simp only
    rw [show F.args.getD r [] = us by rw [List.getD_eq_getElem?_getD, h2]; rfl]
    congr 1
    exact flat_same fun u hu => tm_same (by omega) (h3 u hu)
open Classical in
/-- What a node becomes, if it becomes a term. -/
noncomputable def nuF (F : Fd) (R : Nat) (k : Nat) : List Int := if h : ∃ n, FinD F R n k then tmF F R h.choose k else [-1]
theorem nu_tm {n k : Nat} (h : FinD F R n k) : nuF F R k = tmF F R n k := by
  have h2 : ∃ n, FinD F R n k := ⟨n, h⟩
  unfold nuF
  rw [dif_pos h2]
  have hc := h2.choose_spec
  rcases Nat.le_total n h2.choose with hn | hn
  · exact tm_same hn h
  · exact (tm_same hn hc).symm
theorem nu_node {k r : Nat} {us : List Nat} {x : Int} (h : ∃ n, FinD F R n k) (hr : rootS F.prox R k = some r) (hu : F.args[r]? = some us) (hx : F.tops[r]? = some x) : nuF F R k = x :: us.flatMap (nuF F R) ∧ ∀ u ∈ us, ∃ n, FinD F R n u := by
  obtain ⟨n, h⟩ := h
  rw [nu_tm h]
  cases n with
  | zero => exact h.elim
  | succ n =>
    obtain ⟨r', us', h1, h2, h3⟩ := h
    rw [hr] at h1
    cases h1
    rw [hu] at h2
    cases h2
    refine ⟨?_, fun u hu => ⟨n, h3 u hu⟩⟩
    unfold tmF
    rw [hr]
    simp only
    rw [show F.args.getD r [] = us by rw [List.getD_eq_getElem?_getD, hu]; rfl, show F.tops.getD r 0 = x by rw [List.getD_eq_getElem?_getD, hx]; rfl]
    congr 1
    exact flat_same fun u hu => (nu_tm (h3 u hu)).symm
theorem fin_root {k j r : Nat} (h1 : rootS F.prox R k = some r) (h2 : rootS F.prox R j = some r) {n : Nat} (h : FinD F R n k) : FinD F R n j := by
  cases n with
  | zero => exact h.elim
  | succ n =>
    obtain ⟨r', us, h3, h4, h5⟩ := h
    rw [h1] at h3
    cases h3
    exact ⟨r, us, h2, h4, h5⟩
theorem tm_root {k j r : Nat} (h1 : rootS F.prox R k = some r) (h2 : rootS F.prox R j = some r) (n : Nat) : tmF F R n k = tmF F R n j := by
  cases n with
  | zero => rfl
  | succ n => unfold tmF; rw [h1, h2]
theorem nu_root {k j r : Nat} (h1 : rootS F.prox R k = some r) (h2 : rootS F.prox R j = some r) : nuF F R k = nuF F R j := by
  by_cases h : ∃ n, FinD F R n k
  · obtain ⟨n, h⟩ := h
    rw [nu_tm h, nu_tm (fin_root h1 h2 h), tm_root h1 h2]
  · have h' : ¬ ∃ n, FinD F R n j := fun ⟨n, hj⟩ => h ⟨n, fin_root h2 h1 hj⟩
    unfold nuF
    rw [dif_neg h, dif_neg h']
theorem fin_max : ∀ (us : List Nat), (∀ u ∈ us, ∃ n, FinD F R n u) → ∃ n, ∀ u ∈ us, FinD F R n u
  | [], _ => ⟨0, fun u hu => by simp at hu⟩
  | v :: us, h => by
    obtain ⟨n1, h1⟩ := h v (List.mem_cons_self ..)
    obtain ⟨n2, h2⟩ := fin_max us fun u hu => h u (List.mem_cons_of_mem _ hu)
    refine ⟨max n1 n2, fun u hu => ?_⟩
    rcases List.mem_cons.1 hu with rfl | hu
    · exact h1.mono (Nat.le_max_left ..)
    · exact (h2 u hu).mono (Nat.le_max_right ..)
/-- The root, by any rounds that are enough. -/
theorem root_by {prox : List Nat} (hR : RootsIn R prox) {m k r : Nat} (h : rootS prox m k = some r) : rootS prox R k = some r := by
  obtain ⟨hk, _, _⟩ := rootS_lt h
  obtain ⟨r2, h2⟩ := hR k hk
  have e1 := rootS_mono (Nat.le_max_left m R) h
  have e2 := rootS_mono (Nat.le_max_right m R) h2
  rw [e1] at e2
  cases e2
  exact h2
theorem root_self {prox : List Nat} (hR : RootsIn R prox) {m k r : Nat} (h : rootS prox m k = some r) : rootS prox R r = some r := by
  obtain ⟨_, hr, hp⟩ := rootS_lt h
  refine root_by hR (m := 1) ?_
  unfold rootS
  rw [hp]
  simp
/-- Where nothing comes again, all becomes terms. -/
theorem again_fin (hR : RootsIn R F.prox) : ∀ (m k : Nat) (i d i' d' : List Bool), againF F m k i d = some (false, i', d') → (∀ j : Nat, d[j]? = some true → ∃ n, FinD F R n j) → (∃ n, FinD F R n k) ∧ ∀ j : Nat, d'[j]? = some true → ∃ n, FinD F R n j
  | 0, k, i, d, i', d', h, _ => by cases h
  | m + 1, k, i, d, i', d', h, hd => by
    unfold againF at h
    cases hr : rootS F.prox m k with
    | none => rw [hr] at h; cases h
    | some r =>
    rw [hr] at h
    simp only at h
    have hk := root_by hR hr
    have hrr := root_self hR hr
    cases h1 : i[r]? with
    | none => rw [h1] at h; simp at h
    | some bi =>
    cases h2 : d[r]? with
    | none => rw [h1, h2] at h; simp at h
    | some bd =>
    cases h3 : F.args[r]? with
    | none => rw [h1, h2, h3] at h; simp at h
    | some us =>
    rw [h1, h2, h3] at h
    simp only at h
    split at h
    · rename_i hb
      cases h
      have hbd : bd = true := by simpa using hb
      subst hbd
      obtain ⟨n, hn⟩ := hd r h2
      exact ⟨⟨n, fin_root hrr hk hn⟩, hd⟩
    · have key : ∀ (us : List Nat) (i0 d0 i1 d1 : List Bool), (∀ j : Nat, d0[j]? = some true → ∃ n, FinD F R n j) → loopA (againF F m) us i0 d0 = some (false, i1, d1) → (∀ u ∈ us, ∃ n, FinD F R n u) ∧ ∀ j : Nat, d1[j]? = some true → ∃ n, FinD F R n j := by
        intro us
        induction us with
        | nil => intro i0 d0 i1 d1 h0 e; cases e; exact ⟨fun u hu => by simp at hu, h0⟩
        | cons u us ih =>
          intro i0 d0 i1 d1 h0 e
          unfold loopA at e
          cases e1 : againF F m u i0 d0 with
          | none => rw [e1] at e; cases e
          | some q =>
            obtain ⟨bq, iq, dq⟩ := q
            rw [e1] at e
            cases bq with
            | true => cases e
            | false =>
              obtain ⟨k1, k2⟩ := again_fin hR m u i0 d0 iq dq e1 h0
              obtain ⟨k3, k4⟩ := ih iq dq i1 d1 k2 e
              refine ⟨fun v hv => ?_, k4⟩
              rcases List.mem_cons.1 hv with rfl | hv
              · exact k1
              · exact k3 v hv
      cases e : loopA (againF F m) us (i.set r true) d with
      | none => rw [e] at h; simp at h
      | some q =>
        obtain ⟨bq, iq, dq⟩ := q
        rw [e] at h
        cases bq with
        | true => cases h
        | false =>
          cases h
          obtain ⟨k1, k2⟩ := key us _ _ _ _ hd e
          obtain ⟨n, hn⟩ := fin_max us k1
          have hfr : FinD F R (n + 1) r := ⟨r, us, hrr, h3, hn⟩
          refine ⟨⟨n + 1, fin_root hrr hk hfr⟩, fun j hj => ?_⟩
          rcases set_get? hj with ⟨rfl, _, _⟩ | ⟨_, hj⟩
          · exact ⟨n + 1, hfr⟩
          · exact k2 j hj
theorem endless_fin (hR : RootsIn R F.prox) {m k : Nat} (h : endlessF F m k = some false) : ∃ n, FinD F R n k := by
  unfold endlessF at h
  rw [Option.map_eq_some_iff] at h
  obtain ⟨⟨b, i', d'⟩, h1, h2⟩ := h
  simp only at h2
  subst h2
  refine (again_fin hR m k _ _ i' d' h1 fun j hj => ?_).1
  rw [List.getElem?_replicate] at hj
  split at hj <;> simp at hj
/-- What stands for each other: roots have the tops and the arguments of those for which they stand, as far as a naming q tells them apart; the pairs of S are one. -/
def Cgr (S st : List (Nat × Nat)) (F : Fd) : Prop := ∀ q : Nat → Nat, (∀ k p, F.prox[k]? = some p → q k = q p) → (∀ e ∈ st, q e.1 = q e.2) →
  (∀ e ∈ S, q e.1 = q e.2) ∧ ∀ (j : Nat) (x : Int) (us : List Nat), F.tops[j]? = some x → 0 ≤ x → F.args[j]? = some us → ∀ M r, rootS F.prox M j = some r → F.tops[r]? = some x ∧ ∃ us', F.args[r]? = some us' ∧ us'.map q = us.map q
theorem root_q {prox : List Nat} {q : Nat → Nat} (hq : ∀ k p, prox[k]? = some p → q k = q p) : ∀ {m k r : Nat}, rootS prox m k = some r → q k = q r
  | 0, k, r, h => by cases h
  | m + 1, k, r, h => by
    unfold rootS at h
    cases e : prox[k]? with
    | none => rw [e] at h; cases h
    | some p =>
      rw [e] at h
      simp only at h
      split at h
      · cases h; rfl
      · rw [hq k p e]; exact root_q hq h
theorem q_setp {prox : List Nat} {q : Nat → Nat} {x y : Nat} (hx : prox[x]? = some x) (hq : ∀ k p, (prox.set x y)[k]? = some p → q k = q p) : (∀ k p, prox[k]? = some p → q k = q p) ∧ q x = q y := by
  have hxl := (List.getElem?_eq_some_iff.1 hx).1
  refine ⟨fun k p hk => ?_, hq x y (by rw [List.getElem?_set, if_pos rfl, if_pos hxl])⟩
  by_cases e : k = x
  · subst e
    rw [hx] at hk
    cases hk
    rfl
  · exact hq k p (by rw [List.getElem?_set, if_neg (Ne.symm e)]; exact hk)
theorem root_setp {prox : List Nat} {x y : Nat} (hR : ∃ R, RootsIn R prox) (hx : prox[x]? = some x) (hy : prox[y]? = some y) (hxy : x ≠ y) {M j r : Nat} (h : rootS (prox.set x y) M j = some r) : ∃ M0 r0, rootS prox M0 j = some r0 ∧ r = if r0 = x then y else r0 := by
  obtain ⟨R, hR⟩ := hR
  obtain ⟨hj, _, _⟩ := rootS_lt h
  rw [List.length_set] at hj
  obtain ⟨r0, h0⟩ := hR j hj
  refine ⟨R, r0, h0, ?_⟩
  have e1 := rootS_mono (Nat.le_max_left (R + 1) M) (rootS_setp hx hy hxy h0)
  have e2 := rootS_mono (Nat.le_max_right (R + 1) M) h
  rw [e1] at e2
  exact (Option.some.inj e2).symm
theorem solve_cgr (S : List (Nat × Nat)) : ∀ (m : Nat) (st : List (Nat × Nat)) (F G : Fd), F.Ok → ArN ss F → (∃ R, RootsIn R F.prox) → solveF m st F = some (true, G) → Cgr S st F → Cgr S [] G ∧ SameG F G ∧ (∃ R, RootsIn R G.prox)
  | 0, st, F, G, _, _, _, h, _ => by cases h
  | m + 1, st, F, G, hF, hA, hR, h, hC => by
    unfold solveF at h
    cases hl : st.getLast? with
    | none =>
      rw [hl] at h
      cases h
      have : st = [] := List.getLast?_eq_none_iff.1 hl
      subst this
      exact ⟨hC, SameG.refl _, hR⟩
    | some lr =>
      obtain ⟨l, r⟩ := lr
      rw [hl] at h
      simp only at h
      have hsplit : ∀ e ∈ st, e ∈ st.dropLast ∨ e = (l, r) := fun e he => by
        have hne : st ≠ [] := List.ne_nil_of_mem he
        have h1 := List.dropLast_concat_getLast hne
        rw [List.getLast?_eq_some_getLast hne] at hl
        rw [Option.some.inj hl] at h1
        rw [← h1] at he
        rcases List.mem_append.1 he with he | he
        · exact .inl he
        · exact .inr (List.mem_singleton.1 he)
      cases h1 : rootS F.prox m l with
      | none => rw [h1] at h; cases h
      | some x =>
      cases h2 : rootS F.prox m r with
      | none => rw [h1, h2] at h; cases h
      | some y =>
      rw [h1, h2] at h
      simp only at h
      obtain ⟨_, hx, ex⟩ := rootS_lt h1
      obtain ⟨_, hy, ey⟩ := rootS_lt h2
      rw [hF.pl] at hx hy
      split at h
      · rename_i hxy
        subst hxy
        refine solve_cgr S m _ F G hF hA hR h fun q hq hs => hC q hq fun e he => ?_
        rcases hsplit e he with he | rfl
        · exact hs e he
        · show q l = q r
          rw [root_q hq h1, root_q hq h2]
      · rename_i hxy
        rw [List.getElem?_eq_getElem hx, List.getElem?_eq_getElem hy] at h
        simp only at h
        have step : ∀ (x y : Nat) (st2 : List (Nat × Nat)), x < F.tops.length → y < F.tops.length → F.prox[x]? = some x → F.prox[y]? = some y → x ≠ y → (∀ q : Nat → Nat, (∀ k p, F.prox[k]? = some p → q k = q p) → q x = q y → q l = q r) →
            (∀ q : Nat → Nat, (∀ e ∈ st2, q e.1 = q e.2) → ∀ e ∈ st.dropLast, q e.1 = q e.2) → (∀ q : Nat → Nat, (∀ e ∈ st2, q e.1 = q e.2) → ∀ (x1 : Int) (us : List Nat), F.tops[x]? = some x1 → 0 ≤ x1 → F.args[x]? = some us → F.tops[y]? = some x1 ∧ ∃ us', F.args[y]? = some us' ∧ us'.map q = us.map q) →
            solveF m st2 { F with prox := F.prox.set x y } = some (true, G) → Cgr S [] G ∧ SameG F G ∧ (∃ R, RootsIn R G.prox) := by
          intro x y st2 hx hy ex ey hne hlr hst2 hargs h
          obtain ⟨R0, hR0⟩ := hR
          obtain ⟨g1, g2, g3⟩ := solve_cgr S m st2 { F with prox := F.prox.set x y } G (hF.setp hy) hA ⟨R0 + 1, hR0.setp ex ey hne⟩ h (fun q hq hs => by
            obtain ⟨hq0, hqxy⟩ := q_setp ex hq
            have hlr' := hlr q hq0 hqxy
            obtain ⟨c1, c2⟩ := hC q hq0 (fun e he => by
              rcases hsplit e he with he | rfl
              · exact hst2 q hs e he
              · exact hlr')
            refine ⟨c1, fun j x1 us hj h0 hu M r1 hr => ?_⟩
            obtain ⟨M0, r0, hr0, rfl⟩ := root_setp ⟨R0, hR0⟩ ex ey hne hr
            obtain ⟨d1, us', d2, d3⟩ := c2 j x1 us hj h0 hu M0 r0 hr0
            split
            · rename_i e
              subst e
              obtain ⟨e1, us2, e2, e3⟩ := hargs q hs x1 us' d1 h0 d2
              exact ⟨e1, us2, e2, e3.trans d3⟩
            · exact ⟨d1, us', d2, d3⟩)
          exact ⟨g1, g2.set, g3⟩
        by_cases hty : F.tops[y] < 0
        · simp only [hty, if_true] at h
          refine step y x _ hy hx ey ex (Ne.symm hxy) (fun q hq he => by rw [root_q hq h1, root_q hq h2, he]) (fun q hs => hs) (fun q _ x1 us hj h0 _ => ?_) h
          rw [List.getElem?_eq_getElem hy] at hj
          cases hj
          omega
        · simp only [hty, if_false] at h
          split at h
          · rename_i htx
            refine step x y _ hx hy ex ey hxy (fun q hq he => by rw [root_q hq h1, root_q hq h2, he]) (fun q hs => hs) (fun q _ x1 us hj h0 _ => ?_) h
            rw [List.getElem?_eq_getElem hx] at hj
            cases hj
            omega
          · rename_i htx
            have hxa : x < F.args.length := by rw [hF.al]; exact hx
            have hya : y < F.args.length := by rw [hF.al]; exact hy
            split at h
            · rename_i e1
              rw [List.getElem?_eq_getElem hxa, List.getElem?_eq_getElem hya] at h
              simp only at h
              obtain ⟨s1, _⟩ := hA x _ _ (List.getElem?_eq_getElem hx) (List.getElem?_eq_getElem hxa)
              obtain ⟨t1, _⟩ := hA y _ _ (List.getElem?_eq_getElem hy) (List.getElem?_eq_getElem hya)
              split at h
              · refine step x y _ hx hy ex ey hxy (fun q hq he => by rw [root_q hq h1, root_q hq h2, he]) (fun q hs e he => hs e (List.mem_append_left _ he)) (fun q hs x1 us hj h0 hu => ?_) h
                rw [List.getElem?_eq_getElem hx] at hj
                cases hj
                rw [List.getElem?_eq_getElem hxa] at hu
                cases hu
                refine ⟨by rw [List.getElem?_eq_getElem hy, e1], _, List.getElem?_eq_getElem hya, ?_⟩
                have hlen : F.args[x].length = F.args[y].length := by rw [s1, t1, e1]
                have hz : ∀ e ∈ F.args[x].zip F.args[y], q e.1 = q e.2 := fun e he => hs e (List.mem_append_right _ he)
                have zipq : ∀ (a b : List Nat), a.length = b.length → (∀ e ∈ a.zip b, q e.1 = q e.2) → b.map q = a.map q := by
                  intro a
                  induction a with
                  | nil => intro b hb _; cases b with
                    | nil => rfl
                    | cons _ _ => simp at hb
                  | cons u a ih => intro b hb hz; cases b with
                    | nil => simp at hb
                    | cons v b =>
                      rw [List.map_cons, List.map_cons, ih b (by simpa using hb) (fun e he => hz e (by rw [List.zip_cons_cons]; exact List.mem_cons_of_mem _ he)), hz (u, v) (by rw [List.zip_cons_cons]; exact List.mem_cons_self ..)]
                exact zipq _ _ hlen hz
              · cases h
            · cases h
end
end Go.Proofs.Ytohhgghjpokdiaa

/- What the program's unification finds is the most general one: the plain mathematics. -/
namespace Go.Proofs.Ytohhgghjpokdiaa
open Go.RowKit

section
variable {ss : Sg} {G : Fd} {R : Nat}
theorem flat_scan {f : Nat → List Int} : ∀ (us : List Nat), (∀ u ∈ us, scan ss 1 (f u) = some []) → scan ss us.length (us.flatMap f) = some []
  | [], _ => by rw [List.length_nil, scan_zero]; rfl
  | u :: us, h => by
    rw [List.flatMap_cons, List.length_cons, Nat.add_comm, scan_add, scan_append ss _ _ _ _ (h u (List.mem_cons_self ..))]
    exact flat_scan us fun v hv => h v (List.mem_cons_of_mem _ hv)
theorem nu_scan (hA : ArN ss G) (hal : G.args.length = G.tops.length) (k : Nat) : scan ss 1 (nuF G R k) = some [] := by
  have key : ∀ n k, FinD G R n k → scan ss 1 (nuF G R k) = some [] := by
    intro n
    induction n with
    | zero => intro k h; exact h.elim
    | succ n ih =>
      intro k h
      obtain ⟨r, us, h1, h2, h3⟩ := id h
      have hr : r < G.tops.length := by rw [← hal]; exact (List.getElem?_eq_some_iff.1 h2).1
      have hx := List.getElem?_eq_getElem hr
      rw [(nu_node ⟨_, h⟩ h1 h2 hx).1]
      simp only [scan]
      rw [Nat.zero_add, ← (hA r _ us hx h2).1]
      exact flat_scan us fun u hu => ih u (h3 u hu)
  by_cases h : ∃ n, FinD G R n k
  · obtain ⟨n, h⟩ := h
    exact key n k h
  · unfold nuF
    rw [dif_neg h]
    exact scan_neg (by omega)
theorem nu_pos (hA : ArN ss G) (hal : G.args.length = G.tops.length) (k : Nat) : 1 ≤ (nuF G R k).length := scan_len (nu_scan hA hal k)
/-- What is written is what the node becomes. -/
theorem write_nu (hA : ArN ss G) (hal : G.args.length = G.tops.length) (hR : RootsIn R G.prox) : ∀ (m k : Nat) (t t' : List Int) (b : Bool), writeF G m k t = some (b, t') → t.length ≤ 60 → (∃ n, FinD G R n k) → (b = true → t' = t ++ nuF G R k) ∧ (b = false → 60 < t.length + (nuF G R k).length)
  | 0, k, t, t', b, h, _, _ => by cases h
  | m + 1, k, t, t', b, h, h60, hf => by
    unfold writeF at h
    cases hr : rootS G.prox m k with
    | none => rw [hr] at h; cases h
    | some r =>
    rw [hr] at h
    simp only at h
    have hk := root_by hR hr
    have hlen := nu_pos (R := R) hA hal k
    split at h
    · rename_i e60
      cases h
      exact ⟨fun hb => (by cases hb), fun _ => by omega⟩
    · rename_i e60
      cases h1 : G.tops[r]? with
      | none => rw [h1] at h; cases h
      | some x =>
      cases h2 : G.args[r]? with
      | none => rw [h1, h2] at h; cases h
      | some us =>
      rw [h1, h2] at h
      simp only at h
      obtain ⟨n1, n2⟩ := nu_node hf hk h2 h1
      have key : ∀ (us : List Nat) (t0 t1 : List Int) (b1 : Bool), (∀ u ∈ us, ∃ n, FinD G R n u) → t0.length ≤ 60 → loopW (writeF G m) us t0 = some (b1, t1) → (b1 = true → t1 = t0 ++ us.flatMap (nuF G R)) ∧ (b1 = false → 60 < t0.length + (us.flatMap (nuF G R)).length) := by
        intro us
        induction us with
        | nil => intro t0 t1 b1 _ _ e; cases e; exact ⟨fun _ => by simp, fun hb => (by cases hb)⟩
        | cons u us ih =>
          intro t0 t1 b1 hu hl0 e
          unfold loopW at e
          cases e1 : writeF G m u t0 with
          | none => rw [e1] at e; cases e
          | some q =>
            obtain ⟨bq, tq⟩ := q
            obtain ⟨k1, k2⟩ := write_nu hA hal hR m u t0 tq bq e1 hl0 (hu u (List.mem_cons_self ..))
            rw [e1] at e
            rw [List.flatMap_cons, List.length_append]
            cases bq with
            | false =>
              cases e
              exact ⟨fun hb => (by cases hb), fun _ => by have := k2 rfl; omega⟩
            | true =>
              have htq := writeF_len m u t0 true _ e1 hl0
              obtain rfl := k1 rfl
              obtain ⟨j1, j2⟩ := ih _ t1 b1 (fun v hv => hu v (List.mem_cons_of_mem _ hv)) htq e
              refine ⟨fun hb => by rw [j1 hb, List.append_assoc], fun hb => ?_⟩
              have h3 := j2 hb
              rw [List.length_append] at h3
              omega
      have ht1 : (t ++ [x]).length ≤ 60 := by rw [List.length_append, List.length_singleton]; omega
      obtain ⟨k1, k2⟩ := key us _ _ _ n2 ht1 h
      rw [n1]
      refine ⟨fun hb => by rw [k1 hb, List.append_assoc]; rfl, fun hb => ?_⟩
      have := k2 hb
      rw [List.length_append, List.length_singleton] at this
      rw [List.length_cons]
      omega
/-- What is found is the most general. -/
theorem nu_gen {ν : Nat → List Int} {τ : Int → List Int} (hV : Val ss G ν) (hal : G.args.length = G.tops.length) (hτ : ∀ (j : Nat) (x : Int), G.tops[j]? = some x → x < 0 → τ x = ν j) : ∀ n k, FinD G R n k → apV τ (nuF G R k) = ν k := by
  intro n
  induction n with
  | zero => intro k h; exact h.elim
  | succ n ih =>
    intro k h
    obtain ⟨r, us, h1, h2, h3⟩ := id h
    have hr : r < G.tops.length := by rw [← hal]; exact (List.getElem?_eq_some_iff.1 h2).1
    have hx := List.getElem?_eq_getElem hr
    rw [(nu_node ⟨_, h⟩ h1 h2 hx).1, rootS_val hV.prx h1, show G.tops[r] :: us.flatMap (nuF G R) = [G.tops[r]] ++ us.flatMap (nuF G R) from rfl, apV_append, apV_one]
    have hfl : ∀ us : List Nat, (∀ u ∈ us, FinD G R n u) → apV τ (us.flatMap (nuF G R)) = us.flatMap ν := by
      intro us
      induction us with
      | nil => intro _; rfl
      | cons u us ihu =>
        intro hu
        rw [List.flatMap_cons, List.flatMap_cons, apV_append, ih u (hu u (List.mem_cons_self ..)), ihu fun v hv => hu v (List.mem_cons_of_mem _ hv)]
    by_cases h0 : 0 ≤ G.tops[r]
    · rw [if_neg (by omega), hfl us h3, (hV.sym r _ us hx h2 h0).1]
      rfl
    · have hu := hV.var r _ us hx h2 (by omega)
      subst hu
      rw [if_pos (by omega), hτ r _ hx (by omega)]
      simp [apV]
theorem root_pid {prox : List Nat} (hp : ∀ k p : Nat, prox[k]? = some p → p = k) {M j r : Nat} (h : rootS prox M j = some r) : r = j := by
  cases M with
  | zero => cases h
  | succ M =>
    unfold rootS at h
    cases e : prox[j]? with
    | none => rw [e] at h; cases h
    | some p =>
      rw [e] at h
      simp only at h
      rw [if_pos (hp j p e)] at h
      exact (Option.some.inj h).symm
/-- What becomes of each variable. -/
noncomputable def sgG (G : Fd) (R : Nat) (z : Int) : List Int := match vget G.vars z with | some k => nuF G R k | none => [z]
/-- All that is known where the program's unification says yes. -/
structure UniIs (ss : Sg) (sh : Int) (za zb : List Int) (k : Nat) (G : Fd) (R : Nat) : Prop where
  rts : RootsIn R G.prox
  al : G.args.length = G.tops.length
  arn : ArN ss G
  fin : ∃ n, FinD G R n k
  good : GoodV ss (sgG G R)
  one : apV (sft (sgG G R) 0) za = nuF G R k
  two : apV (sft (sgG G R) sh) zb = nuF G R k
  vt : ∀ (z : Int) (j : Nat), vget G.vars z = some j → G.tops[j]? = some z ∧ j < G.prox.length
  tv : ∀ (j : Nat) (z : Int), G.tops[j]? = some z → z < 0 → vget G.vars z = some j ∧ G.args[j]? = some []
  ina : ∀ z ∈ za, z < 0 → ∃ j, vget G.vars z = some j ∧ ∃ n, FinD G R n j
  inb : ∀ z ∈ zb, z < 0 → ∃ j, vget G.vars (z - sh) = some j ∧ ∃ n, FinD G R n j
/-- The program's unification, where it says yes: what both terms become. -/
theorem unite_all {sh : Int} {za zb : List Int} {k : Nat} (hsh : 0 ≤ sh) (ha : valOk ss za = true) (hb : valOk ss zb = true) (h : uniteF ss sh 10000 za zb Fd.none = some (k, true, G)) :
    ∃ R, UniIs ss sh za zb k G R := by
  have har := sigOk_ar (valOk_sig ha)
  obtain ⟨ν, h1, h2, h3, h4, hk1, hk2, hlen⟩ := both_val (σ := fun z => if z < 0 then [z] else [-1]) hsh ha hb (fun z hz => by
    show scan ss 1 (if z < 0 then [z] else [-1]) = some []
    rw [if_pos hz]; exact scan_neg hz)
  have hV := h1.val
  unfold uniteF at h
  obtain ⟨F, hFF⟩ : ∃ F, (addT ss sh zb (addT ss 0 za Fd.none).2.2).2.2 = F := ⟨_, rfl⟩
  obtain ⟨k1, hkk1⟩ : ∃ k1, (addT ss 0 za Fd.none).1 = k1 := ⟨_, rfl⟩
  obtain ⟨k2, hkk2⟩ : ∃ k2, (addT ss sh zb (addT ss 0 za Fd.none).2.2).1 = k2 := ⟨_, rfl⟩
  rw [hFF, hkk1, hkk2] at h
  rw [hFF] at h1 h2 hk1 hk2 hlen hV
  rw [hkk1] at h3 hk1
  rw [hkk2] at h4 hk2
  clear hFF hkk1 hkk2
  have hA : ArN ss F := by
    intro k x us hx hu
    by_cases h0 : 0 ≤ x
    · obtain ⟨_, e⟩ := hV.sym k x us hx hu h0
      exact ⟨e, by rw [e]; exact arOf_le har x⟩
    · have e := hV.var k x us hx hu (by omega)
      subst e
      rw [arOf_neg ss (by omega)]
      exact ⟨rfl, by simp⟩
  have hR0 : RootsIn 1 F.prox := fun k hk => by
    refine ⟨k, ?_⟩
    unfold rootS
    rw [List.getElem?_eq_getElem hk]
    simp only
    rw [if_pos (h1.pid k _ (List.getElem?_eq_getElem hk))]
  cases hs : solveF 10000 [(k1, k2)] F with
  | none => rw [hs] at h; cases h
  | some q =>
  obtain ⟨b, G1⟩ := q
  rw [hs] at h
  cases b with
  | false => simp at h
  | true =>
  simp only at h
  cases he : endlessF G1 10000 k1 with
  | none => rw [he] at h; cases h
  | some en =>
  rw [he] at h
  simp only [Option.some.injEq, Prod.mk.injEq] at h
  obtain ⟨rfl, hen, rfl⟩ := h
  have hen' : en = false := by simpa using hen
  subst hen'
  obtain ⟨hC, hG, R, hR⟩ := solve_cgr [(k1, k2)] 10000 _ F G1 h2 hA ⟨1, hR0⟩ hs (fun q _ hs => ⟨hs, fun j x us hj h0 hu M r hr => by
    obtain rfl := root_pid h1.pid hr
    exact ⟨hj, us, hu, rfl⟩⟩)
  have hal : G1.args.length = G1.tops.length := by rw [hG.args, hG.tops]; exact h2.al
  have hAG := hA.same hG
  have hfin := endless_fin hR he
  have hlt : ∀ k, k < F.tops.length → ∃ r, rootS G1.prox R k = some r := fun k hk => hR k (by rw [hG.plen, h2.pl]; exact hk)
  obtain ⟨hpair, hcg⟩ := hC (fun k => (rootS G1.prox R k).getD k) (fun k p hk => by
    show (rootS G1.prox R k).getD k = (rootS G1.prox R p).getD p
    by_cases e : p = k
    · rw [e]
    · obtain ⟨r, hr⟩ := hR k (List.getElem?_eq_some_iff.1 hk).1
      have hr2 := rootS_mono (m' := R + 1) (by omega) hr
      unfold rootS at hr2
      rw [hk] at hr2
      simp only at hr2
      rw [if_neg e] at hr2
      rw [hr, hr2]
      rfl) (fun e he => by simp at he)
  have hkk := hpair (k1, k2) (List.mem_singleton.2 rfl)
  obtain ⟨r1, hr1⟩ := hlt k1 hk1
  obtain ⟨r2, hr2⟩ := hlt k2 hk2
  simp only [hr1, hr2, Option.getD_some] at hkk
  subst hkk
  have hfin2 : ∃ n, FinD G1 R n k2 := by
    obtain ⟨n, hn⟩ := hfin
    exact ⟨n, fin_root hr1 hr2 hn⟩
  have hgd : GoodV ss (sgG G1 R) := fun z hz => by
    unfold sgG
    split
    · exact nu_scan hAG hal _
    · exact scan_neg hz
  obtain ⟨σ, hσ⟩ : ∃ σ : Int → List Int, sgG G1 R = σ := ⟨_, rfl⟩
  have hσv : ∀ (z : Int) (k : Nat), vget F.vars z = some k → σ z = nuF G1 R k := fun z k hk => by rw [← hσ]; unfold sgG; rw [hG.vars, hk]
  have hfin2 := hfin2
  have fin : (apV (sft σ 0) za = nuF G1 R k1 ∧ apV (sft σ sh) zb = nuF G1 R k1) ∧ (∀ z ∈ za, z < 0 → ∃ j, vget F.vars z = some j ∧ ∃ n, FinD G1 R n j) ∧ (∀ z ∈ zb, z < 0 → ∃ j, vget F.vars (z - sh) = some j ∧ ∃ n, FinD G1 R n j) := by
    have main : ∀ (L j : Nat), j < F.tops.length → (ν j).length ≤ L → (∃ n, FinD G1 R n j) → apV σ (ν j) = nuF G1 R j ∧ ∀ z ∈ ν j, z < 0 → ∃ i, vget F.vars z = some i ∧ ∃ n, FinD G1 R n i := by
      intro L
      induction L with
      | zero => intro j hj hL; have := scan_len (h1.trm j hj); omega
      | succ L ih =>
        intro j hj hL hf
        have hx := List.getElem?_eq_getElem hj
        have hja : j < F.args.length := by rw [h2.al]; exact hj
        have hu := List.getElem?_eq_getElem hja
        by_cases h0 : 0 ≤ F.tops[j]
        · obtain ⟨s1, s2⟩ := h1.sym j _ _ hx hu h0 (fun h => h)
          obtain ⟨r, hr⟩ := hlt j hj
          obtain ⟨d1, us', d2, d3⟩ := hcg j _ _ (by rw [hG.tops]; exact hx) h0 (by rw [hG.args]; exact hu) R r hr
          obtain ⟨n1, n2⟩ := nu_node hf hr d2 d1
          have hub : ∀ u ∈ F.args[j], u < F.tops.length := fun u hu => h2.ab _ (List.getElem_mem hja) u hu
          have hub' : ∀ u ∈ us', u < F.tops.length := fun u hu => h2.ab us' (by rw [← hG.args]; exact List.mem_of_getElem? d2) u hu
          have hgq : ∀ u, u < F.tops.length → nuF G1 R ((rootS G1.prox R u).getD u) = nuF G1 R u := fun u hu => by
            obtain ⟨r, hr⟩ := hlt u hu
            rw [hr, Option.getD_some]
            exact nu_root (root_self hR hr) hr
          have hfl : ∀ us : List Nat, (∀ u ∈ us, u < F.tops.length) → us.flatMap (nuF G1 R) = (us.map fun k => (rootS G1.prox R k).getD k).flatMap (nuF G1 R) := fun us hus => by
            rw [List.flatMap_map]
            exact flat_same fun u hu => (hgq u (hus u hu)).symm
          have hfu : ∀ u ∈ F.args[j], ∃ n, FinD G1 R n u := fun u hu => by
            have hm : (rootS G1.prox R u).getD u ∈ F.args[j].map fun k => (rootS G1.prox R k).getD k := List.mem_map_of_mem hu
            rw [← d3] at hm
            obtain ⟨u', hu', e⟩ := List.mem_map.1 hm
            obtain ⟨ru, hru⟩ := hlt u (hub u hu)
            obtain ⟨ru', hru'⟩ := hlt u' (hub' u' hu')
            simp only [hru, hru', Option.getD_some] at e
            subst e
            obtain ⟨n, hn⟩ := n2 u' hu'
            exact ⟨n, fin_root hru' hru hn⟩
          rw [s1] at hL ⊢
          rw [n1, hfl us' hub', d3, ← hfl _ hub, show F.tops[j] :: F.args[j].flatMap ν = [F.tops[j]] ++ F.args[j].flatMap ν from rfl, apV_append, apV_one, if_neg (by omega)]
          rw [List.length_cons] at hL
          have hap : ∀ us : List Nat, (∀ u ∈ us, apV σ (ν u) = nuF G1 R u) → apV σ (us.flatMap ν) = us.flatMap (nuF G1 R) := by
            intro us
            induction us with
            | nil => intro _; rfl
            | cons u us ihu =>
              intro hh
              rw [List.flatMap_cons, List.flatMap_cons, apV_append, hh u (List.mem_cons_self ..), ihu fun v hv => hh v (List.mem_cons_of_mem _ hv)]
          refine ⟨by
            rw [hap _ fun u hu => (ih u (hub u hu) (by have := flat_lt (ν := ν) u hu; omega) (hfu u hu)).1]
            rfl, fun z hz hn => ?_⟩
          rcases List.mem_cons.1 hz with rfl | hz
          · omega
          · obtain ⟨u, hu, hz⟩ := List.mem_flatMap.1 hz
            exact (ih u (hub u hu) (by have := flat_lt (ν := ν) u hu; omega) (hfu u hu)).2 z hz hn
        · obtain ⟨t1, t2⟩ := h1.tv j _ hx (by omega)
          rw [t2, if_pos (by omega), apV_one, if_pos (by omega)]
          refine ⟨hσv _ _ t1, fun z hz _ => ?_⟩
          rw [List.mem_singleton] at hz
          subst hz
          exact ⟨j, t1, hf⟩
    obtain ⟨m1, i1⟩ := main _ k1 hk1 (Nat.le_refl _) hfin
    obtain ⟨m2, i2⟩ := main _ k2 hk2 (Nat.le_refl _) hfin2
    rw [h3] at m1 i1
    rw [h4] at m2 i2
    have hin : ∀ (sh : Int), 0 ≤ sh → ∀ t : List Int, ∀ z ∈ t, z < 0 → z - sh ∈ apV (sft (fun z => if z < 0 then [z] else [-1]) sh) t := fun sh h0 t z hz hn => by
      unfold apV
      rw [List.mem_flatMap]
      refine ⟨z, hz, ?_⟩
      rw [if_pos hn]
      show z - sh ∈ (if z - sh < 0 then [z - sh] else [-1])
      rw [if_pos (by omega), List.mem_singleton]
    have hsft : ∀ (sh : Int), 0 ≤ sh → ∀ t, apV σ (apV (sft (fun z => if z < 0 then [z] else [-1]) sh) t) = apV (sft σ sh) t := fun sh h0 t => by
      rw [apV_flat]
      unfold apV
      refine flat_same fun z _ => ?_
      by_cases hz : z < 0
      · rw [if_pos hz, if_pos hz]
        show apV σ (if z - sh < 0 then [z - sh] else [-1]) = σ (z - sh)
        rw [if_pos (by omega), apV_one, if_pos (by omega)]
      · rw [if_neg hz, if_neg hz]
    rw [hsft 0 (by omega)] at m1
    rw [hsft sh hsh] at m2
    refine ⟨⟨m1, by rw [m2]; exact (nu_root hr1 hr2).symm⟩, fun z hz hn => ?_, fun z hz hn => i2 _ (hin sh hsh zb z hz hn) (by omega)⟩
    have := hin 0 (by omega) za z hz hn
    rw [Int.sub_zero] at this
    exact i1 z this hn
  obtain ⟨⟨f1, f2⟩, f3, f4⟩ := fin
  rw [← hσ] at f1 f2
  refine ⟨R, hR, hal, hAG, hfin, hgd, f1, f2, fun z j hj => ?_, fun j z hj hz => ?_, ?_, ?_⟩
  · rw [hG.vars] at hj
    have := h1.vt z j hj
    rw [hG.tops, hG.plen, h2.pl]
    exact ⟨this, (List.getElem?_eq_some_iff.1 this).1⟩
  · rw [hG.tops] at hj
    rw [hG.vars, hG.args]
    have hja : j < F.args.length := by rw [h2.al]; exact (List.getElem?_eq_some_iff.1 hj).1
    have hu := List.getElem?_eq_getElem hja
    refine ⟨(h1.tv j z hj hz).1, ?_⟩
    have e := h1.var j z _ hj hu hz
    rw [hu, e]
  · rw [hG.vars]; exact f3
  · rw [hG.vars]; exact f4
theorem unite_nu {sh : Int} {za zb : List Int} {k : Nat} (hsh : 0 ≤ sh) (ha : valOk ss za = true) (hb : valOk ss zb = true) (h : uniteF ss sh 10000 za zb Fd.none = some (k, true, G)) :
    ∃ R, RootsIn R G.prox ∧ G.args.length = G.tops.length ∧ ArN ss G ∧ (∃ n, FinD G R n k) ∧ ∃ σ, GoodV ss σ ∧ apV (sft σ 0) za = nuF G R k ∧ apV (sft σ sh) zb = nuF G R k := by
  obtain ⟨R, u⟩ := unite_all hsh ha hb h
  exact ⟨R, u.rts, u.al, u.arn, u.fin, _, u.good, u.one, u.two⟩

theorem fold_map {f : Int → Int} {S : List Int} (hneg : ∀ z ∈ S, z < 0 → f z < 0) (hpos : ∀ z ∈ S, 0 ≤ z → f z = z) (hinj : ∀ x ∈ S, ∀ z ∈ S, f x = f z → x = z) : ∀ (a l : List Int), (∀ z ∈ a, z ∈ S) → (∀ x ∈ l, x ∈ S) → (a.map f).foldl addSeen (l.map f) = (a.foldl addSeen l).map f
  | [], _, _, _ => rfl
  | z :: a, l, ha, hl => by
    have hz := ha z (List.mem_cons_self ..)
    have e1 := addSeen_map (l := l) (hneg z hz) (hpos z hz) (fun x hx _ e => hinj x (hl x hx) z hz e)
    have hl2 : ∀ x ∈ addSeen l z, x ∈ S := fun x hx => by
      unfold addSeen at hx
      split at hx
      · exact hl x hx
      · split at hx
        · exact hl x hx
        · rcases List.mem_append.1 hx with h | h
          · exact hl x h
          · obtain rfl := List.mem_singleton.1 h; exact hz
    rw [List.map_cons, List.foldl_cons, List.foldl_cons, e1, fold_map hneg hpos hinj a _ (fun x hx => ha x (List.mem_cons_of_mem _ hx)) hl2]
theorem apV_sizes {σ : Int → List Int} : ∀ {a : List Int}, (∀ z ∈ a, z < 0 → 1 ≤ (σ z).length) → a.length ≤ (apV σ a).length ∧ ((apV σ a).length = a.length → ∀ z ∈ a, z < 0 → (σ z).length = 1)
  | [], _ => ⟨Nat.le_refl _, fun _ z hz => by simp at hz⟩
  | x :: a, h => by
    obtain ⟨h1, h2⟩ := apV_sizes (a := a) fun z hz => h z (List.mem_cons_of_mem _ hz)
    rw [show x :: a = [x] ++ a from rfl, apV_append, apV_one, List.length_append, List.length_append, List.length_singleton]
    by_cases hx : x < 0
    · have h3 := h x (List.mem_cons_self ..) hx
      rw [if_pos hx]
      refine ⟨by omega, fun e z hz hn => ?_⟩
      rcases List.mem_cons.1 hz with rfl | hz
      · omega
      · exact h2 (by omega) z hz hn
    · rw [if_neg hx, List.length_singleton]
      refine ⟨by omega, fun e z hz hn => ?_⟩
      rcases List.mem_cons.1 hz with rfl | hz
      · exact absurd hn hx
      · exact h2 (by omega) z hz hn
theorem apV_map {σ : Int → List Int} {f : Int → Int} : ∀ {p : List Int}, (∀ z ∈ p, (if z < 0 then σ z else [z]) = [f z]) → apV σ p = p.map f
  | [], _ => rfl
  | z :: p, h => by
    rw [show z :: p = [z] ++ p from rfl, apV_append, apV_one, h z (List.mem_cons_self ..), apV_map fun x hx => h x (List.mem_cons_of_mem _ hx)]
    rfl
/-- Terms that become each other are alike, however long. -/
theorem alike_of {σ τ : Int → List Int} {U V : List Int} (hσ : GoodV ss σ) (hτ : GoodV ss τ) (h1 : apV τ U = V) (h2 : apV σ V = U) : V.length = U.length ∧ canon U = canon V ∧ (seenTo U U.length).length = (seenTo V V.length).length := by
  have l1 := (apV_sizes (σ := τ) (a := U) fun z _ hn => scan_len (hτ z hn)).1
  have l2 := (apV_sizes (σ := σ) (a := V) fun z _ hn => scan_len (hσ z hn)).1
  rw [h1] at l1
  rw [h2] at l2
  have hl : V.length = U.length := by omega
  have mk : ∀ {σ : Int → List Int} {a b : List Int}, GoodV ss σ → apV σ a = b → b.length = a.length → ∃ f : Int → Int, a.map f = b ∧ ∀ z ∈ a, 0 ≤ z → f z = z := fun {σ a b} hσ h hl => by
    have hh := (apV_sizes (σ := σ) (a := a) fun z _ hn => scan_len (hσ z hn)).2 (by rw [h, hl])
    refine ⟨fun z => if z < 0 then (σ z).headD 0 else z, ?_, fun z _ hp => by show (if z < 0 then _ else z) = z; rw [if_neg (by omega)]⟩
    rw [← h]
    refine (apV_map fun z hz => ?_).symm
    by_cases hn : z < 0
    · rw [if_pos hn, if_pos hn]
      have := hh z hz hn
      match hq : σ z, this with
      | [y], _ => rfl
    · rw [if_neg hn, if_neg hn]
  obtain ⟨f, f1, f2⟩ := mk hτ h1 hl
  obtain ⟨g, g1, g2⟩ := mk hσ h2 hl.symm
  have hgf : ∀ z ∈ U, g (f z) = z := by
    have : U.map (g ∘ f) = U.map id := by rw [List.map_id, ← List.map_map, f1, g1]
    intro z hz
    exact (List.map_inj_left.1 this) z hz
  have hfb : ∀ z ∈ U, f z ∈ V := fun z hz => by rw [← f1]; exact List.mem_map_of_mem hz
  have hneg : ∀ z ∈ U, z < 0 → f z < 0 := fun z hz hn => by
    rcases Int.lt_or_le (f z) 0 with h | h
    · exact h
    · have := hgf z hz
      rw [g2 _ (hfb z hz) h] at this
      omega
  have hinj : ∀ x ∈ U, ∀ z ∈ U, f x = f z → x = z := fun x hx z hz e => by rw [← hgf x hx, ← hgf z hz, e]
  have k1 := canonL_map (S := U) hneg f2 hinj U [] (fun _ h => h) (fun x hx => by simp at hx)
  have k2 := fold_map (S := U) hneg f2 hinj U [] (fun _ h => h) (fun x hx => by simp at hx)
  rw [List.map_nil, f1] at k1 k2
  refine ⟨hl, k1.symm, ?_⟩
  unfold seenTo
  rw [List.take_length, List.take_length, k2, List.length_map]
theorem form_alike {U V : List Int} (h : V.length = U.length ∧ canon U = canon V ∧ (seenTo U U.length).length = (seenTo V V.length).length) : formZ true U = formZ true V := by
  unfold formZ
  rw [h.2.1, h.2.2]
theorem apV_sft0 (τ : Int → List Int) (t : List Int) : apV (sft τ 0) t = apV τ t := by
  unfold apV
  refine flat_same fun z _ => ?_
  unfold sft
  rw [Int.sub_zero]
theorem solve_tops : ∀ (m : Nat) (st : List (Nat × Nat)) (F G : Fd) (b : Bool), solveF m st F = some (b, G) → G.tops = F.tops
  | 0, st, F, G, b, h => by cases h
  | m + 1, st, F, G, b, h => by
    unfold solveF at h
    split at h
    · cases h; rfl
    · split at h
      · split at h
        · exact solve_tops m _ F G b h
        · split at h
          · simp only at h
            repeat' split at h
            all_goals first
              | (cases h; done)
              | (cases h; rfl)
              | (have := solve_tops m _ _ G b h; exact this)
          · cases h
      · cases h
theorem nu_heads {n : Nat} {H : Int} (hH : ∀ z ∈ G.tops, z < H) (hal : G.args.length = G.tops.length) : ∀ k, FinD G R n k → ∀ z ∈ nuF G R k, z < H := by
  induction n with
  | zero => intro k h; exact h.elim
  | succ n ih =>
    intro k h z hz
    obtain ⟨r, us, h1, h2, h3⟩ := id h
    have hr : r < G.tops.length := by rw [← hal]; exact (List.getElem?_eq_some_iff.1 h2).1
    rw [(nu_node ⟨_, h⟩ h1 h2 (List.getElem?_eq_getElem hr)).1] at hz
    rcases List.mem_cons.1 hz with rfl | hz
    · exact hH _ (List.getElem_mem hr)
    · obtain ⟨u, hu, hz⟩ := List.mem_flatMap.1 hz
      exact ih u (h3 u hu) z hz
/-- What the program finds: nothing, where there is nothing; otherwise the most general one, whole. -/
theorem com_is {sh : Int} {za zb : List Int} (hsh : 0 ≤ sh ∧ sh ≤ 1000) (ha : valOk ss za = true) (hb : valOk ss zb = true) :
    (hasZ ss sh za zb = false ∧ comZ ss sh za zb = ([], 8) ∧ ∀ τ, GoodV ss τ → apV (sft τ 0) za ≠ apV (sft τ sh) zb) ∨
    (hasZ ss sh za zb = true ∧ ∃ (U : List Int) (σ : Int → List Int), GoodV ss σ ∧ apV (sft σ 0) za = U ∧ apV (sft σ sh) zb = U ∧ comZ ss sh za zb = formZ (decide (U.length ≤ 60)) U ∧ scan ss 1 U = some [] ∧ HeadsOk ss U ∧
      ∀ τ, GoodV ss τ → apV (sft τ 0) za = apV (sft τ sh) zb → apV τ U = apV (sft τ 0) za) := by
  have hcg := comZ_good hsh ha hb
  obtain ⟨⟨k, b, G, hu, hGok⟩, har, _⟩ := common_some hsh ha hb
  have hz := hasZ_good ha hb hu
  unfold commonF at hcg
  rw [if_pos (by simpa [List.all_eq_true] using har), hu] at hcg
  cases b with
  | false =>
    simp only [Option.some.injEq] at hcg
    refine .inl ⟨hz, hcg.symm, fun τ hτ he => ?_⟩
    have := (unite_val hsh.1 ha hb hτ he hu).1
    cases this
  | true =>
    obtain ⟨R, hR, hal, hAr, hfin, σ, s1, s2, s3⟩ := unite_nu hsh.1 ha hb hu
    refine .inr ⟨hz, nuF G R k, σ, s1, s2, s3, ?_, nu_scan hAr hal k, ?_, fun τ hτ he => ?_⟩
    · simp only at hcg
      cases hw : writeF G 10000 k [] with
      | none => rw [hw] at hcg; cases hcg
      | some p =>
        obtain ⟨ok2, t⟩ := p
        rw [hw] at hcg
        simp only at hcg
        obtain ⟨w1, w2⟩ := write_nu hAr hal hR 10000 k [] t ok2 hw (by simp) hfin
        split at hcg
        · rw [← Option.some.inj hcg]
          cases ok2 with
          | true =>
            have e := w1 rfl
            rw [List.nil_append] at e
            subst e
            have h60 := writeF_len 10000 k [] true _ hw (by simp)
            rw [decide_eq_true h60]
          | false =>
            have h60 := w2 rfl
            simp only [List.length_nil, Nat.zero_add] at h60
            rw [decide_eq_false (by omega)]
            unfold formZ
            rw [if_neg (fun h => by cases h.1), if_neg (fun h => by cases h.1)]
        · cases hcg
    · have hns := sigOk_len (valOk_sig ha)
      have htops : ∀ z ∈ G.tops, z < (ss.length : Int) := by
        have hG : G.tops = (addT ss sh zb (addT ss 0 za Fd.none).2.2).2.2.tops := by
          obtain ⟨ν, h1, h2, h3, h4, hk1, hk2, hlen⟩ := both_val (σ := fun _ => [-1]) hsh.1 ha hb (fun z hz => scan_neg (by omega))
          unfold uniteF at hu
          cases hs : solveF 10000 [((addT ss 0 za Fd.none).1, (addT ss sh zb (addT ss 0 za Fd.none).2.2).1)] (addT ss sh zb (addT ss 0 za Fd.none).2.2).2.2 with
          | none => rw [hs] at hu; cases hu
          | some q =>
            obtain ⟨bq, G1⟩ := q
            have ht := solve_tops _ _ _ _ _ hs
            rw [hs] at hu
            cases bq with
            | false => simp at hu
            | true =>
              simp only at hu
              cases he : endlessF G1 10000 (addT ss 0 za Fd.none).1 with
              | none => rw [he] at hu; cases hu
              | some en =>
                rw [he] at hu
                simp only [Option.some.injEq, Prod.mk.injEq] at hu
                rw [← hu.2.2]
                exact ht
        rw [hG]
        unfold addT
        refine (addF_mem (Q := fun z => z < (ss.length : Int)) _ zb _ (fun z hz => ?_) (addF_mem (Q := fun z => z < (ss.length : Int)) _ za _ (fun z hz => ?_) (fun z hz => by simp [Fd.none] at hz)).2).2
        · have := (valOk_term hb).2.2.1 z hz; exact ⟨this.2, by omega⟩
        · have := (valOk_term ha).2.2.1 z hz; exact ⟨this.2, by omega⟩
      obtain ⟨n, hn⟩ := hfin
      exact nu_heads htops hal k hn
    · obtain ⟨_, ν, v1, v2, v3, v4⟩ := unite_val hsh.1 ha hb hτ he hu
      obtain ⟨n, hn⟩ := hfin
      rw [nu_gen v1 hal (fun j x hj hx => v4 j x hj hx) n k hn, v3]
end

end Go.Proofs.Ytohhgghjpokdiaa

/- The program's unification and the reference's solver find the same: the plain mathematics. -/
namespace Go.Proofs.Ytohhgghjpokdiaa
open Go.RowKit

section
variable {ss : Sg}
/-- The program finds what the reference's solver finds. -/
theorem com_same {sh : Int} {za zb zc : List Int} (hsh : 0 ≤ sh ∧ sh ≤ 1000) (hc : ∀ τ, apV τ zc = apV (sft τ sh) zb) (ha : valOk ss za = true) (hb : valOk ss zb = true) (ga : GoodS ss za) (gc : GoodS ss zc) :
    ∃ m bo T' s r, solF ss m za zc noTo = some (bo, T') ∧ hasZ ss sh za zb = bo ∧ (bo = true → WholeIs T' za s r) ∧ comZ ss sh za zb = if bo = true then formZ (decide (s ≤ 60)) r else ([], 8) := by
  obtain ⟨m, bo, T', ρ', hsol, hT, hl, hA, hyes, hno⟩ := sol_top ga gc
  have hns := sigOk_len (valOk_sig ha)
  have heqs : ∀ τ, (apV (sft τ 0) za = apV (sft τ sh) zb ↔ apV τ za = apV τ zc) := fun τ => by rw [hc, apV_sft0]
  rcases com_is hsh ha hb with ⟨h1, h2, h3⟩ | ⟨h1, U, σ, s1, s2, s3, s4, s5, s6, s7⟩
  · cases bo with
    | true =>
      have hg := im_good hA hl hT
      exact absurd ((heqs _).2 ((hyes rfl _ hg).1 (im_resp hA hl))) (h3 _ hg)
    | false => exact ⟨m, false, T', 0, [], hsol, h1, fun h => (by cases h), by rw [h2]; simp⟩
  · cases bo with
    | false => exact absurd ((heqs σ).1 (s2.trans s3.symm)) (hno rfl σ s1)
    | true =>
      refine ⟨m, true, T', _, _, hsol, h1, fun _ => whole_is hA hl hT (by omega) ga, ?_⟩
      rw [if_pos rfl, s4]
      have hg := im_good hA hl hT
      have hU : apV (imT T') U = whT T' za := by
        rw [s7 _ hg ((heqs _).2 ((hyes rfl _ hg).1 (im_resp hA hl))), apV_sft0, whT_apV hA hl]
      have hV : apV σ (whT T' za) = U := by
        rw [wh_resp hA hl ((hyes rfl σ s1).2 ((heqs σ).1 (s2.trans s3.symm))), ← s2, apV_sft0]
      have hal := alike_of s1 hg hU hV
      by_cases h60 : U.length ≤ 60
      · rw [decide_eq_true h60, decide_eq_true (by omega), form_alike hal]
      · rw [decide_eq_false h60, decide_eq_false (by omega)]
        unfold formZ
        rw [if_neg (fun h => by cases h.1), if_neg (fun h => by cases h.1)]
end

end Go.Proofs.Ytohhgghjpokdiaa

/- Canonical forms are their own: the plain mathematics. -/
namespace Go.Proofs.Ytohhgghjpokdiaa
open Go.RowKit

def iotaN (n : Nat) : List Int := (List.range n).map fun i => -((i : Nat) : Int) - 1
theorem iotaN_length (n : Nat) : (iotaN n).length = n := by simp [iotaN]
theorem iotaN_succ (n : Nat) : iotaN (n + 1) = iotaN n ++ [-(n : Int) - 1] := by simp [iotaN, List.range_succ]
theorem iotaN_mem {n : Nat} {y : Int} : y ∈ iotaN n ↔ ∃ i : Nat, i < n ∧ y = -(i : Int) - 1 := by
  unfold iotaN
  rw [List.mem_map]
  constructor
  · rintro ⟨i, hi, rfl⟩; exact ⟨i, by simpa using hi, rfl⟩
  · rintro ⟨i, hi, rfl⟩; exact ⟨i, by simpa using hi, rfl⟩
theorem iotaN_nodup : ∀ n, (iotaN n).Nodup
  | 0 => by simp [iotaN]
  | n + 1 => by
    rw [iotaN_succ, List.nodup_append]
    refine ⟨iotaN_nodup n, by simp, fun a ha b hb => ?_⟩
    simp only [List.mem_singleton] at hb
    obtain ⟨i, hi, rfl⟩ := iotaN_mem.1 ha
    omega
theorem iotaN_idx {n i : Nat} (h : i < n) : (iotaN n).idxOf (-(i : Int) - 1) = i := by
  have hl : i < (iotaN n).length := by rw [iotaN_length]; exact h
  have e : (iotaN n)[i] = -(i : Int) - 1 := by simp [iotaN]
  rw [← e]
  exact (iotaN_nodup n).idxOf_getElem i hl
theorem canonL_again : ∀ (zs seen : List Int), canonL (iotaN seen.length) (canonL seen zs) = canonL seen zs
  | [], _ => rfl
  | z :: r, seen => by
    simp only [canonL]
    by_cases h0 : 0 ≤ z
    · have e1 : ren1 seen z = z := by simp [ren1, h0]
      have e2 : addSeen seen z = seen := by simp [addSeen, h0]
      rw [e1, e2]
      have e3 : ren1 (iotaN seen.length) z = z := by simp [ren1, h0]
      have e4 : addSeen (iotaN seen.length) z = iotaN seen.length := by simp [addSeen, h0]
      rw [e3, e4, canonL_again r seen]
    · by_cases hc : z ∈ seen
      · have e2 : addSeen seen z = seen := by simp [addSeen, h0, hc]
        have hi : seen.idxOf z < seen.length := List.idxOf_lt_length_of_mem hc
        have e1 : ren1 seen z = -((seen.idxOf z : Nat) : Int) - 1 := by unfold ren1 cnum; rw [if_neg h0, e2]
        rw [e1, e2]
        have hy : ¬ (0 : Int) ≤ -((seen.idxOf z : Nat) : Int) - 1 := by omega
        have hm : (-((seen.idxOf z : Nat) : Int) - 1) ∈ iotaN seen.length := iotaN_mem.2 ⟨_, hi, rfl⟩
        have e4 : addSeen (iotaN seen.length) (-((seen.idxOf z : Nat) : Int) - 1) = iotaN seen.length := by
          unfold addSeen
          rw [if_neg hy, if_pos (List.contains_iff_mem.2 hm)]
        have e3 : ren1 (iotaN seen.length) (-((seen.idxOf z : Nat) : Int) - 1) = -((seen.idxOf z : Nat) : Int) - 1 := by
          unfold ren1 cnum
          rw [if_neg hy, e4, iotaN_idx hi]
        rw [e3, e4, canonL_again r seen]
      · have e2 : addSeen seen z = seen ++ [z] := by simp [addSeen, h0, hc]
        have e1 : ren1 seen z = -(seen.length : Int) - 1 := by
          unfold ren1 cnum
          rw [if_neg h0, e2, List.idxOf_append, if_neg hc]
          simp
        rw [e1, e2]
        have hy : ¬ (0 : Int) ≤ -(seen.length : Int) - 1 := by omega
        have hm : (-(seen.length : Int) - 1) ∉ iotaN seen.length := fun h => by
          obtain ⟨i, hi, e⟩ := iotaN_mem.1 h
          omega
        have e4 : addSeen (iotaN seen.length) (-(seen.length : Int) - 1) = iotaN (seen ++ [z]).length := by
          unfold addSeen
          rw [if_neg hy, if_neg (fun h => hm (List.contains_iff_mem.1 h)), List.length_append, List.length_singleton, iotaN_succ]
        have e3 : ren1 (iotaN seen.length) (-(seen.length : Int) - 1) = -(seen.length : Int) - 1 := by
          unfold ren1 cnum
          rw [if_neg hy, e4, List.length_append, List.length_singleton, iotaN_idx (by omega)]
        rw [e3, e4, canonL_again r (seen ++ [z])]
theorem canon_canon (zs : List Int) : canon (canon zs) = canon zs := canonL_again zs []

end Go.Proofs.Ytohhgghjpokdiaa

/- Meets: the plain mathematics. -/
namespace Go.Proofs.Ytohhgghjpokdiaa
open Go.RowKit

section
variable {ss : Sg} {za zb : List Int} {σ : Int → List Int}
theorem canon_valid {U : List Int} (hsg : sigOk ss = true) (hs : scan ss 1 U = some []) (hh : HeadsOk ss U) (h60 : U.length ≤ 60) (h12 : (seenTo U U.length).length ≤ 12) : valOk ss (canon U) = true := by
  have hsc := canon_scan hs
  simp only [valOk, termOk, Bool.and_eq_true, decide_eq_true_eq, List.all_eq_true, numOk]
  refine ⟨hsg, scan_len hsc, by rw [canon_length]; omega, fun z hz => ?_, hsc⟩
  rw [canon_map] at hz
  obtain ⟨y, hy, rfl⟩ := List.mem_map.1 hz
  by_cases hn : y < 0
  · rw [if_pos hn]
    have h1 := List.idxOf_lt_length_of_mem (seen_all hy hn)
    have h2 := (sigOk_len hsg).1
    unfold cnum
    omega
  · rw [if_neg hn]
    have := hh y hy
    omega
/-- The canonical form is what a renaming makes. -/
theorem canon_apV (U : List Int) : canon U = apV (fun z => [cnum (seenTo U U.length) z]) U := by
  rw [canon_map]
  refine (apV_map fun z _ => ?_).symm
  by_cases hn : z < 0
  · rw [if_pos hn, if_pos hn]
  · rw [if_neg hn, if_neg hn]
theorem goodV_comp {τ : Int → List Int} (hσ : GoodV ss σ) (hτ : GoodV ss τ) : GoodV ss (fun z => apV τ (σ z)) := fun z hz => scan_apV hτ _ 1 [] (hσ z hz)
theorem ins_apV {sh : Int} {c : List Int} (h0 : 0 ≤ sh) (ha : valOk ss za = true) (hc : valOk ss c = true) (hσ : GoodV ss σ) (h : apV (sft σ sh) za = c) : insB ss za c = true := by
  refine ins_in (σ := fun v => sft σ sh (-(v : Int) - 1)) ha hc (fun v _ => hσ _ (by omega)) ?_
  rw [← h]
  unfold apN apV
  refine flat_same fun z _ => ?_
  by_cases hn : z < 0
  · rw [if_pos hn, if_pos hn]
    show sft σ sh (-(((-z - 1).toNat : Nat) : Int) - 1) = sft σ sh z
    rw [show -(((-z - 1).toNat : Nat) : Int) - 1 = z by omega]
  · rw [if_neg hn, if_neg hn]
theorem ins_canonV {sh : Int} {U : List Int} (h0 : 0 ≤ sh) (ha : valOk ss za = true) (hc : valOk ss (canon U) = true) (hσ : GoodV ss σ) (h : apV (sft σ sh) za = U) : insB ss za (canon U) = true := by
  refine ins_apV (σ := fun z => apV (fun z => [cnum (seenTo U U.length) z]) (σ z)) h0 ha hc (goodV_comp hσ fun z _ => scan_neg (cnum_neg _ _)) ?_
  rw [canon_apV, ← h, apV_flat]
  rfl
/-- The variables of both terms exchanged. -/
def swpV (σ : Int → List Int) (z : Int) : List Int := if -12 ≤ z then σ (z - 12) else σ (z + 12)
theorem swp_good (h : GoodV ss σ) : GoodV ss (swpV σ) := fun z hz => by
  unfold swpV
  split
  · exact h _ (by omega)
  · exact h _ (by omega)
theorem swp_one (h : ∀ z ∈ zb, -12 ≤ z) : apV (sft (swpV σ) 0) zb = apV (sft σ 12) zb := by
  unfold apV
  refine flat_same fun z hz => ?_
  have := h z hz
  unfold sft swpV
  rw [Int.sub_zero, if_pos (show -12 ≤ z from this)]
theorem swp_two (h : ∀ z ∈ za, -12 ≤ z) : apV (sft (swpV σ) 12) za = apV (sft σ 0) za := by
  unfold apV
  refine flat_same fun z hz => ?_
  by_cases hn : z < 0
  · rw [if_pos hn, if_pos hn]
    unfold sft swpV
    rw [Int.sub_zero, if_neg (by omega), show z - 12 + 12 = z by omega]
  · rw [if_neg hn, if_neg hn]
theorem meet_swap (ha : valOk ss za = true) (hb : valOk ss zb = true) : comZ ss 12 zb za = comZ ss 12 za zb ∧ hasZ ss 12 zb za = hasZ ss 12 za zb := by
  have a12 : ∀ z ∈ za, -12 ≤ z := fun z hz => ((valOk_term ha).2.2.1 z hz).1
  have b12 : ∀ z ∈ zb, -12 ≤ z := fun z hz => ((valOk_term hb).2.2.1 z hz).1
  rcases com_is (sh := 12) (by omega) ha hb with ⟨h1, h2, h3⟩ | ⟨h1, U, σ, s1, s2, s3, s4, s5, s6, s7⟩
  · rcases com_is (sh := 12) (by omega) hb ha with ⟨k1, k2, _⟩ | ⟨_, V, τ, t1, t2, t3, _⟩
    · rw [h1, h2, k1, k2]; exact ⟨rfl, rfl⟩
    · refine absurd ?_ (h3 _ (swp_good t1))
      rw [swp_one a12, swp_two b12, t3, t2]
  · rcases com_is (sh := 12) (by omega) hb ha with ⟨_, _, k3⟩ | ⟨k1, V, τ, t1, t2, t3, t4, t5, t6, t7⟩
    · refine absurd ?_ (k3 _ (swp_good s1))
      rw [swp_one b12, swp_two a12, s3, s2]
    · have e1 := s7 _ (swp_good t1) (by rw [swp_one a12, swp_two b12, t3, t2])
      rw [swp_one a12, t3] at e1
      have e2 := t7 _ (swp_good s1) (by rw [swp_one b12, swp_two a12, s3, s2])
      rw [swp_one b12, s3] at e2
      have hal := alike_of (swp_good s1) (swp_good t1) e1 e2
      refine ⟨?_, by rw [h1, k1]⟩
      rw [s4, t4, hal.1]
      by_cases h60 : U.length ≤ 60
      · rw [decide_eq_true h60, form_alike hal]
      · rw [decide_eq_false h60]
        unfold formZ
        rw [if_neg (fun h => by cases h.1), if_neg (fun h => by cases h.1)]
/-- Where there is a meet, it is valid, and an instance of both. -/
theorem com_ok {sh : Int} (hsh : 0 ≤ sh ∧ sh ≤ 1000) (ha : valOk ss za = true) (hb : valOk ss zb = true) (h0 : (comZ ss sh za zb).2 = 0) : ∃ U σ, GoodV ss σ ∧ apV (sft σ 0) za = U ∧ apV (sft σ sh) zb = U ∧ (comZ ss sh za zb).1 = canon U ∧ valOk ss (canon U) = true ∧
    ∀ τ, GoodV ss τ → apV (sft τ 0) za = apV (sft τ sh) zb → apV τ U = apV (sft τ 0) za := by
  rcases com_is hsh ha hb with ⟨_, h2, _⟩ | ⟨_, U, σ, s1, s2, s3, s4, s5, s6, s7⟩
  · rw [h2] at h0; cases h0
  · rw [s4] at h0
    unfold formZ at h0
    split at h0
    · rename_i hc
      refine ⟨U, σ, s1, s2, s3, ?_, canon_valid (valOk_sig ha) s5 s6 (of_decide_eq_true hc.1) hc.2, s7⟩
      rw [s4]
      unfold formZ
      rw [if_pos hc]
    · cases h0
theorem meet_ins (ha : valOk ss za = true) (hb : valOk ss zb = true) (h0 : (comZ ss 12 za zb).2 = 0) : valOk ss (comZ ss 12 za zb).1 = true ∧ insB ss za (comZ ss 12 za zb).1 = true ∧ insB ss zb (comZ ss 12 za zb).1 = true := by
  obtain ⟨U, σ, s1, s2, s3, s4, s5, _⟩ := com_ok (by omega) ha hb h0
  rw [s4]
  exact ⟨s5, ins_canonV (by omega) ha s5 s1 s2, ins_canonV (by omega) hb s5 s1 s3⟩
theorem sft_good {sh : Int} (h0 : 0 ≤ sh) (h : GoodV ss σ) : GoodV ss (sft σ sh) := fun z hz => h _ (by omega)
/-- What is an instance is alike the meet. -/
theorem meet_inst (h : insB ss za zb = true) : (comZ ss 12 za zb).2 = 0 ∧ (comZ ss 12 za zb).1 = canon zb := by
  obtain ⟨ha, hb⟩ := ins_valid h
  obtain ⟨τ, t1, t2, t3⟩ := ins_apart h (by rw [ins_refl]; exact hb)
  rcases com_is (sh := 12) (by omega) ha hb with ⟨_, _, h3⟩ | ⟨_, U, σ, s1, s2, s3, s4, s5, s6, s7⟩
  · exact absurd (t2.trans t3.symm) (h3 τ t1)
  · have e := s7 τ t1 (t2.trans t3.symm)
    rw [t2] at e
    have hal := alike_of (sft_good (sh := 12) (by omega) s1) t1 e s3
    have h60 := (valOk_term hb).2.1
    have h12 := seen_few fun z hz => ((valOk_term hb).2.2.1 z hz).1
    rw [s4, decide_eq_true (by omega), form_alike hal]
    unfold formZ
    rw [if_pos ⟨rfl, h12⟩]
    exact ⟨rfl, rfl⟩
theorem meet_not (h0 : (comZ ss 12 za zb).2 ≠ 0) : insB ss za zb = false := by
  cases h : insB ss za zb with
  | false => rfl
  | true => exact absurd (meet_inst h).1 h0
theorem termOk_of (h : valOk ss zb = true) : termOk ss zb = true := by
  simp only [valOk, Bool.and_eq_true] at h
  exact h.2
theorem meet_alike (ha : valOk ss za = true) (hb : valOk ss zb = true) (h0 : (comZ ss 12 za zb).2 = 0) : insB ss za zb = alikeOk ss (comZ ss 12 za zb).1 zb := by
  obtain ⟨v, i1, _⟩ := meet_ins ha hb h0
  cases h : insB ss za zb with
  | true =>
    have e := (meet_inst h).2
    rw [e] at v ⊢
    simp [alikeOk, v, termOk_of hb, canon_canon]
  | false =>
    cases h2 : alikeOk ss (comZ ss 12 za zb).1 zb with
    | false => rfl
    | true =>
      simp only [alikeOk, Bool.and_eq_true, decide_eq_true_eq] at h2
      have := ins_trans i1 (canon_ins v hb h2.2.2)
      rw [h] at this
      cases this
end

end Go.Proofs.Ytohhgghjpokdiaa

/- What Unify's binds are: the plain mathematics. -/
namespace Go.Proofs.Ytohhgghjpokdiaa
open Go.RowKit

/-- Binds of what a function tells of the variables below k, but none that leaves its variable as it is. -/
def filtB (f : Nat → List Int) (k : Nat) : List Bd := (List.range k).filterMap fun v : Nat => if f v = [-(v : Int) - 1] then none else some ((v : Int), f v)
theorem filtB_succ (f : Nat → List Int) (k : Nat) : filtB f (k + 1) = filtB f k ++ if f k = [-(k : Int) - 1] then [] else [((k : Int), f k)] := by
  unfold filtB
  rw [List.range_succ, List.filterMap_append]
  congr 1
  by_cases h : f k = [-(k : Int) - 1]
  · simp [h]
  · simp [h]
theorem filtB_le (f : Nat → List Int) (k : Nat) : (filtB f k).length ≤ k := by
  unfold filtB
  have := List.length_filterMap_le (fun v : Nat => if f v = [-(v : Int) - 1] then none else some ((v : Int), f v)) (List.range k)
  rwa [List.length_range] at this
theorem mem_filtB {f : Nat → List Int} {k : Nat} {x : Bd} : x ∈ filtB f k ↔ ∃ v : Nat, v < k ∧ f v ≠ [-(v : Int) - 1] ∧ x = ((v : Int), f v) := by
  unfold filtB
  rw [List.mem_filterMap]
  constructor
  · rintro ⟨v, hv, e⟩
    rw [List.mem_range] at hv
    by_cases h : f v = [-(v : Int) - 1]
    · rw [if_pos h] at e; cases e
    · rw [if_neg h] at e; cases e; exact ⟨v, hv, h, rfl⟩
  · rintro ⟨v, hv, h, rfl⟩
    exact ⟨v, List.mem_range.2 hv, by rw [if_neg h]⟩
theorem filtB_pairwise (f : Nat → List Int) (k : Nat) : (filtB f k).Pairwise (fun x y => x.1 < y.1) := by
  induction k with
  | zero => simp [filtB]
  | succ k ih =>
    rw [filtB_succ, List.pairwise_append]
    refine ⟨ih, ?_, fun x hx y hy => ?_⟩
    · split <;> simp
    · obtain ⟨v, hv, _, rfl⟩ := mem_filtB.1 hx
      split at hy
      · simp at hy
      · obtain rfl := List.mem_singleton.1 hy
        simpa using hv
theorem ofB_filt (f : Nat → List Int) {v : Nat} (h1 : v < 12) : ofB (filtB f 12) (v : Int) = f v := by
  by_cases h : f v = [-(v : Int) - 1]
  · rw [h]
    refine ofB_none fun x hx e => ?_
    obtain ⟨u, hu, hh, rfl⟩ := mem_filtB.1 hx
    obtain rfl : u = v := by
      have e' : (u : Int) = (v : Int) := e
      omega
    exact hh h
  · exact ofB_mem (filtB_pairwise f 12) (mem_filtB.2 ⟨v, h1, h, rfl⟩)
/-- Too long, among the variables below k. -/
def LongF (f : Nat → List Int) (k : Nat) : Prop := ∃ v : Nat, v < k ∧ 60 < (f v).length
theorem LongF.zero {f : Nat → List Int} : ¬ LongF f 0 := fun ⟨v, hv, _⟩ => by omega
theorem LongF.not_succ {f : Nat → List Int} {k : Nat} (h : ¬ LongF f k) (h2 : ¬ 60 < (f k).length) : ¬ LongF f (k + 1) := by
  rintro ⟨v, hv, hl⟩
  by_cases e : v = k
  · subst e; exact h2 hl
  · exact h ⟨v, by omega, hl⟩
theorem LongF.more {f : Nat → List Int} {k n : Nat} (hk : k < n) (h : 60 < (f k).length) : LongF f n := ⟨k, hk, h⟩

section
variable {ss : Sg} {G : Fd} {R k : Nat} {za zb : List Int}
/-- What becomes of a variable. -/
noncomputable def imU (G : Fd) (R : Nat) (v : Nat) : List Int := sgG G R (-(v : Int) - 1)
/-- The tops are numbers of both terms. -/
def TopsOf (G : Fd) (za zb : List Int) : Prop := ∀ z ∈ G.tops, z ∈ za ∨ z ∈ zb
theorem tops_of {sh : Int} (h0 : sh = 0) {b : Bool} (ha : valOk ss za = true) (hb : valOk ss zb = true) (hu : uniteF ss sh 10000 za zb Fd.none = some (k, b, G)) : TopsOf G za zb := by
  subst h0
  have hG : G.tops = (addT ss 0 zb (addT ss 0 za Fd.none).2.2).2.2.tops := by
    unfold uniteF at hu
    cases hs : solveF 10000 [((addT ss 0 za Fd.none).1, (addT ss 0 zb (addT ss 0 za Fd.none).2.2).1)] (addT ss 0 zb (addT ss 0 za Fd.none).2.2).2.2 with
    | none => rw [hs] at hu; cases hu
    | some q =>
      obtain ⟨bq, G1⟩ := q
      have ht := solve_tops _ _ _ _ _ hs
      rw [hs] at hu
      cases bq with
      | false =>
        simp only [Option.some.injEq, Prod.mk.injEq] at hu
        rw [← hu.2.2]
        exact ht
      | true =>
        simp only at hu
        cases he : endlessF G1 10000 (addT ss 0 za Fd.none).1 with
        | none => rw [he] at hu; cases hu
        | some en =>
          rw [he] at hu
          simp only [Option.some.injEq, Prod.mk.injEq] at hu
          rw [← hu.2.2]
          exact ht
  unfold TopsOf
  rw [hG]
  unfold addT
  refine (addF_mem (Q := fun z => z ∈ za ∨ z ∈ zb) _ zb _ (fun z hz => ?_) (addF_mem (Q := fun z => z ∈ za ∨ z ∈ zb) _ za _ (fun z hz => ?_) (fun z hz => by simp [Fd.none] at hz)).2).2
  · rw [Int.sub_zero]; exact ⟨.inr hz, .inr hz⟩
  · rw [Int.sub_zero]; exact ⟨.inl hz, .inl hz⟩
theorem nu_tops (hal : G.args.length = G.tops.length) (hR : RootsIn R G.prox) : ∀ n k, FinD G R n k → ∀ z ∈ nuF G R k, ∃ r, rootS G.prox R r = some r ∧ G.tops[r]? = some z := by
  intro n
  induction n with
  | zero => intro k h; exact h.elim
  | succ n ih =>
    intro k h z hz
    obtain ⟨r, us, h1, h2, h3⟩ := id h
    have hr : r < G.tops.length := by rw [← hal]; exact (List.getElem?_eq_some_iff.1 h2).1
    rw [(nu_node ⟨_, h⟩ h1 h2 (List.getElem?_eq_getElem hr)).1] at hz
    rcases List.mem_cons.1 hz with rfl | hz
    · exact ⟨r, root_self hR h1, List.getElem?_eq_getElem hr⟩
    · obtain ⟨u, hu, hz⟩ := List.mem_flatMap.1 hz
      exact ih u (h3 u hu) z hz
variable (u : UniIs ss 0 za zb k G R) (ht : TopsOf G za zb) (ha : valOk ss za = true) (hb : valOk ss zb = true)
include u ht
theorem var_fin {z : Int} {j : Nat} (hz : z < 0) (h : vget G.vars z = some j) : ∃ n, FinD G R n j := by
  have h1 := (u.vt z j h).1
  rcases ht z (List.mem_of_getElem? h1) with hm | hm
  · obtain ⟨j', e, hf⟩ := u.ina z hm hz
    rw [h] at e
    cases e
    exact hf
  · obtain ⟨j', e, hf⟩ := u.inb z hm hz
    rw [Int.sub_zero, h] at e
    cases e
    exact hf
theorem im_node {v : Nat} (h : imU G R v ≠ [-(v : Int) - 1]) : ∃ j, vget G.vars (-(v : Int) - 1) = some j ∧ imU G R v = nuF G R j ∧ ∃ n, FinD G R n j := by
  unfold imU sgG at h ⊢
  cases e : vget G.vars (-(v : Int) - 1) with
  | none => rw [e] at h; exact absurd rfl h
  | some j => exact ⟨j, rfl, rfl, var_fin u ht (by omega) e⟩
/-- What becomes of a variable has numbers of both terms alone; its variables stay. -/
theorem im_nums {v : Nat} (h : imU G R v ≠ [-(v : Int) - 1]) : ∀ z ∈ imU G R v, (z ∈ za ∨ z ∈ zb) ∧ (z < 0 → ∀ x : Nat, z = -(x : Int) - 1 → imU G R x = [-(x : Int) - 1]) := by
  obtain ⟨j, e1, e2, n, hn⟩ := im_node u ht h
  rw [e2]
  intro z hz
  obtain ⟨r, hr, hzr⟩ := nu_tops u.al u.rts n j hn z hz
  refine ⟨ht z (List.mem_of_getElem? hzr), fun hz0 x hx => ?_⟩
  obtain ⟨t1, t2⟩ := u.tv r z hzr hz0
  unfold imU sgG
  rw [← hx, t1]
  have := (nu_node (var_fin u ht hz0 t1) hr t2 hzr).1
  simpa using this
theorem im_own {v : Nat} (h : imU G R v ≠ [-(v : Int) - 1]) : (-(v : Int) - 1) ∈ za ∨ (-(v : Int) - 1) ∈ zb := by
  obtain ⟨j, e1, _⟩ := im_node u ht h
  exact ht _ (List.mem_of_getElem? (u.vt _ j e1).1)
omit ht in
theorem im_scan (v : Nat) : scan ss 1 (imU G R v) = some [] := u.good _ (by omega)
omit u ht in
theorem appl_filt {t : List Int} (h : ∀ z ∈ t, -12 ≤ z) : appl (filtB (imU G R) 12) t = apV (sgG G R) t := by
  unfold appl apV
  refine flat_same fun z hz => ?_
  have := h z hz
  by_cases hn : z < 0
  · rw [if_pos hn, if_pos hn, show -z - 1 = (((-z - 1).toNat : Nat) : Int) by omega, ofB_filt _ (by omega)]
    unfold imU
    rw [show -(((-z - 1).toNat : Nat) : Int) - 1 = z by omega]
  · rw [if_neg hn, if_neg hn]
include ha hb
theorem im_val {v : Nat} (hv : v < 12) (h60 : ¬ 60 < (imU G R v).length) (h : imU G R v ≠ [-(v : Int) - 1]) : valOk ss (imU G R v) = true := by
  have hs := im_scan u v
  have hn := im_nums u ht h
  simp only [valOk, termOk, Bool.and_eq_true, decide_eq_true_eq, List.all_eq_true, numOk]
  refine ⟨valOk_sig ha, scan_len hs, by omega, fun z hz => ?_, hs⟩
  rcases (hn z hz).1 with h | h
  · exact (valOk_term ha).2.2.1 z h
  · exact (valOk_term hb).2.2.1 z h
theorem uni_binds (hl : ¬ LongF (imU G R) 12) : bindsOk ss (filtB (imU G R) 12) = true := by
  refine bindsTo_of (valOk_sig ha) _ _ (fun x hx => ?_) (filtB_pairwise _ _)
  obtain ⟨v, hv, h, rfl⟩ := mem_filtB.1 hx
  exact ⟨by show (-1 : Int) < (v : Int); omega, by show (v : Int) < 12; omega, im_val u ht ha hb hv (fun h60 => hl ⟨v, hv, h60⟩) h, h⟩
theorem uni_unifies (hl : ¬ LongF (imU G R) 12) : unifB ss (filtB (imU G R) 12) za zb = true := by
  unfold unifB
  rw [ha, hb, uni_binds u ht ha hb hl, appl_filt fun z hz => ((valOk_term ha).2.2.1 z hz).1, appl_filt fun z hz => ((valOk_term hb).2.2.1 z hz).1]
  have h1 := u.one
  have h2 := u.two
  rw [apV_sft0] at h1 h2
  rw [h1, h2]
  simp
theorem uni_solved (hl : ¬ LongF (imU G R) 12) : solvedB ss (filtB (imU G R) 12) = true := by
  unfold solvedB
  rw [uni_binds u ht ha hb hl, Bool.true_and, List.all_eq_true]
  intro x hx
  rw [List.all_eq_true]
  intro y hy
  obtain ⟨v, hv, h1, rfl⟩ := mem_filtB.1 hx
  obtain ⟨w, hw, h2, rfl⟩ := mem_filtB.1 hy
  have hn := im_nums u ht h2
  have : ¬ (-(v : Int) - 1) ∈ imU G R w := fun hm => h1 ((hn _ hm).2 (by omega) v rfl)
  simpa using this
theorem uni_applied (h0 : (applZ ss (filtB (imU G R) 12) za).2 = 0) (hl : ¬ LongF (imU G R) 12) (hu : uniteF ss 0 10000 za zb Fd.none = some (k, true, G)) : (comZ ss 0 za zb).2 = 0 ∧ alikeOk ss (applZ ss (filtB (imU G R) 12) za).1 (comZ ss 0 za zb).1 = true := by
  obtain ⟨g1, g2⟩ := (unif_general (uni_unifies u ht ha hb hl)).2 h0
  refine ⟨g1, ?_⟩
  obtain ⟨U, σ, s1, s2, s3, s4, s5, s6⟩ := com_ok (sh := 0) (by omega) ha hb g1
  have hgd := u.good
  have ho := u.one
  have htw := u.two
  have e1 := s6 _ hgd (ho.trans htw.symm)
  rw [apV_sft0] at ho e1 htw
  rw [apV_sft0] at s2 s3
  -- what the binds make is what is found
  have happ : (applZ ss (filtB (imU G R) 12) za).1 = apV (sgG G R) za := by
    rw [← appl_filt fun z hz => ((valOk_term ha).2.2.1 z hz).1]
    unfold applZ at h0 ⊢
    by_cases hv : (bindsOk ss (filtB (imU G R) 12) && valOk ss za) = true
    · rw [if_pos hv] at h0 ⊢
      by_cases h60 : (appl (filtB (imU G R) 12) za).length ≤ 60
      · rw [if_pos h60]
      · rw [if_neg h60] at h0; cases h0
    · rw [if_neg hv] at h0; cases h0
  have hvA : valOk ss (applZ ss (filtB (imU G R) 12) za).1 = true := (ins_valid g2).2
  obtain ⟨_, ν, v1, v2, v3, v4⟩ := unite_val (σ := σ) (by omega) ha hb s1 (by rw [apV_sft0, apV_sft0, s2, s3]) hu
  obtain ⟨n, hn⟩ := u.fin
  have e2 : apV σ (apV (sgG G R) za) = U := by
    rw [ho, nu_gen v1 u.al (fun j x hj hx => v4 j x hj hx) n k hn, v3, apV_sft0, s2]
  have hal := alike_of s1 hgd e1 e2
  rw [happ] at hvA ⊢
  rw [s4]
  unfold alikeOk
  rw [hvA, termOk_of s5, canon_canon, hal.2.1]
  simp
end
end Go.Proofs.Ytohhgghjpokdiaa

/- Unify's limit in the program and in the reference: the plain mathematics. -/
namespace Go.Proofs.Ytohhgghjpokdiaa
open Go.RowKit

theorem good_val' {ss : Sg} {z : List Int} (h : valOk ss z = true) : GoodS ss z := by
  obtain ⟨h1, h2, h3, h4⟩ := valOk_term h
  exact ⟨h4, fun x hx => (h3 x hx).2, fun x hx => by have := (h3 x hx).1; omega, h2⟩
section
variable {ss : Sg} {G : Fd} {R k : Nat} {za zb : List Int} {T : List (List Int)} {ρ : Nat → Nat}
theorem im_len (u : UniIs ss 0 za zb k G R) (ht : TopsOf G za zb) (ha : valOk ss za = true) (hb : valOk ss zb = true) (hu : uniteF ss 0 10000 za zb Fd.none = some (k, true, G)) (hT : TGood ss T) (hl : T.length = 24) (hA : Acy T ρ) (hyes : ∀ σ, GoodV ss σ → (Resp σ T ↔ apV σ za = apV σ zb)) (v : Nat) :
    (imU G R v).length = (imT T (-(v : Int) - 1)).length := by
  have hg := im_good hA hl hT
  have heq := (hyes _ hg).1 (im_resp hA hl)
  have h1 := u.one
  have h2 := u.two
  rw [apV_sft0] at h1 h2
  have hRs := (hyes _ u.good).2 (h1.trans h2.symm)
  have e1 : apV (sgG G R) (imT T (-(v : Int) - 1)) = imU G R v := by
    have := wh_resp hA hl hRs [-(v : Int) - 1]
    rw [wh_cons hA hl, wh_nil hA hl, List.append_nil, if_pos (by omega), apV_one, if_pos (by omega)] at this
    exact this
  have l1 := apV_len (ρ := sgG G R) (u := imT T (-(v : Int) - 1)) fun z _ hn => scan_len (u.good z hn)
  rw [e1] at l1
  have l2 : (imU G R v).length ≤ (imT T (-(v : Int) - 1)).length := by
    by_cases h : imU G R v = [-(v : Int) - 1]
    · rw [h]
      exact scan_len (hg _ (by omega))
    · obtain ⟨j, f1, f2, n, hn⟩ := im_node u ht h
      obtain ⟨_, ν, v1, v2, v3, v4⟩ := unite_val (by omega) ha hb hg (by rw [apV_sft0, apV_sft0]; exact heq) hu
      have e2 := nu_gen v1 u.al (fun j x hj hx => v4 j x hj hx) n j hn
      rw [← v4 j _ (u.vt _ j f1).1 (by omega)] at e2
      have l3 := apV_len (ρ := imT T) (u := nuF G R j) fun z _ hn => scan_len (hg z hn)
      rw [e2] at l3
      rw [f2]
      exact l3
  omega
theorem ref_long (u : UniIs ss 0 za zb k G R) (ht : TopsOf G za zb) (ha : valOk ss za = true) (hb : valOk ss zb = true) (hu : uniteF ss 0 10000 za zb Fd.none = some (k, true, G)) (hT : TGood ss T) (hl : T.length = 24) (hA : Acy T ρ) (hyes : ∀ σ, GoodV ss σ → (Resp σ T ↔ apV σ za = apV σ zb)) :
    LongF (imU G R) 12 ↔ ∃ v : Nat, v < 12 ∧ T.getD v [] ≠ [] ∧ 60 < (whT T (T.getD v [])).length := by
  constructor
  · rintro ⟨v, hv, h⟩
    rw [im_len u ht ha hb hu hT hl hA hyes] at h
    have hback : (-(-(v : Int) - 1) - 1).toNat = v := by omega
    by_cases hbv : T.getD v [] = []
    · rw [im_free (by rw [hback]; exact hbv)] at h
      simp at h
    · rw [im_bound (by rw [hback]; exact hbv), hback] at h
      exact ⟨v, hv, hbv, h⟩
  · rintro ⟨v, hv, hbv, h⟩
    have hback : (-(-(v : Int) - 1) - 1).toNat = v := by omega
    refine ⟨v, hv, ?_⟩
    rw [im_len u ht ha hb hu hT hl hA hyes, im_bound (by rw [hback]; exact hbv), hback]
    exact h
/-- What the program and the reference find of two terms with the same variables. -/
theorem uni_cases (ha : valOk ss za = true) (hb : valOk ss zb = true) : ∃ m bo T' ρ' k G, solF ss m za zb noTo = some (bo, T') ∧ TGood ss T' ∧ T'.length = 24 ∧ Acy T' ρ' ∧ uniteF ss 0 10000 za zb Fd.none = some (k, bo, G) ∧ G.Ok ∧
    (bo = true → ∃ R, UniIs ss 0 za zb k G R ∧ TopsOf G za zb ∧ (LongF (imU G R) 12 ↔ ∃ v : Nat, v < 12 ∧ T'.getD v [] ≠ [] ∧ 60 < (whT T' (T'.getD v [])).length)) := by
  obtain ⟨m, bo, T', ρ', hsol, hT, hl, hA, hyes, hno⟩ := sol_top (good_val' ha) (good_val' hb)
  obtain ⟨⟨k, b, G, hu, hGok⟩, har, _⟩ := common_some (sh := 0) (by omega) ha hb
  have hbb : b = bo := by
    cases bo with
    | true =>
      have hg := im_good hA hl hT
      have heq := (hyes rfl _ hg).1 (im_resp hA hl)
      exact (unite_val (by omega) ha hb hg (by rw [apV_sft0, apV_sft0]; exact heq) hu).1
    | false =>
      cases b with
      | false => rfl
      | true =>
        obtain ⟨R, _, _, _, _, σ, s1, s2, s3⟩ := unite_nu (by omega) ha hb hu
        rw [apV_sft0] at s2 s3
        exact absurd (s2.trans s3.symm) (hno rfl σ s1)
  subst hbb
  refine ⟨m, b, T', ρ', k, G, hsol, hT, hl, hA, hu, hGok, fun hbt => ?_⟩
  subst hbt
  obtain ⟨R, u⟩ := unite_all (by omega) ha hb hu
  have ht := tops_of rfl ha hb hu
  exact ⟨R, u, ht, ref_long u ht ha hb hu hT hl hA (hyes rfl)⟩
end
end Go.Proofs.Ytohhgghjpokdiaa

/- Contract: Unify. -/
namespace Go.Proofs.Ytohhgghjpokdiaa
open Go.RowKit

theorem LongF.not_succ' {f : Nat → List Int} {k : Nat} (h : ¬ LongF f k) (h2 : (f k).length ≤ 60) : ¬ LongF f (k + 1) := LongF.not_succ h (by omega)
set_option maxRecDepth 100000 in
set_option maxHeartbeats 1000000 in
theorem unify_bad (As Aa Ab : Option Addr) (ns cs na ca nb cb : Nat) (ss : Sg) (za zb : List Int) (w : World) (hs : SigAt w w.heap.size As ns ss) (ha : IntsAt w w.heap.size Aa na za) (hb : IntsAt w w.heap.size Ab nb zb) (hv : (valOk ss za && valOk ss zb) = false) :
    Calls Try.prog 38 #[.slice As ns cs, .slice Aa na ca, .slice Ab nb cb] w (RetB w [] 1) := by
  have C1 := Lib.hid (uvalid_two As Aa Ab ns cs na ca nb cb ss za zb w hs ha hb)
  rw [hv] at C1
  clear hs ha hb hv
  go_enter Try.func38, Try.ntmps38
  go_wp2_with (go_at_call 58; refine C1.out.mono ?_; rintro e w1 ⟨rfl, hB1⟩; have HB1 := Lib.hid hB1; clear hB1)
  go_ret2
  exact ⟨none, 0, 0, [], rfl, BindsAt.none _ _, HB1.out⟩

set_option maxRecDepth 100000 in
set_option maxHeartbeats 1000000 in
theorem unify_no (As Aa Ab : Option Addr) (ns cs na ca nb cb : Nat) (ss : Sg) (za zb : List Int) (k : Nat) (G : Fd) (w : World) (hs : SigAt w w.heap.size As ns ss) (ha : IntsAt w w.heap.size Aa na za) (hb : IntsAt w w.heap.size Ab nb zb) (hva : valOk ss za = true) (hvb : valOk ss zb = true) (hu : uniteF ss 0 10000 za zb Fd.none = some (k, false, G)) :
    Calls Try.prog 38 #[.slice As ns cs, .slice Aa na ca, .slice Ab nb cb] w (RetB w [] 8) := by
  have C1 := Lib.hid (uvalid_two As Aa Ab ns cs na ca nb cb ss za zb w hs ha hb)
  rw [show (valOk ss za && valOk ss zb) = true by simp [hva, hvb]] at C1
  obtain ⟨_, har, _⟩ := common_some (sh := 0) (by omega) hva hvb
  have CU : Hid (∀ W1 W2 : World, Below w.heap.size w W1 → FAt W2 (fun b => b < W1.heap.size) (W1.heap.size + 1) (.slice As ns cs) Fd.none → Below W1.heap.size W1 W2 →
      Calls Try.prog 78 #[.pointer (some ⟨W1.heap.size + 1, 0, none⟩), .slice Aa na ca, .slice Ab nb cb, .int .i64 0] W2 fun e w' => e = .returned (.tuple #[.int .i64 (k : Int), .bool false]) ∧ FAt w' (fun b => b < W1.heap.size) (W1.heap.size + 1) (.slice As ns cs) G ∧ KeepE (fun b => b < W1.heap.size) W2 w') :=
    Lib.hid fun W1 W2 h1 hA h2 => unite_any _ W1.heap.size _ na ca nb cb ns cs As Aa Ab 0 ss za zb Fd.none G 10000 k false W2 hva hvb (by omega) (fun b hb => hb) (fun b hb => Nat.lt_of_lt_of_le hb h2.size) ((hs.up h1).below h2) ((ha.up h1).below h2) ((hb.up h1).below h2) h2.size hA Fd.none_ok (by decide) (by omega) har hu
  clear hs ha hb hva hvb har hu
  go_enter Try.func38, Try.ntmps38
  go_wp2_with (first
    | (go_at_call 58; refine C1.out.mono ?_; rintro e w1 ⟨rfl, hB1⟩; have HB1 := Lib.hid hB1; clear hB1)
    | (go_at_call 77; refine (search_any As ns cs w1).mono ?_; rintro e w2 ⟨rfl, hA2, hB2⟩; have HA2 := Lib.hid hA2; have HB2 := Lib.hid hB2; clear hA2 hB2)
    | (go_at_call 78; refine (CU.out w1 w2 HB1.out HA2.out HB2.out).mono ?_; rintro e w3 ⟨rfl, hA3, hK3⟩; have HK3 := Lib.hid hK3; clear hA3 hK3))
  go_ret2
  exact ⟨none, 0, 0, [], rfl, BindsAt.none _ _, (HB1.out.trans (HB2.out.mono HB1.out.size)).trans (HK3.out.below (fun b hb => Nat.lt_of_lt_of_le hb HB1.out.size))⟩

set_option maxRecDepth 100000 in
set_option maxHeartbeats 4000000 in
theorem unify_yes (As Aa Ab : Option Addr) (ns cs na ca nb cb : Nat) (ss : Sg) (za zb : List Int) (k R : Nat) (G : Fd) (CZ : List Bd × Int) (w : World) (hs : SigAt w w.heap.size As ns ss) (ha : IntsAt w w.heap.size Aa na za) (hb : IntsAt w w.heap.size Ab nb zb) (hva : valOk ss za = true) (hvb : valOk ss zb = true) (hu : uniteF ss 0 10000 za zb Fd.none = some (k, true, G))
    (hGO : G.Ok) (hGn : G.tops.length ≤ 1000) (u : UniIs ss 0 za zb k G R) (ht : TopsOf G za zb) (hlong : LongF (imU G R) 12 → CZ = ([], 4)) (hfine : ¬ LongF (imU G R) 12 → CZ = (filtB (imU G R) 12, 0)) :
    Calls Try.prog 38 #[.slice As ns cs, .slice Aa na ca, .slice Ab nb cb] w (RetB w CZ.1 CZ.2) := by
  have C1 := Lib.hid (uvalid_two As Aa Ab ns cs na ca nb cb ss za zb w hs ha hb)
  rw [show (valOk ss za && valOk ss zb) = true by simp [hva, hvb]] at C1
  obtain ⟨_, har, _⟩ := common_some (sh := 0) (by omega) hva hvb
  have CU : Hid (∀ W1 W2 : World, Below w.heap.size w W1 → FAt W2 (fun b => b < W1.heap.size) (W1.heap.size + 1) (.slice As ns cs) Fd.none → Below W1.heap.size W1 W2 →
      Calls Try.prog 78 #[.pointer (some ⟨W1.heap.size + 1, 0, none⟩), .slice Aa na ca, .slice Ab nb cb, .int .i64 0] W2 fun e w' => e = .returned (.tuple #[.int .i64 (k : Int), .bool true]) ∧ FAt w' (fun b => b < W1.heap.size) (W1.heap.size + 1) (.slice As ns cs) G ∧ KeepE (fun b => b < W1.heap.size) W2 w') :=
    Lib.hid fun W1 W2 h1 hA h2 => unite_any _ W1.heap.size _ na ca nb cb ns cs As Aa Ab 0 ss za zb Fd.none G 10000 k true W2 hva hvb (by omega) (fun b hb => hb) (fun b hb => Nat.lt_of_lt_of_le hb h2.size) ((hs.up h1).below h2) ((ha.up h1).below h2) ((hb.up h1).below h2) h2.size hA Fd.none_ok (by decide) (by omega) har hu
  have HU := Lib.hid u
  have HT := Lib.hid ht
  have HLONG := Lib.hid hlong
  have HFINE := Lib.hid hfine
  have HGO := Lib.hid hGO
  have HGN := Lib.hid hGn
  clear hs ha hb hva hvb har hu u ht hlong hfine hGO hGn
  go_enter Try.func38, Try.ntmps38
  go_wp2_with (first
    | (go_at_call 58; refine C1.out.mono ?_; rintro e w1 ⟨rfl, hB1⟩; have HB1 := Lib.hid hB1; clear hB1)
    | (go_at_call 77; refine (search_any As ns cs w1).mono ?_; rintro e w2 ⟨rfl, hA2, hB2⟩; have HA2 := Lib.hid hA2; have HB2 := Lib.hid hB2; clear hA2 hB2)
    | (go_at_call 78; refine (CU.out w1 w2 HB1.out HA2.out HB2.out).mono ?_; rintro e w3 ⟨rfl, hA3, hK3⟩
       have HB3 := Lib.hid ((HB1.out.trans (HB2.out.mono HB1.out.size)).trans (hK3.below (fun b hb => Nat.lt_of_lt_of_le hb HB1.out.size)))
       obtain ⟨fb, hfb⟩ : ∃ fb, w1.heap.size + 1 = fb := ⟨_, rfl⟩
       rw [hfb] at hA3 ⊢
       have HA3 := Lib.hid hA3
       clear hA3 hK3 hfb))
  obtain ⟨d, hd⟩ : ∃ d, w3.heap.size = d := ⟨_, rfl⟩
  obtain ⟨W4, hW4⟩ : ∃ W4, w3.alloc (.cells #[] 54) = W4 := ⟨_, rfl⟩
  have hB34 : Below w3.heap.size w3 W4 := by rw [← hW4]; exact bel_al (Below.refl _ _) _
  have hR0 : BRowAt W4 d (.slice (some ⟨d, 0, none⟩) 0 0) 0 [] (filtB (imU G R) 0) := by
    have b0 : Blk W4 d 54 #[] := by rw [← hW4, ← hd]; exact Blk.new w3 _ _
    refine ⟨⟨rfl, .inr ⟨d, 0, #[], rfl, Nat.le_refl _, b0, Nat.le_refl _, by unfold maxLen; omega, rfl, rfl⟩⟩, rfl, rfl, fun j hj => by simp at hj⟩
  have HB34 := Lib.hid (show Below d w3 W4 by rw [← hd]; exact hB34)
  have HSZ4 := Lib.hid (show d ≤ W4.heap.size by rw [← hd]; exact hB34.size)
  have HR0 := Lib.hid hR0
  have HDL := Lib.hid (show w.heap.size ≤ d by rw [← hd]; exact HB3.out.size)
  have HD := Lib.hid hd
  rw [hW4, hd]
  clear hW4 hB34 hR0 hd
  go_loopw [11, 35] (fun l i wr => ∃ (q : Nat) (Av : Option Addr) (L cv : Nat) (lr : List Hd), q ≤ 12 ∧ i = .int .i64 q ∧ l = .slice Av L cv ∧ BRowAt wr d (.slice Av L cv) L lr (filtB (imU G R) q) ∧ Below d w3 wr ∧ d ≤ wr.heap.size ∧ ¬ LongF (imU G R) q) (fun _ i _ => 12 - (intOf i).toNat)
  case atStart => exact ⟨0, _, 0, 0, [], by omega, rfl, rfl, HR0.out, HB34.out, HSZ4.out, LongF.zero⟩
  case round =>
    obtain ⟨q, Av, L, cv, lr, hq, rfl, rfl, hR, hBr, hdr, hnl⟩ := hrel
    have hLq := filtB_le (imU G R) q
    have hL : L ≤ 12 := by have := hR.bl; omega
    have HR := Lib.hid hR
    have HBR := Lib.hid hBr
    have HDR := Lib.hid hdr
    have HNL := Lib.hid hnl
    have HL := Lib.hid hL
    have hA := HA3.out.below (show Below w3.heap.size w3 wr by rw [HD.out]; exact hBr)
    clear hR hBr hdr hnl hLq hL
    by_cases hlt : q < 12
    · have HLT := Lib.hid hlt
      have hlt' : (q : Int) < 12 := by omega
      have hq0 : (0 : Int) ≤ (q : Int) := by omega
      have hwf : (Lit.int .i64 (-(q : Int) - 1)).wf = true := WalkArith.wf_i64 (by omega)
      obtain ⟨bm, vt, va, vp, ks, hM, hks⟩ := id hA
      obtain ⟨c0, c1, c2, c3, c4⟩ := hM.c
      obtain ⟨c, hlk, hc⟩ := hM.vars.look (-(q : Int) - 1) hwf
      have hs := filtB_succ (imU G R) q
      cases hg : vget G.vars (-(q : Int) - 1) with
      | none =>
        rw [hg] at hlk
        have him : imU G R q = [-(q : Int) - 1] := by unfold imU sgG; rw [hg]
        rw [if_pos him, List.append_nil] at hs
        have HS := Lib.hid hs
        have HN2 := Lib.hid (LongF.not_succ' HNL.out (by rw [him]; simp))
        simp only [Option.isSome_none] at hlk
        clear hM hks hc hg him hs hA hwf
        go_wp2
        go_roundw
        case rel => exact ⟨q + 1, Av, L, cv, lr, by omega, by go_num, rfl, by rw [HS.out]; exact HR.out, HBR.out, HDR.out, HN2.out⟩
        case measure => simp [intOf]; omega
      | some j =>
        rw [hg] at hlk
        obtain rfl := hc j hg
        have him : imU G R q = nuF G R j := by unfold imU sgG; rw [hg]
        obtain ⟨hvt, _⟩ := HU.out.vt _ _ hg
        obtain ⟨ok, t', hw, _⟩ := write_some HGO.out HU.out.rts 61 j [] (62 + R) (by simp) (by simp) (List.getElem?_eq_some_iff.1 hvt).1 (by omega)
        obtain ⟨y1, y2⟩ := write_nu HU.out.arn HU.out.al HU.out.rts _ j [] t' ok hw (by simp) (var_fin HU.out HT.out (by omega) hg)
        have h60 := writeF_len (62 + R) j [] ok t' hw (by simp)
        have CW := Lib.hid (written_any _ _ _ G (62 + R) j ok t' wr hA HGO.out (by have := HGN.out; omega) hw)
        simp only [Option.isSome_some] at hlk
        cases ok with
        | false =>
          have HZ := Lib.hid (HLONG.out (LongF.more hlt (by rw [him]; have := y2 rfl; simpa using this)))
          clear hM hks hc hg him hs hA hwf hvt hw y1 y2 h60
          go_wp2_with (go_at_call 79; refine CW.out.mono ?_; rintro e w5 ⟨v, rfl, _, hv, hB5⟩; obtain rfl := hv rfl; have HB5 := Lib.hid hB5; clear hv hB5)
          go_ret2
          rw [HZ.out]
          exact ⟨none, 0, 0, [], rfl, BindsAt.none _ _, (HB3.out.trans (HBR.out.mono HDL.out)).trans (HB5.out.mono (Nat.le_trans HDL.out HDR.out))⟩
        | true =>
          have ht := y1 rfl
          rw [List.nil_append, ← him] at ht
          rw [← ht] at hs
          obtain ⟨m, hm⟩ : ∃ m, t'.length = m := ⟨_, rfl⟩
          have hm60 : m ≤ 60 := by omega
          have HN2 := Lib.hid (LongF.not_succ HNL.out (by rw [← ht]; omega))
          have HS := Lib.hid hs
          have CW2 := Lib.hid (CW.out.mono (R' := fun e w' => ∃ A5 c5, e = .returned (.tuple #[.slice A5 m c5, .bool true]) ∧ IntsBut w' (Value.slice Av L cv).ownBlock A5 m t' ∧ Below wr.heap.size wr w') (fun e w' hh => by
            obtain ⟨v, rfl, hrow, _, hB⟩ := hh
            obtain ⟨A5, c5, rfl, hbut⟩ := IntsBut.of_row (hrow rfl) (by omega) (g := (Value.slice Av L cv).ownBlock) (fun g e => (HR.out.row.lt g e).2)
            rw [hm] at hbut
            exact ⟨A5, c5, by rw [hm], hbut, hB⟩))
          have CBO := Lib.hid (fun (V : World) (A4 : Option Addr) (c4 : Nat) (h : Below wr.heap.size wr V) (hI : IntsBut V (Value.slice Av L cv).ownBlock A4 m t') => bound_any Av A4 L cv m c4 d (q : Int) lr (filtB (imU G R) q) t' V (HR.out.below h) hI HL.out (Nat.le_trans HDR.out h.size) (by omega) (by omega))
          clear hM hks hc hg him hs hA hwf hvt hw y1 y2 h60 CW ht hm
          go_wp2_with (first
            | (go_at_call 79; refine CW2.out.mono ?_; rintro e w5 ⟨A5, c5, rfl, hI5, hB5⟩; have HB5 := Lib.hid hB5; have HI5 := Lib.hid hI5; clear hI5 hB5)
            | (go_at_call 71; refine (CBO.out _ _ _ HB5.out HI5.out).mono ?_; rintro e w6 ⟨A7, L7, c7, l7, rfl, hR7, hL7, hG7⟩; have HR7 := Lib.hid hR7; have HG7 := Lib.hid hG7; clear hR7 hG7 hL7))
          have r5 := HR.out.below HB5.out
          have hB6 : Below d w3 w6 := (HBR.out.trans (HB5.out.mono HDR.out)).grown HG7.out (Nat.le_trans HDR.out HB5.out.size) (fun g e => (r5.row.lt g e).1)
          have HB6 := Lib.hid hB6
          have HD6 := Lib.hid (show d ≤ w6.heap.size from Nat.le_trans (Nat.le_trans HDR.out HB5.out.size) HG7.out.size)
          clear r5 hB6
          go_roundw
          case rel => exact ⟨q + 1, A7, L7, c7, l7, by omega, by go_num, rfl, by rw [HS.out]; exact HR7.out, HB6.out, HD6.out, HN2.out⟩
          case measure => simp [intOf]; omega
    · have hq12 : q = 12 := by omega
      subst hq12
      clear hlt hA
      go_wp2
      go_ret2
      rw [HFINE.out HNL.out]
      obtain ⟨A8, c8, e8, hbd⟩ := HR.out.binds (by have := HL.out; omega)
      cases e8
      exact ⟨_, _, _, _, rfl, hbd, HB3.out.trans (HBR.out.mono HDL.out)⟩

end Go.Proofs.Ytohhgghjpokdiaa

/- The literal of a new solver: 25 cells behind a name. -/
namespace Go.Proofs.Ytohhgghjpokdiaa
open Go.RowKit Go.Great

/-- The cells of a new solver. -/
def solCs (As : Option Addr) (ns cs : Nat) : Array Value := (((As, ns, cs) :: List.replicate 24 (none, 0, 0)).map fun h : Hd => Value.slice h.1 h.2.1 h.2.2).toArray
theorem sol_built (As : Option Addr) (ns cs : Nat) : Program.built Try.prog 97 [(0, Value.slice As ns cs)] = some (solCs As ns cs) := by kernel_rfl
theorem sol_zero : (Try.prog.info? 97).map (fun i => (i.zero, i.size)) = some (some (.agg (solCs none 0 0)), 25) := by kernel_rfl
theorem sol_alloc (w : World) (ρ : Operand → Value) (o : Oper) (h : o.op = .alloc 97) : (execOp ρ o).run Try.prog w = .ok (.value (.pointer (some ⟨w.heap.size, 0, none⟩))) (w.alloc (.cells (solCs none 0 0) 97)) := by
  unfold execOp
  rw [h]
  kernel_rfl
theorem sol_store (o : Oper) {ops : Array Oper} {rest : List Oper} {a : Act} {w : World} {Q : Exit → Act → World → Prop} {k j : Nat} (As : Option Addr) (ns cs : Nat) (hg : o.guard = none) (h : o.op = .store 97 (.tmp k) (.tmp j)) (hd : o.dst = none)
    (hk : a.eval (.tmp k) = .pointer (some ⟨w.heap.size, 0, none⟩)) (hj : a.eval (.tmp j) = .agg (solCs As ns cs)) (hq : wpList Try.prog ops Q rest a (w.alloc (.cells (solCs As ns cs) 97))) :
    wpList Try.prog ops Q (o :: rest) a (w.alloc (.cells (solCs none 0 0) 97)) := by
  refine wpList_store_row hg _ _ _ h w.heap.size (solCs As ns cs) hk hj 97 (solCs none 0 0) (heap_alloc_last w _) ?_ ?_ ?_ ?_
  · have := sol_zero
    cases e : Try.prog.info? 97 with
    | none => rw [e] at this; cases this
    | some i =>
      rw [e] at this
      simp only [Option.map_some, Option.some.injEq, Prod.mk.injEq] at this
      rw [Option.map_some, this.2]
      simp [solCs]
  · simp [solCs]
  · simp [solCs, Value.oneCell']
  · rw [World.setRow_alloc_new, hd]
    exact hq
theorem sol_lit {id i j k : Nat} {p1 p2 p3 p4 : String} {t1 t2 t3 t4 : TypeId} {f1 f2 f3 f4 : Array Edge} {a : Act} {w : World} {Q : Exit → Act → World → Prop} (As : Option Addr) (ns cs : Nat)
    (h0 : a.eval (.tmp 0) = .slice As ns cs) (hi : i < a.tmps.size) (hj : j < a.tmps.size) (hk : k < a.tmps.size) (hjk : j ≠ k)
    (h : Q .normal (((a.put (some i) (.slice As ns cs)).put (some j) (.agg (solCs As ns cs))).put (some k) (.pointer (some ⟨w.heap.size, 0, none⟩))) (w.alloc (.cells (solCs As ns cs) 97))) :
    (Code.region id #[{ dst := some i, op := .move (.tmp 0), type := t1, pos := p1, after := f1, guard := none }, { dst := some j, op := .build 97 #[(0, .tmp i)], type := t2, pos := p2, after := f2, guard := none },
      { dst := some k, op := .alloc 97, type := t3, pos := p3, after := f3, guard := none }, { dst := none, op := .store 97 (.tmp k) (.tmp j), type := t4, pos := p4, after := f4, guard := none }] false).wp Try.prog Q a w := by
  refine wp_region_lit (l := [_, _, _, _]) ?_
  refine wpList_plain rfl fun K hK => Go.BigFrame.wp_move _ rfl (hK _ _ ?_)
  rw [h0]
  show wpList Try.prog _ _ _ (a.put (some i) (.slice As ns cs)) w
  refine wpList_buildTo rfl _ _ rfl (some j) rfl (solCs As ns cs) ?_ ?_
  · simp only [List.map_toArray, List.map_cons, List.map_nil]
    rw [Act.eval_put_same _ _ _ hi]
    exact sol_built As ns cs
  refine wpList_allocTo rfl (some k) rfl _ _ (sol_alloc w _ _ rfl) ?_
  refine sol_store _ (k := k) (j := j) As ns cs rfl rfl rfl (Act.eval_put_same _ _ _ (by simpa [Act.size_put] using hk)) ?_ ?_
  · rw [Act.eval_put_ne _ _ _ _ hjk.symm, Act.eval_put_same _ _ _ (by simpa [Act.size_put] using hj)]
  · exact wpList_nil h
/-- The box of a new solver. -/
theorem sol_boxed (w : World) (As : Option Addr) (ns cs : Nat) : SolAt (w.alloc (.cells (solCs As ns cs) 97)) w.heap.size As ns cs noTo := SolAt.new (Blk.new w _ _)

end Go.Proofs.Ytohhgghjpokdiaa

/- Contracts: the reference's Unifiable, Meets. -/
namespace Go.Proofs.Ytohhgghjpokdiaa
open Go.RowKit

theorem good_val {ss : Sg} {z : List Int} (h : valOk ss z = true) : GoodS ss z := by
  obtain ⟨h1, h2, h3, h4⟩ := valOk_term h
  exact ⟨h4, fun x hx => (h3 x hx).2, fun x hx => by have := (h3 x hx).1; omega, h2⟩
theorem scan_apart {ss : Sg} : ∀ (l : List Int) (n : Nat) (r : List Int), scan ss n l = some r → scan ss n (apartL l) = some (apartL r)
  | l, 0, r, h => by rw [scan_zero] at h ⊢; cases h; rfl
  | [], n + 1, r, h => by cases h
  | z :: l, n + 1, r, h => by
    have e : arOf ss (if z < 0 then z - 12 else z) = arOf ss z := by
      split
      · rename_i hz; rw [arOf_neg ss hz, arOf_neg ss (by omega)]
      · rfl
    simp only [apartL, List.map_cons, scan] at h ⊢
    rw [e]
    exact scan_apart l _ r h
theorem good_apart {ss : Sg} {z : List Int} (h : valOk ss z = true) : GoodS ss (apartL z) := by
  obtain ⟨h1, h2, h3, h4⟩ := valOk_term h
  have hns := (sigOk_len (valOk_sig h)).1
  refine ⟨scan_apart z 1 [] h4, fun x hx => ?_, fun x hx => ?_, by rw [apartL_len]; exact h2⟩
  · obtain ⟨y, hy, rfl⟩ := List.mem_map.1 hx
    have := h3 y hy
    split <;> omega
  · obtain ⟨y, hy, rfl⟩ := List.mem_map.1 hx
    have := h3 y hy
    split <;> omega
set_option maxRecDepth 100000 in
set_option maxHeartbeats 4000000 in
theorem refUnifiable_any (As Aa Ab : Option Addr) (ns cs na ca nb cb : Nat) (ss : Sg) (za zb : List Int) (m : Nat) (bo : Bool) (T' : List (List Int)) (w : World) (hs : SigAt w w.heap.size As ns ss) (ha : TermK w Aa na ca za) (hb : TermK w Ab nb cb zb) (hsol : valOk ss za = true → valOk ss zb = true → solF ss m za zb noTo = some (bo, T')) :
    Calls Try.prog 43 #[.slice As ns cs, .slice Aa na ca, .slice Ab nb cb] w fun e w' => e = .returned (.bool (valOk ss za && valOk ss zb && bo)) ∧ Below w.heap.size w w' := by
  obtain ⟨W3, hW3⟩ : ∃ W3, w.alloc (.cells (solCs As ns cs) 97) = W3 := ⟨_, rfl⟩
  have hB3 : Below w.heap.size w W3 := by rw [← hW3]; exact bel_al (Below.refl _ _) _
  have hS3 : SolAt W3 w.heap.size As ns cs noTo := by rw [← hW3]; exact sol_boxed w As ns cs
  have CA := Lib.hid (refValid_any As Aa ns cs na ca ss za W3 _ (hs.up hB3) (ha.below hB3).1)
  have CB := Lib.hid (fun V (h : Below W3.heap.size W3 V) => refValid_any As Ab ns cs nb cb ss zb V _ ((hs.up hB3).up h) ((hb.below hB3).below h).1)
  have HW3 := Lib.hid hW3
  have HB3 := Lib.hid hB3
  have HS3 := Lib.hid hS3
  have HS := Lib.hid (hs.up hB3)
  have HA := Lib.hid (ha.below hB3)
  have HBB := Lib.hid (hb.below hB3)
  have HSOL := Lib.hid hsol
  clear hs ha hb hsol hW3 hB3 hS3
  go_enter Try.func43, Try.ntmps43
  go_upto_region 1 with fail
  rename_i Qx Kx hKx
  refine sol_lit As ns cs rfl (by simp) (by simp) (by simp) (by decide) ?_
  show Kx _ _
  refine hKx _ _ ?_
  rw [show w.alloc (.cells (solCs As ns cs) 97) = W3 from HW3.out]
  clear hKx Kx
  cases hva : valOk ss za
  · have HVA := Lib.hid hva
    rw [hva] at CA
    clear CB hva
    go_wp2_with (go_at_call 63; refine CA.out.mono ?_; rintro e w4 ⟨rfl, k4, hw4⟩; have HB4 := Lib.hid (show Below w.heap.size w w4 from by rw [hw4]; exact below_drewN HB3.out k4); clear hw4)
    go_ret
    exact ⟨by rw [HVA.out]; rfl, HB4.out⟩
  · have HVA := Lib.hid hva
    rw [hva] at CA
    cases hvb : valOk ss zb
    · have HVB := Lib.hid hvb
      simp only [hvb] at CB
      clear hva hvb
      go_wp2_with (first
        | (go_at_call 63; ((with_reducible refine CA.out.mono ?_); rintro e w4 ⟨rfl, k4, hw4⟩; have HB34 := Lib.hid (show Below W3.heap.size W3 w4 from by rw [hw4]; exact below_drewN (Below.refl _ _) k4); clear hw4 CA))
        | (go_at_call 63; ((with_reducible refine (CB.out _ HB34.out).mono ?_); rintro e w5 ⟨rfl, k5, hw5⟩; have HB5 := Lib.hid (show Below W3.heap.size W3 w5 from by rw [hw5]; exact below_drewN HB34.out k5); clear hw5)))
      go_ret
      exact ⟨by rw [HVA.out, HVB.out]; rfl, below_then HB3.out HB5.out⟩
    · have HVB := Lib.hid hvb
      simp only [hvb] at CB
      have hso := HSOL.out hva hvb
      have har := sigOk_ar (valOk_sig hva)
      have a60 := (valOk_term hva).2.1
      have b60 := (valOk_term hvb).2.1
      have b1 := (valOk_term hvb).1
      have CS := Lib.hid (fun (V : World) (h : Below W3.heap.size W3 V) => sol_any ss har w.heap.size As ns cs m za zb noTo bo T' Aa Ab na ca nb cb V (HS.out.up h) (HS3.out.below h) (noTo_good ss) (good_val hva) (good_val hvb) (HA.out.below h) (HBB.out.below h) hso)
      clear hva hvb hso har a60 b60 b1
      go_wp2_with (first
        | (go_at_call 63; ((with_reducible refine CA.out.mono ?_); rintro e w4 ⟨rfl, k4, hw4⟩; have HB34 := Lib.hid (show Below W3.heap.size W3 w4 from by rw [hw4]; exact below_drewN (Below.refl _ _) k4); clear hw4 CA))
        | (go_at_call 63; ((with_reducible refine (CB.out _ HB34.out).mono ?_); rintro e w5 ⟨rfl, k5, hw5⟩; have HB5 := Lib.hid (show Below W3.heap.size W3 w5 from by rw [hw5]; exact below_drewN HB34.out k5); clear hw5 CB))
        | (go_at_call 80; ((with_reducible refine (CS.out _ HB5.out).mono ?_); rintro e w6 ⟨rfl, hK6, hS6⟩; have HK6 := Lib.hid (hK6.below (B := w.heap.size) (fun b hb => ⟨Nat.lt_of_lt_of_le hb (below_then HB3.out HB5.out).size, Nat.ne_of_lt hb⟩)); clear hK6 hS6)))
      go_ret
      exact ⟨by rw [HVA.out, HVB.out]; rfl, (below_then HB3.out HB5.out).trans HK6.out⟩

set_option maxRecDepth 100000 in
set_option maxHeartbeats 4000000 in
theorem refMeets_any (As Aa Ab : Option Addr) (ns cs na ca nb cb : Nat) (ss : Sg) (za zb : List Int) (m : Nat) (bo : Bool) (T' : List (List Int)) (w : World) (hs : SigAt w w.heap.size As ns ss) (ha : TermK w Aa na ca za) (hb : TermK w Ab nb cb zb) (hsol : valOk ss za = true → valOk ss zb = true → solF ss m za (apartL zb) noTo = some (bo, T')) :
    Calls Try.prog 51 #[.slice As ns cs, .slice Aa na ca, .slice Ab nb cb] w fun e w' => e = .returned (.bool (valOk ss za && valOk ss zb && bo)) ∧ Below w.heap.size w w' := by
  obtain ⟨W3, hW3⟩ : ∃ W3, w.alloc (.cells (solCs As ns cs) 97) = W3 := ⟨_, rfl⟩
  have hB3 : Below w.heap.size w W3 := by rw [← hW3]; exact bel_al (Below.refl _ _) _
  have hS3 : SolAt W3 w.heap.size As ns cs noTo := by rw [← hW3]; exact sol_boxed w As ns cs
  have CA := Lib.hid (refValid_any As Aa ns cs na ca ss za W3 _ (hs.up hB3) (ha.below hB3).1)
  have CB := Lib.hid (fun V (h : Below W3.heap.size W3 V) => refValid_any As Ab ns cs nb cb ss zb V _ ((hs.up hB3).up h) ((hb.below hB3).below h).1)
  have HW3 := Lib.hid hW3
  have HB3 := Lib.hid hB3
  have HS3 := Lib.hid hS3
  have HS := Lib.hid (hs.up hB3)
  have HA := Lib.hid (ha.below hB3)
  have HBB := Lib.hid (hb.below hB3)
  have HSOL := Lib.hid hsol
  clear hs ha hb hsol hW3 hB3 hS3
  go_enter Try.func51, Try.ntmps51
  go_upto_region 1 with fail
  rename_i Qx Kx hKx
  refine sol_lit As ns cs rfl (by simp) (by simp) (by simp) (by decide) ?_
  show Kx _ _
  refine hKx _ _ ?_
  rw [show w.alloc (.cells (solCs As ns cs) 97) = W3 from HW3.out]
  clear hKx Kx
  cases hva : valOk ss za
  · have HVA := Lib.hid hva
    rw [hva] at CA
    clear CB hva
    go_wp2_with (go_at_call 63; refine CA.out.mono ?_; rintro e w4 ⟨rfl, k4, hw4⟩; have HB4 := Lib.hid (show Below w.heap.size w w4 from by rw [hw4]; exact below_drewN HB3.out k4); clear hw4)
    go_ret
    exact ⟨by rw [HVA.out]; rfl, HB4.out⟩
  · have HVA := Lib.hid hva
    rw [hva] at CA
    cases hvb : valOk ss zb
    · have HVB := Lib.hid hvb
      simp only [hvb] at CB
      clear hva hvb
      go_wp2_with (first
        | (go_at_call 63; ((with_reducible refine CA.out.mono ?_); rintro e w4 ⟨rfl, k4, hw4⟩; have HB34 := Lib.hid (show Below W3.heap.size W3 w4 from by rw [hw4]; exact below_drewN (Below.refl _ _) k4); clear hw4 CA))
        | (go_at_call 63; ((with_reducible refine (CB.out _ HB34.out).mono ?_); rintro e w5 ⟨rfl, k5, hw5⟩; have HB5 := Lib.hid (show Below W3.heap.size W3 w5 from by rw [hw5]; exact below_drewN HB34.out k5); clear hw5)))
      go_ret
      exact ⟨by rw [HVA.out, HVB.out]; rfl, below_then HB3.out HB5.out⟩
    · have HVB := Lib.hid hvb
      simp only [hvb] at CB
      have hso := HSOL.out hva hvb
      have har := sigOk_ar (valOk_sig hva)
      have a60 := (valOk_term hva).2.1
      have b60 := (valOk_term hvb).2.1
      have b1 := (valOk_term hvb).1
      have b12 := (valOk_term hvb).2.2.1
      have hsl := sigOk_len (valOk_sig hvb)
      have CP := Lib.hid (fun V (h : Below W3.heap.size W3 V) => apart_any Ab nb cb zb V (HBB.out.below h).1 (fun z hz => by have := b12 z hz; omega) (by have := HBB.out.1.len; omega) (by have := HBB.out.1.len; omega))
      have CS := Lib.hid (fun (V : World) (Ap : Option Addr) (np cp : Nat) (h : Below W3.heap.size W3 V) (ht : TermK V Ap np cp (apartL zb)) => sol_any ss har w.heap.size As ns cs m za (apartL zb) noTo bo T' Aa Ap na ca np cp V (HS.out.up h) (HS3.out.below h) (noTo_good ss) (good_val hva) (good_apart hvb) (HA.out.below h) ht hso)
      clear hva hvb hso har a60 b60 b1 b12 hsl
      go_wp2_with (first
        | (go_at_call 63; ((with_reducible refine CA.out.mono ?_); rintro e w4 ⟨rfl, k4, hw4⟩; have HB34 := Lib.hid (show Below W3.heap.size W3 w4 from by rw [hw4]; exact below_drewN (Below.refl _ _) k4); clear hw4 CA))
        | (go_at_call 63; ((with_reducible refine (CB.out _ HB34.out).mono ?_); rintro e w5 ⟨rfl, k5, hw5⟩; have HB5 := Lib.hid (show Below W3.heap.size W3 w5 from by rw [hw5]; exact below_drewN HB34.out k5); clear hw5 CB))
        | (go_at_call 85; ((with_reducible refine (CP.out _ HB5.out).mono ?_); rintro e w7 ⟨A7, c7, rfl, hI7, hk7, hB7⟩; have HB7 := Lib.hid (below_then HB5.out hB7); have HT7 := Lib.hid (show TermK w7 A7 nb c7 (apartL zb) from ⟨hI7, hk7⟩); clear hI7 hk7 hB7))
        | (go_at_call 80; ((with_reducible refine (CS.out _ _ _ _ HB7.out HT7.out).mono ?_); rintro e w6 ⟨rfl, hK6, hS6⟩; have HK6 := Lib.hid (hK6.below (B := w.heap.size) (fun b hb => ⟨Nat.lt_of_lt_of_le hb (below_then HB3.out HB7.out).size, Nat.ne_of_lt hb⟩)); clear hK6 hS6)))
      go_ret
      exact ⟨by rw [HVA.out, HVB.out]; rfl, (below_then HB3.out HB7.out).trans HK6.out⟩

end Go.Proofs.Ytohhgghjpokdiaa

/- Contracts: the reference's Unified, Meet. -/
namespace Go.Proofs.Ytohhgghjpokdiaa
open Go.RowKit

/-- What Unified and Meet return, and the error: the size and what stands for the first term being known. -/
def comR (ss : Sg) (za zb : List Int) (bo : Bool) (s : Nat) (r : List Int) : List Int × Int :=
  if (valOk ss za && valOk ss zb) = true then (match bo with | true => formZ (decide (s ≤ 60)) r | false => ([], 8)) else ([], 1)

set_option maxRecDepth 100000 in
set_option maxHeartbeats 4000000 in
theorem refUnified_any (As Aa Ab : Option Addr) (ns cs na ca nb cb : Nat) (ss : Sg) (za zb : List Int) (m : Nat) (bo : Bool) (T' : List (List Int)) (w : World) (hs : SigAt w w.heap.size As ns ss) (ha : TermK w Aa na ca za) (hb : TermK w Ab nb cb zb) (s : Nat) (r : List Int) (hsol : valOk ss za = true → valOk ss zb = true → solF ss m za zb noTo = some (bo, T') ∧ (bo = true → WholeIs T' za s r)) :
    Calls Try.prog 41 #[.slice As ns cs, .slice Aa na ca, .slice Ab nb cb] w (RetK w (comR ss za zb bo s r).1 (comR ss za zb bo s r).2) := by
  have CA := Lib.hid (refValid_any As Aa ns cs na ca ss za w _ hs ha.1)
  have CB := Lib.hid (fun V (h : Below w.heap.size w V) => refValid_any As Ab ns cs nb cb ss zb V _ (hs.up h) (hb.below h).1)
  unfold comR
  cases hva : valOk ss za
  · rw [hva] at CA
    rw [if_neg (by simp)]
    clear CB hva hs ha hb hsol
    go_enter Try.func41, Try.ntmps41
    go_wp2_with (go_at_call 63; refine CA.out.mono ?_; rintro e w4 ⟨rfl, k4, hw4⟩; have HB4 := Lib.hid (show Below w.heap.size w w4 from by rw [hw4]; exact below_drewN (Below.refl _ _) k4); clear hw4)
    go_ret2
    exact ⟨none, 0, 0, rfl, IntsAt.nil _ _ 0, by omega, HB4.out⟩
  · rw [hva] at CA
    cases hvb : valOk ss zb
    · simp only [hvb] at CB
      rw [if_neg (by simp)]
      clear hva hvb hs ha hb hsol
      go_enter Try.func41, Try.ntmps41
      go_wp2_with (first
        | (go_at_call 63; ((with_reducible refine CA.out.mono ?_); rintro e w4 ⟨rfl, k4, hw4⟩; have HB4 := Lib.hid (show Below w.heap.size w w4 from by rw [hw4]; exact below_drewN (Below.refl _ _) k4); clear hw4 CA))
        | (go_at_call 63; ((with_reducible refine (CB.out _ HB4.out).mono ?_); rintro e w5 ⟨rfl, k5, hw5⟩; have HB5 := Lib.hid (show Below w.heap.size w w5 from by rw [hw5]; exact below_drewN HB4.out k5); clear hw5)))
      go_ret2
      exact ⟨none, 0, 0, rfl, IntsAt.nil _ _ 0, by omega, HB5.out⟩
    · simp only [hvb] at CB
      obtain ⟨hso, hwh⟩ := hsol hva hvb
      rw [if_pos (by simp)]
      have har := sigOk_ar (valOk_sig hva)
      have a60 := (valOk_term hva).2.1
      have b60 := (valOk_term hvb).2.1
      have b1 := (valOk_term hvb).1
      have hgT := (solF_good m za zb noTo bo T' (good_val hva) (good_val hvb) (noTo_good ss) hso).1
      have ga := good_val hva
      have CS := Lib.hid (fun (V : World) (d : Nat) (h : Below w.heap.size w V) (hd : SolAt V d As ns cs noTo) => sol_any ss har d As ns cs m za zb noTo bo T' Aa Ab na ca nb cb V (hs.up h) hd (noTo_good ss) (good_val hva) (good_val hvb) (ha.below h) (hb.below h) hso)
      have HWH := Lib.hid hwh
      have HGT := Lib.hid hgT
      have HGA := Lib.hid ga
      have HA := Lib.hid ha
      obtain ⟨FT, hFT⟩ : ∃ FT, formZ (decide (s ≤ 60)) r = FT := ⟨_, rfl⟩
      have HFT := Lib.hid hFT
      rw [hFT]
      clear hva hvb hso har a60 b60 b1 hs ha hb hsol hwh hgT ga hFT
      go_enter Try.func41, Try.ntmps41
      go_upto_region 3 with (first
        | (go_at_call 63; ((with_reducible refine CA.out.mono ?_); rintro e w4 ⟨rfl, k4, hw4⟩; have HB4 := Lib.hid (show Below w.heap.size w w4 from by rw [hw4]; exact below_drewN (Below.refl _ _) k4); clear hw4 CA))
        | (go_at_call 63; ((with_reducible refine (CB.out _ HB4.out).mono ?_); rintro e w5 ⟨rfl, k5, hw5⟩; have HB5 := Lib.hid (show Below w.heap.size w w5 from by rw [hw5]; exact below_drewN HB4.out k5); clear hw5 CB)))
      rename_i Qx Kx hKx
      refine sol_lit As ns cs rfl (by simp) (by simp) (by simp) (by decide) ?_
      show Kx _ _
      refine hKx _ _ ?_
      clear hKx Kx
      obtain ⟨W3, hW3⟩ : ∃ W3, w5.alloc (.cells (solCs As ns cs) 97) = W3 := ⟨_, rfl⟩
      have hB53 : Below w5.heap.size w5 W3 := by rw [← hW3]; exact bel_al (Below.refl _ _) _
      have HS3 := Lib.hid (show SolAt W3 w5.heap.size As ns cs noTo by rw [← hW3]; exact sol_boxed w5 As ns cs)
      have HB3 := Lib.hid (below_then HB5.out hB53)
      have HSZ := Lib.hid (show w.heap.size ≤ w5.heap.size from HB5.out.size)
      rw [show w5.alloc (.cells (solCs As ns cs) 97) = W3 from hW3]
      clear hW3 hB53
      cases bo with
      | false =>
        go_wp2_with (first
        | (go_at_call 80; ((with_reducible refine (CS.out _ _ HB3.out HS3.out).mono ?_); rintro e w6 ⟨rfl, hK6, hS6⟩; have HB6 := Lib.hid (HB3.out.trans (hK6.below (B := w.heap.size) (fun b hb => ⟨Nat.lt_of_lt_of_le hb HB3.out.size, Nat.ne_of_lt (Nat.lt_of_lt_of_le hb HSZ.out)⟩))); have HS6 := Lib.hid hS6; have HA6 := Lib.hid (HA.out.below HB6.out); clear hK6 hS6)))
        go_ret2
        exact ⟨none, 0, 0, rfl, IntsAt.nil _ _ 0, by omega, HB6.out⟩
      | true =>
        have CF := Lib.hid (fun (V : World) (d : Nat) (h : Below w.heap.size w V) (hS : SolAt V d As ns cs T') => Few_any d As Aa ns cs na ca T' za s r V hS (HA.out.below h).1 HGT.out.tos HGA.out.lo (HWH.out rfl))
        rw [HFT.out] at CF
        go_wp2_with (first
        | (go_at_call 80; ((with_reducible refine (CS.out _ _ HB3.out HS3.out).mono ?_); rintro e w6 ⟨rfl, hK6, hS6⟩; have HB6 := Lib.hid (HB3.out.trans (hK6.below (B := w.heap.size) (fun b hb => ⟨Nat.lt_of_lt_of_le hb HB3.out.size, Nat.ne_of_lt (Nat.lt_of_lt_of_le hb HSZ.out)⟩))); have HS6 := Lib.hid hS6; have HA6 := Lib.hid (HA.out.below HB6.out); clear hK6 hS6))
        | (go_at_call 83; ((with_reducible refine (CF.out _ _ HB6.out HS6.out).mono ?_); rintro e w8 ⟨A8, n8, c8, rfl, hI8, hk8, hB8⟩; have HB8 := Lib.hid (below_then HB6.out hB8); have HI8 := Lib.hid hI8; have HK8 := Lib.hid hk8; clear hI8 hB8 hk8)))
        go_ret2
        exact ⟨A8, n8, c8, rfl, HI8.out, HK8.out, HB8.out⟩

set_option maxRecDepth 100000 in
set_option maxHeartbeats 4000000 in
theorem refMeet_any (As Aa Ab : Option Addr) (ns cs na ca nb cb : Nat) (ss : Sg) (za zb : List Int) (m : Nat) (bo : Bool) (T' : List (List Int)) (w : World) (hs : SigAt w w.heap.size As ns ss) (ha : TermK w Aa na ca za) (hb : TermK w Ab nb cb zb) (s : Nat) (r : List Int) (hsol : valOk ss za = true → valOk ss zb = true → solF ss m za (apartL zb) noTo = some (bo, T') ∧ (bo = true → WholeIs T' za s r)) :
    Calls Try.prog 49 #[.slice As ns cs, .slice Aa na ca, .slice Ab nb cb] w (RetK w (comR ss za zb bo s r).1 (comR ss za zb bo s r).2) := by
  have CA := Lib.hid (refValid_any As Aa ns cs na ca ss za w _ hs ha.1)
  have CB := Lib.hid (fun V (h : Below w.heap.size w V) => refValid_any As Ab ns cs nb cb ss zb V _ (hs.up h) (hb.below h).1)
  unfold comR
  cases hva : valOk ss za
  · rw [hva] at CA
    rw [if_neg (by simp)]
    clear CB hva hs ha hb hsol
    go_enter Try.func49, Try.ntmps49
    go_wp2_with (go_at_call 63; refine CA.out.mono ?_; rintro e w4 ⟨rfl, k4, hw4⟩; have HB4 := Lib.hid (show Below w.heap.size w w4 from by rw [hw4]; exact below_drewN (Below.refl _ _) k4); clear hw4)
    go_ret2
    exact ⟨none, 0, 0, rfl, IntsAt.nil _ _ 0, by omega, HB4.out⟩
  · rw [hva] at CA
    cases hvb : valOk ss zb
    · simp only [hvb] at CB
      rw [if_neg (by simp)]
      clear hva hvb hs ha hb hsol
      go_enter Try.func49, Try.ntmps49
      go_wp2_with (first
        | (go_at_call 63; ((with_reducible refine CA.out.mono ?_); rintro e w4 ⟨rfl, k4, hw4⟩; have HB4 := Lib.hid (show Below w.heap.size w w4 from by rw [hw4]; exact below_drewN (Below.refl _ _) k4); clear hw4 CA))
        | (go_at_call 63; ((with_reducible refine (CB.out _ HB4.out).mono ?_); rintro e w5 ⟨rfl, k5, hw5⟩; have HB5 := Lib.hid (show Below w.heap.size w w5 from by rw [hw5]; exact below_drewN HB4.out k5); clear hw5)))
      go_ret2
      exact ⟨none, 0, 0, rfl, IntsAt.nil _ _ 0, by omega, HB5.out⟩
    · simp only [hvb] at CB
      obtain ⟨hso, hwh⟩ := hsol hva hvb
      rw [if_pos (by simp)]
      have har := sigOk_ar (valOk_sig hva)
      have a60 := (valOk_term hva).2.1
      have b60 := (valOk_term hvb).2.1
      have b1 := (valOk_term hvb).1
      have hgT := (solF_good m za (apartL zb) noTo bo T' (good_val hva) (good_apart hvb) (noTo_good ss) hso).1
      have ga := good_val hva
      have b12 := (valOk_term hvb).2.2.1
      have hsl := sigOk_len (valOk_sig hvb)
      have CP := Lib.hid (fun V (h : Below w.heap.size w V) => apart_any Ab nb cb zb V (hb.below h).1 (fun z hz => by have := b12 z hz; omega) (by have := hb.1.len; omega) (by have := hb.1.len; omega))
      have CS := Lib.hid (fun (V : World) (d : Nat) (Ap : Option Addr) (np cp : Nat) (h : Below w.heap.size w V) (hd : SolAt V d As ns cs noTo) (ht : TermK V Ap np cp (apartL zb)) => sol_any ss har d As ns cs m za (apartL zb) noTo bo T' Aa Ap na ca np cp V (hs.up h) hd (noTo_good ss) (good_val hva) (good_apart hvb) (ha.below h) ht hso)
      have HWH := Lib.hid hwh
      have HGT := Lib.hid hgT
      have HGA := Lib.hid ga
      have HA := Lib.hid ha
      obtain ⟨FT, hFT⟩ : ∃ FT, formZ (decide (s ≤ 60)) r = FT := ⟨_, rfl⟩
      have HFT := Lib.hid hFT
      rw [hFT]
      clear hva hvb hso har a60 b60 b1 b12 hsl hs ha hb hsol hwh hgT ga hFT
      go_enter Try.func49, Try.ntmps49
      go_upto_region 3 with (first
        | (go_at_call 63; ((with_reducible refine CA.out.mono ?_); rintro e w4 ⟨rfl, k4, hw4⟩; have HB4 := Lib.hid (show Below w.heap.size w w4 from by rw [hw4]; exact below_drewN (Below.refl _ _) k4); clear hw4 CA))
        | (go_at_call 63; ((with_reducible refine (CB.out _ HB4.out).mono ?_); rintro e w5 ⟨rfl, k5, hw5⟩; have HB5 := Lib.hid (show Below w.heap.size w w5 from by rw [hw5]; exact below_drewN HB4.out k5); clear hw5 CB)))
      rename_i Qx Kx hKx
      refine sol_lit As ns cs rfl (by simp) (by simp) (by simp) (by decide) ?_
      show Kx _ _
      refine hKx _ _ ?_
      clear hKx Kx
      obtain ⟨W3, hW3⟩ : ∃ W3, w5.alloc (.cells (solCs As ns cs) 97) = W3 := ⟨_, rfl⟩
      have hB53 : Below w5.heap.size w5 W3 := by rw [← hW3]; exact bel_al (Below.refl _ _) _
      have HS3 := Lib.hid (show SolAt W3 w5.heap.size As ns cs noTo by rw [← hW3]; exact sol_boxed w5 As ns cs)
      have HB3 := Lib.hid (below_then HB5.out hB53)
      have HSZ := Lib.hid (show w.heap.size ≤ w5.heap.size from HB5.out.size)
      rw [show w5.alloc (.cells (solCs As ns cs) 97) = W3 from hW3]
      clear hW3 hB53
      cases bo with
      | false =>
        go_wp2_with (first
        | (go_at_call 85; ((with_reducible refine (CP.out _ HB3.out).mono ?_); rintro e w7 ⟨A7, c7, rfl, hI7, hk7, hB7⟩; have HB7 := Lib.hid (below_then HB3.out hB7); have HS7 := Lib.hid (HS3.out.below hB7); have HT7 := Lib.hid (show TermK w7 A7 nb c7 (apartL zb) from ⟨hI7, hk7⟩); clear hI7 hk7 hB7))
        | (go_at_call 80; ((with_reducible refine (CS.out _ _ _ _ _ HB7.out HS7.out HT7.out).mono ?_); rintro e w6 ⟨rfl, hK6, hS6⟩; have HB6 := Lib.hid (HB7.out.trans (hK6.below (B := w.heap.size) (fun b hb => ⟨Nat.lt_of_lt_of_le hb HB7.out.size, Nat.ne_of_lt (Nat.lt_of_lt_of_le hb HSZ.out)⟩))); have HS6 := Lib.hid hS6; have HA6 := Lib.hid (HA.out.below HB6.out); clear hK6 hS6)))
        go_ret2
        exact ⟨none, 0, 0, rfl, IntsAt.nil _ _ 0, by omega, HB6.out⟩
      | true =>
        have CF := Lib.hid (fun (V : World) (d : Nat) (h : Below w.heap.size w V) (hS : SolAt V d As ns cs T') => Few_any d As Aa ns cs na ca T' za s r V hS (HA.out.below h).1 HGT.out.tos HGA.out.lo (HWH.out rfl))
        rw [HFT.out] at CF
        go_wp2_with (first
        | (go_at_call 85; ((with_reducible refine (CP.out _ HB3.out).mono ?_); rintro e w7 ⟨A7, c7, rfl, hI7, hk7, hB7⟩; have HB7 := Lib.hid (below_then HB3.out hB7); have HS7 := Lib.hid (HS3.out.below hB7); have HT7 := Lib.hid (show TermK w7 A7 nb c7 (apartL zb) from ⟨hI7, hk7⟩); clear hI7 hk7 hB7))
        | (go_at_call 80; ((with_reducible refine (CS.out _ _ _ _ _ HB7.out HS7.out HT7.out).mono ?_); rintro e w6 ⟨rfl, hK6, hS6⟩; have HB6 := Lib.hid (HB7.out.trans (hK6.below (B := w.heap.size) (fun b hb => ⟨Nat.lt_of_lt_of_le hb HB7.out.size, Nat.ne_of_lt (Nat.lt_of_lt_of_le hb HSZ.out)⟩))); have HS6 := Lib.hid hS6; have HA6 := Lib.hid (HA.out.below HB6.out); clear hK6 hS6))
        | (go_at_call 83; ((with_reducible refine (CF.out _ _ HB6.out HS6.out).mono ?_); rintro e w8 ⟨A8, n8, c8, rfl, hI8, hk8, hB8⟩; have HB8 := Lib.hid (below_then HB6.out hB8); have HI8 := Lib.hid hI8; have HK8 := Lib.hid hk8; clear hI8 hB8 hk8)))
        go_ret2
        exact ⟨A8, n8, c8, rfl, HI8.out, HK8.out, HB8.out⟩

end Go.Proofs.Ytohhgghjpokdiaa

/- Contracts: the reference's Unifiable, Meets, Unified, Meet, told by what the program finds. -/
namespace Go.Proofs.Ytohhgghjpokdiaa
open Go.RowKit

theorem apart_sft (zb : List Int) (τ : Int → List Int) : apV τ (apartL zb) = apV (sft τ 12) zb := by
  unfold apartL apV
  rw [List.flatMap_map]
  refine flat_same fun z _ => ?_
  by_cases hz : z < 0
  · simp only [hz, if_true]
    rw [if_pos (by omega)]
    rfl
  · simp only [hz, if_false]
theorem same_apart {ss : Sg} {za zb : List Int} (ha : valOk ss za = true) (hb : valOk ss zb = true) : ∃ m bo T' s r, solF ss m za (apartL zb) noTo = some (bo, T') ∧ hasZ ss 12 za zb = bo ∧ (bo = true → WholeIs T' za s r) ∧ comZ ss 12 za zb = if bo = true then formZ (decide (s ≤ 60)) r else ([], 8) :=
  com_same (by omega) (apart_sft zb) ha hb (good_val ha) (good_apart hb)
theorem same_own {ss : Sg} {za zb : List Int} (ha : valOk ss za = true) (hb : valOk ss zb = true) : ∃ m bo T' s r, solF ss m za zb noTo = some (bo, T') ∧ hasZ ss 0 za zb = bo ∧ (bo = true → WholeIs T' za s r) ∧ comZ ss 0 za zb = if bo = true then formZ (decide (s ≤ 60)) r else ([], 8) :=
  com_same (by omega) (fun τ => (apV_sft0 τ zb).symm) ha hb (good_val ha) (good_val hb)
theorem comR_same {ss : Sg} {sh : Int} {za zb : List Int} {bo : Bool} {s : Nat} {r : List Int} (hv : (valOk ss za && valOk ss zb) = true) (h : comZ ss sh za zb = if bo = true then formZ (decide (s ≤ 60)) r else ([], 8)) : comR ss za zb bo s r = comZ ss sh za zb := by
  unfold comR
  rw [if_pos hv, h]
  cases bo <;> rfl
theorem comR_bad {ss : Sg} {sh : Int} {za zb : List Int} {bo : Bool} {s : Nat} {r : List Int} (hv : (valOk ss za && valOk ss zb) = false) : comR ss za zb bo s r = comZ ss sh za zb := by
  rw [(comZ_bad hv).1]
  unfold comR
  rw [hv]
  rfl
section
variable (As Aa Ab : Option Addr) (ns cs na ca nb cb : Nat) (ss : Sg) (za zb : List Int) (w : World) (hs : SigAt w w.heap.size As ns ss) (ha : TermK w Aa na ca za) (hb : TermK w Ab nb cb zb)
include hs ha hb
theorem refMeets_all : Calls Try.prog 51 #[.slice As ns cs, .slice Aa na ca, .slice Ab nb cb] w fun e w' => e = .returned (.bool (hasZ ss 12 za zb)) ∧ Below w.heap.size w w' := by
  cases hv : (valOk ss za && valOk ss zb)
  · have := refMeets_any As Aa Ab ns cs na ca nb cb ss za zb 0 false noTo w hs ha hb (fun h1 h2 => by rw [h1, h2] at hv; cases hv)
    rw [hv] at this
    rw [(comZ_bad hv).2]
    exact this
  · have hv' := hv
    rw [Bool.and_eq_true] at hv'
    obtain ⟨m, bo, T', s, r, h1, h2, _, _⟩ := same_apart hv'.1 hv'.2
    have := refMeets_any As Aa Ab ns cs na ca nb cb ss za zb m bo T' w hs ha hb (fun _ _ => h1)
    rw [hv, Bool.true_and] at this
    rw [h2]
    exact this
theorem refUnifiable_all : Calls Try.prog 43 #[.slice As ns cs, .slice Aa na ca, .slice Ab nb cb] w fun e w' => e = .returned (.bool (hasZ ss 0 za zb)) ∧ Below w.heap.size w w' := by
  cases hv : (valOk ss za && valOk ss zb)
  · have := refUnifiable_any As Aa Ab ns cs na ca nb cb ss za zb 0 false noTo w hs ha hb (fun h1 h2 => by rw [h1, h2] at hv; cases hv)
    rw [hv] at this
    rw [(comZ_bad hv).2]
    exact this
  · have hv' := hv
    rw [Bool.and_eq_true] at hv'
    obtain ⟨m, bo, T', s, r, h1, h2, _, _⟩ := same_own hv'.1 hv'.2
    have := refUnifiable_any As Aa Ab ns cs na ca nb cb ss za zb m bo T' w hs ha hb (fun _ _ => h1)
    rw [hv, Bool.true_and] at this
    rw [h2]
    exact this
theorem refMeet_all : Calls Try.prog 49 #[.slice As ns cs, .slice Aa na ca, .slice Ab nb cb] w (RetK w (comZ ss 12 za zb).1 (comZ ss 12 za zb).2) := by
  cases hv : (valOk ss za && valOk ss zb)
  · have := refMeet_any As Aa Ab ns cs na ca nb cb ss za zb 0 false noTo w hs ha hb 0 [] (fun h1 h2 => by rw [h1, h2] at hv; cases hv)
    rw [comR_bad (sh := 12) hv] at this
    exact this
  · have hv' := hv
    rw [Bool.and_eq_true] at hv'
    obtain ⟨m, bo, T', s, r, h1, _, h3, h4⟩ := same_apart hv'.1 hv'.2
    have := refMeet_any As Aa Ab ns cs na ca nb cb ss za zb m bo T' w hs ha hb s r (fun _ _ => ⟨h1, h3⟩)
    rw [comR_same hv h4] at this
    exact this
theorem refUnified_all : Calls Try.prog 41 #[.slice As ns cs, .slice Aa na ca, .slice Ab nb cb] w (RetK w (comZ ss 0 za zb).1 (comZ ss 0 za zb).2) := by
  cases hv : (valOk ss za && valOk ss zb)
  · have := refUnified_any As Aa Ab ns cs na ca nb cb ss za zb 0 false noTo w hs ha hb 0 [] (fun h1 h2 => by rw [h1, h2] at hv; cases hv)
    rw [comR_bad (sh := 0) hv] at this
    exact this
  · have hv' := hv
    rw [Bool.and_eq_true] at hv'
    obtain ⟨m, bo, T', s, r, h1, _, h3, h4⟩ := same_own hv'.1 hv'.2
    have := refUnified_any As Aa Ab ns cs na ca nb cb ss za zb m bo T' w hs ha hb s r (fun _ _ => ⟨h1, h3⟩)
    rw [comR_same hv h4] at this
    exact this
end

end Go.Proofs.Ytohhgghjpokdiaa

namespace Go.Proofs.Ytohhgghjpokdiaa
open Go.RowKit
attribute [local go_sem] eql_nil0 eql_nil1 neq_nil0 neq_nil1

/-- Some slice and an error are returned. -/
def RetUE (w : World) (er : Int) (e : Ending) (w' : World) : Prop := ∃ A n c, e = .returned (.tuple #[.slice A n c, .int .i64 er]) ∧ Below w.heap.size w w'
/-- One of the terms that were put is too long. -/
def LongT (T : List (List Int)) (k : Nat) : Prop := ∃ v : Nat, v < k ∧ T.getD v [] ≠ [] ∧ 60 < (whT T (T.getD v [])).length
theorem LongT.not_succ {T : List (List Int)} {k : Nat} (h : ¬ LongT T k) (h2 : T.getD k [] = [] ∨ ¬ 60 < (whT T (T.getD k [])).length) : ¬ LongT T (k + 1) := by
  rintro ⟨v, hv, h1, hl⟩
  by_cases e : v = k
  · subst e
    rcases h2 with h2 | h2
    · exact h1 h2
    · exact h2 hl
  · exact h ⟨v, by omega, h1, hl⟩

set_option maxRecDepth 100000 in
set_option maxHeartbeats 4000000 in
theorem refUnify_bad (As Aa Ab : Option Addr) (ns cs na ca nb cb : Nat) (ss : Sg) (za zb : List Int) (w : World) (hs : SigAt w w.heap.size As ns ss) (ha : TermK w Aa na ca za) (hb : TermK w Ab nb cb zb) (hv : (valOk ss za && valOk ss zb) = false) :
    Calls Try.prog 39 #[.slice As ns cs, .slice Aa na ca, .slice Ab nb cb] w (RetUE w 1) := by
  have CA := Lib.hid (refValid_any As Aa ns cs na ca ss za w _ hs ha.1)
  have CB := Lib.hid (fun V (h : Below w.heap.size w V) => refValid_any As Ab ns cs nb cb ss zb V _ (hs.up h) (hb.below h).1)
  cases hva : valOk ss za
  · rw [hva] at CA
    clear CB hva hs ha hb hv
    go_enter Try.func39, Try.ntmps39
    go_wp2_with (go_at_call 63; refine CA.out.mono ?_; rintro e w4 ⟨rfl, k4, hw4⟩; have HB4 := Lib.hid (show Below w.heap.size w w4 from by rw [hw4]; exact below_drewN (Below.refl _ _) k4); clear hw4)
    go_ret2
    exact ⟨none, 0, 0, rfl, HB4.out⟩
  · rw [hva] at CA hv
    rw [Bool.true_and] at hv
    simp only [hv] at CB
    clear hva hs ha hb hv
    go_enter Try.func39, Try.ntmps39
    go_wp2_with (first
      | (go_at_call 63; ((with_reducible refine CA.out.mono ?_); rintro e w4 ⟨rfl, k4, hw4⟩; have HB4 := Lib.hid (show Below w.heap.size w w4 from by rw [hw4]; exact below_drewN (Below.refl _ _) k4); clear hw4 CA))
      | (go_at_call 63; ((with_reducible refine (CB.out _ HB4.out).mono ?_); rintro e w5 ⟨rfl, k5, hw5⟩; have HB5 := Lib.hid (show Below w.heap.size w w5 from by rw [hw5]; exact below_drewN HB4.out k5); clear hw5)))
    go_ret2
    exact ⟨none, 0, 0, rfl, HB5.out⟩

set_option maxRecDepth 100000 in
set_option maxHeartbeats 8000000 in
theorem refUnify_good (As Aa Ab : Option Addr) (ns cs na ca nb cb : Nat) (ss : Sg) (za zb : List Int) (m : Nat) (bo : Bool) (T' : List (List Int)) (ρ : Nat → Nat) (er : Int) (w : World) (hs : SigAt w w.heap.size As ns ss) (ha : TermK w Aa na ca za) (hb : TermK w Ab nb cb zb) (hva : valOk ss za = true) (hvb : valOk ss zb = true)
    (hso : solF ss m za zb noTo = some (bo, T')) (hA : Acy T' ρ) (hno : bo = false → er = 8) (hlong : bo = true → LongT T' 12 → er = 4) (hfine : bo = true → ¬ LongT T' 12 → er = 0) :
    Calls Try.prog 39 #[.slice As ns cs, .slice Aa na ca, .slice Ab nb cb] w (RetUE w er) := by
  obtain ⟨i0, hi, hz0, hz1, hz2⟩ := info_parts info_bind
  have CA := Lib.hid (refValid_any As Aa ns cs na ca ss za w _ hs ha.1)
  have CB := Lib.hid (fun V (h : Below w.heap.size w V) => refValid_any As Ab ns cs nb cb ss zb V _ (hs.up h) (hb.below h).1)
  rw [hva] at CA
  simp only [hvb] at CB
  have har := sigOk_ar (valOk_sig hva)
  have hns := sigOk_len (valOk_sig hva)
  have hgT := solF_good m za zb noTo bo T' (good_val hva) (good_val hvb) (noTo_good ss) hso
  have CS := Lib.hid (fun (V : World) (d : Nat) (h : Below w.heap.size w V) (hd : SolAt V d As ns cs noTo) => sol_any ss har d As ns cs m za zb noTo bo T' Aa Ab na ca nb cb V (hs.up h) hd (noTo_good ss) (good_val hva) (good_val hvb) (ha.below h) (hb.below h) hso)
  have HGT := Lib.hid hgT.1
  have HTL := Lib.hid (hgT.2.trans (show noTo.length = 24 by decide))
  have HAC := Lib.hid hA
  have HNO := Lib.hid hno
  have HLG := Lib.hid hlong
  have HFN := Lib.hid hfine
  have HNS := Lib.hid hns
  clear hs ha hb hva hvb hso hA hno hlong hfine har hns hgT
  go_enter Try.func39, Try.ntmps39
  go_upto_region 3 with (first
    | (go_at_call 63; ((with_reducible refine CA.out.mono ?_); rintro e w4 ⟨rfl, k4, hw4⟩; have HB4 := Lib.hid (show Below w.heap.size w w4 from by rw [hw4]; exact below_drewN (Below.refl _ _) k4); clear hw4 CA))
    | (go_at_call 63; ((with_reducible refine (CB.out _ HB4.out).mono ?_); rintro e w5 ⟨rfl, k5, hw5⟩; have HB5 := Lib.hid (show Below w.heap.size w w5 from by rw [hw5]; exact below_drewN HB4.out k5); clear hw5 CB)))
  rename_i Kx hKx
  refine sol_lit As ns cs rfl (by simp) (by simp) (by simp) (by decide) ?_
  show Kx _ _
  refine hKx _ _ ?_
  clear hKx Kx
  obtain ⟨W3, hW3⟩ : ∃ W3, w5.alloc (.cells (solCs As ns cs) 97) = W3 := ⟨_, rfl⟩
  have hB53 : Below w5.heap.size w5 W3 := by rw [← hW3]; exact bel_al (Below.refl _ _) _
  have HS3 := Lib.hid (show SolAt W3 w5.heap.size As ns cs noTo by rw [← hW3]; exact sol_boxed w5 As ns cs)
  have HB3 := Lib.hid (below_then HB5.out hB53)
  have HSZ := Lib.hid (show w.heap.size ≤ w5.heap.size from HB5.out.size)
  rw [show w5.alloc (.cells (solCs As ns cs) 97) = W3 from hW3]
  obtain ⟨d, hd⟩ : ∃ d, w5.heap.size = d := ⟨_, rfl⟩
  rw [hd] at HS3 HSZ ⊢
  clear hW3 hB53 hd
  cases bo with
  | false =>
    have H8 := Lib.hid (HNO.out rfl)
    go_wp2_with (go_at_call 80; ((with_reducible refine (CS.out _ _ HB3.out HS3.out).mono ?_); rintro e w6 ⟨rfl, hK6, hS6⟩; have HB6 := Lib.hid (HB3.out.trans (hK6.below (B := w.heap.size) (fun b hb => ⟨Nat.lt_of_lt_of_le hb HB3.out.size, Nat.ne_of_lt (Nat.lt_of_lt_of_le hb HSZ.out)⟩))); clear hK6 hS6))
    go_ret2
    rw [H8.out]
    exact ⟨none, 0, 0, rfl, HB6.out⟩
  | true =>
    go_wp2_with (go_at_call 80; ((with_reducible refine (CS.out _ _ HB3.out HS3.out).mono ?_); rintro e w6 ⟨rfl, hK6, hS6⟩; have HB6 := Lib.hid (HB3.out.trans (hK6.below (B := w.heap.size) (fun b hb => ⟨Nat.lt_of_lt_of_le hb HB3.out.size, Nat.ne_of_lt (Nat.lt_of_lt_of_le hb HSZ.out)⟩))); have HS6 := Lib.hid hS6; clear hK6 hS6))
    obtain ⟨D, hD⟩ : ∃ D, w6.heap.size = D := ⟨_, rfl⟩
    have HD := Lib.hid hD
    have HWD := Lib.hid (show w.heap.size ≤ D by rw [← hD]; exact HB6.out.size)
    have hDle : D ≤ w6.heap.size := by omega
    have HDL := Lib.hid hDle
    clear hD hDle
    go_loopw [9, 10] (fun o i wr => ∃ (k L : Nat) (Av : Option Addr) (cv : Nat) (xs : List Value), k ≤ 12 ∧ i = .int .i64 k ∧ o = .slice Av L cv ∧ L ≤ k ∧ wr.ownsRow D 54 2 (.slice Av L cv) L xs ∧ ¬ LongT T' k ∧ Below D w6 wr ∧ D ≤ wr.heap.size) (fun _ i _ => 12 - (intOf i).toNat)
    case atStart => exact ⟨0, 0, none, 0, [], by omega, rfl, rfl, by omega, World.ownsRow_nil _ _ _ _, (fun ⟨v, hv, _⟩ => by omega), Below.refl _ _, HDL.out⟩
    case round =>
      obtain ⟨k, L, Av, cv, xs, hk, rfl, rfl, hL, hrow, hnl, hB, hDr⟩ := hrel
      have HROW := Lib.hid hrow
      have HNL := Lib.hid hnl
      have HB := Lib.hid hB
      have HDR := Lib.hid hDr
      have hS := HS6.out.below (show Below w6.heap.size w6 wr by rw [HD.out]; exact hB)
      clear hrow hnl hB hDr
      by_cases hlt : k < 12
      · have hk0 : (0 : Int) ≤ (k : Int) := by omega
        have hk1 : (k : Int) < 12 := by omega
        have hk2 : (k : Int) < 24 := by omega
        obtain ⟨A5, n5, c5, g1, g2, g3, g4, g5, g6⟩ := hS.get (v := k) (by omega)
        by_cases hnil : T'.getD k [] = []
        · obtain ⟨rfl, rfl, rfl⟩ := g5 hnil
          have HN2 := Lib.hid (LongT.not_succ HNL.out (.inl hnil))
          clear g2 g3 g4 g5 g6 hS hnil
          go_wp2
          go_roundw
          case rel => exact ⟨k + 1, L, Av, cv, xs, by omega, by go_num, rfl, by omega, HROW.out, HN2.out, HB.out, HDR.out⟩
          case measure => simp [intOf]; omega
        · obtain ⟨b5, off5, rfl⟩ := g6 hnil
          have hg := HGT.out.getD k hnil
          have hwh := whole_is HAC.out HTL.out HGT.out (by have := HNS.out.2; omega) hg
          by_cases h60 : 60 < (whT T' (T'.getD k [])).length
          · have H4 := Lib.hid (HLG.out trivial ⟨k, hlt, hnil, h60⟩)
            have CW := Lib.hid (Whole_long d As (some ⟨b5, off5, none⟩) ns cs n5 c5 T' (T'.getD k []) _ _ wr hS g3 HGT.out.tos hg.lo hwh (by omega))
            clear g2 g3 g4 g5 g6 hS hnil hg hwh h60
            go_wp2_with (go_at_call 81; refine CW.out.mono ?_; rintro e w7 ⟨rfl, hB7⟩; have HB7 := Lib.hid hB7; clear hB7)
            go_ret2
            rw [H4.out]
            exact ⟨none, 0, 0, rfl, (HB6.out.trans (HB.out.mono HWD.out)).trans (HB7.out.mono (Nat.le_trans HWD.out HDR.out))⟩
          · have HN2 := Lib.hid (LongT.not_succ HNL.out (.inr h60))
            have CW := Lib.hid (Whole_short d As (some ⟨b5, off5, none⟩) ns cs n5 c5 T' (T'.getD k []) _ _ wr hS g3 HGT.out.tos hg.lo hwh (by omega))
            clear g2 g3 g4 g5 g6 hS hnil hg hwh h60
            go_wp2_with (first
              | (go_at_call 81; refine CW.out.mono ?_; rintro e w7 ⟨A7, n7, c7, rfl, hT7, hB7⟩; have HB7 := Lib.hid hB7; have HB8 := Lib.hid (bel_al hB7 (.cells #[.int .i64 (k : Int), .slice A7 n7 c7] 54)); clear hT7 hB7)
              | (at_builtin
                 refine wpList_append_own_at _ rfl _ _ 24 rfl D 54 i0 _ 2 32 Try.underlying24 hi hz0 hz1 hz2 rfl (by omega) (.slice Av L cv) L xs rfl (row_below HROW.out HB8.out) ⟨w7.heap.size, 0, none⟩ 1 1 [.int .i64 (k : Int), .slice A7 n7 c7] rfl rfl
                   (World.news_of_block (cs := #[.int .i64 (k : Int), .slice A7 n7 c7]) (t := 54) (fr := (0, 0)) (heap_alloc_new w7 _)) (by simp [Value.oneCell']) (by unfold maxLen; omega) (by omega) (Nat.le_trans HDR.out HB8.out.size) ?_
                 intro v9 w9 hown9 hg9 _ hv9
                 have HB9 := Lib.hid ((HB.out.trans (HB8.out.mono HDR.out)).grown hg9 (Nat.le_trans HDR.out HB8.out.size) (fun k e => (HROW.out.lt k e).1))
                 have HD9 := Lib.hid (show D ≤ w9.heap.size from Nat.le_trans (Nat.le_trans HDR.out HB8.out.size) hg9.size)
                 obtain ⟨g9, c9, e9, _⟩ := hown9.form (by omega)
                 subst e9
                 have HR9 := Lib.hid hown9
                 clear hown9 hg9 hv9))
            go_roundw
            case rel => exact ⟨k + 1, L + 1, _, c9, _, by omega, by go_num, rfl, by omega, HR9.out, HN2.out, HB9.out, HD9.out⟩
            case measure => simp [intOf]; omega
      · have hk12 : k = 12 := by omega
        subst hk12
        have H0 := Lib.hid (HFN.out trivial HNL.out)
        clear hS hlt
        go_wp2
        go_ret2
        rw [H0.out]
        exact ⟨Av, L, cv, rfl, HB6.out.trans (HB.out.mono HWD.out)⟩

end Go.Proofs.Ytohhgghjpokdiaa
