/- Contracts: the reference's listError, MeetAll, JoinAll. -/
import Derived.Test.YtohhgghjpokdiaaN33g
import Derived.Test.YtohhgghjpokdiaaZCg
import Derived.Test.YtohhgghjpokdiaaN35g
import Derived.Test.YtohhgghjpokdiaaR1g
import Derived.Test.YtohhgghjpokdiaaB4g
import Derived.Great.BuildSlice
import Derived.Great.Walk
import Derived.Deep.WholeRow
import Derived.BigFrame
import Derived.Test.YtohhgghjpokdiaaB1g
import Derived.Laws.OwnMore
import Derived.Test.YtohhgghjpokdiaaN8g
import Derived.Test.YtohhgghjpokdiaaN29g
/- What the program's unification finds is a unifier: the plain mathematics. -/
namespace Go.Proofs.Ytohhgghjpokdiaa
open Go.RowKit

section
variable {ss : Sg} {F : Fd} {R : Nat}
/-- A node becomes a term of finite depth. -/
def FinD (F : Fd) (R : Nat) : Nat → Nat → Prop
  | 0, _ => False
  | n + 1, k => ∃ r us, rootS F.prox R k = some r ∧ F.args[r]? = some us ∧ ∀ u ∈ us, FinD F R n u
/-- What it becomes. -/
def tmF (F : Fd) (R : Nat) : Nat → Nat → List Int
  | 0, _ => []
  | n + 1, k => match rootS F.prox R k with
    | none => []
    | some r => F.tops.getD r 0 :: (F.args.getD r []).flatMap (tmF F R n)
theorem FinD.mono : ∀ {n n' k : Nat}, n ≤ n' → FinD F R n k → FinD F R n' k
  | 0, n', k, _, h => h.elim
  | n + 1, 0, k, h, _ => by omega
  | n + 1, n' + 1, k, hn, h => by
    obtain ⟨r, us, h1, h2, h3⟩ := h
    exact ⟨r, us, h1, h2, fun u hu => FinD.mono (by omega) (h3 u hu)⟩
theorem flat_same {α : Type} {us : List α} {f g : α → List Int} (h : ∀ u ∈ us, f u = g u) : us.flatMap f = us.flatMap g := by
  induction us with
  | nil => rfl
  | cons u us ih => rw [List.flatMap_cons, List.flatMap_cons, h u (List.mem_cons_self ..), ih fun v hv => h v (List.mem_cons_of_mem _ hv)]
theorem tm_same : ∀ {n n' k : Nat}, n ≤ n' → FinD F R n k → tmF F R n' k = tmF F R n k
  | 0, n', k, _, h => h.elim
  | n + 1, 0, k, h, _ => by omega
  | n + 1, n' + 1, k, hn, h => by
    obtain ⟨r, us, h1, h2, h3⟩ := h
    unfold tmF
    rw [h1]
    simp only
    rw [show F.args.getD r [] = us by rw [List.getD_eq_getElem?_getD, h2]; rfl]
    congr 1
    exact flat_same fun u hu => tm_same (by omega) (h3 u hu)
open Classical in
/-- What a node becomes, if it becomes a term. -/
noncomputable def nuF (F : Fd) (R : Nat) (k : Nat) : List Int := if h : ∃ n, FinD F R n k then tmF F R h.choose k else [-1]
theorem nu_tm {n k : Nat} (h : FinD F R n k) : nuF F R k = tmF F R n k := by
  have h2 : ∃ n, FinD F R n k := ⟨n, h⟩
  unfold nuF
  rw [dif_pos h2]
  have hc := h2.choose_spec
  rcases Nat.le_total n h2.choose with hn | hn
  · exact tm_same hn h
  · exact (tm_same hn hc).symm
theorem nu_node {k r : Nat} {us : List Nat} {x : Int} (h : ∃ n, FinD F R n k) (hr : rootS F.prox R k = some r) (hu : F.args[r]? = some us) (hx : F.tops[r]? = some x) : nuF F R k = x :: us.flatMap (nuF F R) ∧ ∀ u ∈ us, ∃ n, FinD F R n u := by
  obtain ⟨n, h⟩ := h
  rw [nu_tm h]
  cases n with
  | zero => exact h.elim
  | succ n =>
    obtain ⟨r', us', h1, h2, h3⟩ := h
    rw [hr] at h1
    cases h1
    rw [hu] at h2
    cases h2
    refine ⟨?_, fun u hu => ⟨n, h3 u hu⟩⟩
    unfold tmF
    rw [hr]
    simp only
    rw [show F.args.getD r [] = us by rw [List.getD_eq_getElem?_getD, hu]; rfl, show F.tops.getD r 0 = x by rw [List.getD_eq_getElem?_getD, hx]; rfl]
    congr 1
    exact flat_same fun u hu => (nu_tm (h3 u hu)).symm
theorem fin_root {k j r : Nat} (h1 : rootS F.prox R k = some r) (h2 : rootS F.prox R j = some r) {n : Nat} (h : FinD F R n k) : FinD F R n j := by
  cases n with
  | zero => exact h.elim
  | succ n =>
    obtain ⟨r', us, h3, h4, h5⟩ := h
    rw [h1] at h3
    cases h3
    exact ⟨r, us, h2, h4, h5⟩
theorem tm_root {k j r : Nat} (h1 : rootS F.prox R k = some r) (h2 : rootS F.prox R j = some r) (n : Nat) : tmF F R n k = tmF F R n j := by
  cases n with
  | zero => rfl
  | succ n => unfold tmF; rw [h1, h2]
theorem nu_root {k j r : Nat} (h1 : rootS F.prox R k = some r) (h2 : rootS F.prox R j = some r) : nuF F R k = nuF F R j := by
  by_cases h : ∃ n, FinD F R n k
  · obtain ⟨n, h⟩ := h
    rw [nu_tm h, nu_tm (fin_root h1 h2 h), tm_root h1 h2]
  · have h' : ¬ ∃ n, FinD F R n j := fun ⟨n, hj⟩ => h ⟨n, fin_root h2 h1 hj⟩
    unfold nuF
    rw [dif_neg h, dif_neg h']
theorem fin_max : ∀ (us : List Nat), (∀ u ∈ us, ∃ n, FinD F R n u) → ∃ n, ∀ u ∈ us, FinD F R n u
  | [], _ => ⟨0, fun u hu => by simp at hu⟩
  | v :: us, h => by
    obtain ⟨n1, h1⟩ := h v (List.mem_cons_self ..)
    obtain ⟨n2, h2⟩ := fin_max us fun u hu => h u (List.mem_cons_of_mem _ hu)
    refine ⟨max n1 n2, fun u hu => ?_⟩
    rcases List.mem_cons.1 hu with rfl | hu
    · exact h1.mono (Nat.le_max_left ..)
    · exact (h2 u hu).mono (Nat.le_max_right ..)
/-- The root, by any rounds that are enough. -/
theorem root_by {prox : List Nat} (hR : RootsIn R prox) {m k r : Nat} (h : rootS prox m k = some r) : rootS prox R k = some r := by
  obtain ⟨hk, _, _⟩ := rootS_lt h
  obtain ⟨r2, h2⟩ := hR k hk
  have e1 := rootS_mono (Nat.le_max_left m R) h
  have e2 := rootS_mono (Nat.le_max_right m R) h2
  rw [e1] at e2
  cases e2
  exact h2
theorem root_self {prox : List Nat} (hR : RootsIn R prox) {m k r : Nat} (h : rootS prox m k = some r) : rootS prox R r = some r := by
  obtain ⟨_, hr, hp⟩ := rootS_lt h
  refine root_by hR (m := 1) ?_
  unfold rootS
  rw [hp]
  simp
/-- Where nothing comes again, all becomes terms. -/
theorem again_fin (hR : RootsIn R F.prox) : ∀ (m k : Nat) (i d i' d' : List Bool), againF F m k i d = some (false, i', d') → (∀ j : Nat, d[j]? = some true → ∃ n, FinD F R n j) → (∃ n, FinD F R n k) ∧ ∀ j : Nat, d'[j]? = some true → ∃ n, FinD F R n j
  | 0, k, i, d, i', d', h, _ => by cases h
  | m + 1, k, i, d, i', d', h, hd => by
    unfold againF at h
    cases hr : rootS F.prox m k with
    | none => rw [hr] at h; cases h
    | some r =>
    rw [hr] at h
    simp only at h
    have hk := root_by hR hr
    have hrr := root_self hR hr
    cases h1 : i[r]? with
    | none => rw [h1] at h; simp at h
    | some bi =>
    cases h2 : d[r]? with
    | none => rw [h1, h2] at h; simp at h
    | some bd =>
    cases h3 : F.args[r]? with
    | none => rw [h1, h2, h3] at h; simp at h
    | some us =>
    rw [h1, h2, h3] at h
    simp only at h
    split at h
    · rename_i hb
      cases h
      have hbd : bd = true := by simpa using hb
      subst hbd
      obtain ⟨n, hn⟩ := hd r h2
      exact ⟨⟨n, fin_root hrr hk hn⟩, hd⟩
    · have key : ∀ (us : List Nat) (i0 d0 i1 d1 : List Bool), (∀ j : Nat, d0[j]? = some true → ∃ n, FinD F R n j) → loopA (againF F m) us i0 d0 = some (false, i1, d1) → (∀ u ∈ us, ∃ n, FinD F R n u) ∧ ∀ j : Nat, d1[j]? = some true → ∃ n, FinD F R n j := by
        intro us
        induction us with
        | nil => intro i0 d0 i1 d1 h0 e; cases e; exact ⟨fun u hu => by simp at hu, h0⟩
        | cons u us ih =>
          intro i0 d0 i1 d1 h0 e
          unfold loopA at e
          cases e1 : againF F m u i0 d0 with
          | none => rw [e1] at e; cases e
          | some q =>
            obtain ⟨bq, iq, dq⟩ := q
            rw [e1] at e
            cases bq with
            | true => cases e
            | false =>
              obtain ⟨k1, k2⟩ := again_fin hR m u i0 d0 iq dq e1 h0
              obtain ⟨k3, k4⟩ := ih iq dq i1 d1 k2 e
              refine ⟨fun v hv => ?_, k4⟩
              rcases List.mem_cons.1 hv with rfl | hv
              · exact k1
              · exact k3 v hv
      cases e : loopA (againF F m) us (i.set r true) d with
      | none => rw [e] at h; simp at h
      | some q =>
        obtain ⟨bq, iq, dq⟩ := q
        rw [e] at h
        cases bq with
        | true => cases h
        | false =>
          cases h
          obtain ⟨k1, k2⟩ := key us _ _ _ _ hd e
          obtain ⟨n, hn⟩ := fin_max us k1
          have hfr : FinD F R (n + 1) r := ⟨r, us, hrr, h3, hn⟩
          refine ⟨⟨n + 1, fin_root hrr hk hfr⟩, fun j hj => ?_⟩
          rcases set_get? hj with ⟨rfl, _, _⟩ | ⟨_, hj⟩
          · exact ⟨n + 1, hfr⟩
          · exact k2 j hj
theorem endless_fin (hR : RootsIn R F.prox) {m k : Nat} (h : endlessF F m k = some false) : ∃ n, FinD F R n k := by
  unfold endlessF at h
  rw [Option.map_eq_some_iff] at h
  obtain ⟨⟨b, i', d'⟩, h1, h2⟩ := h
  simp only at h2
  subst h2
  refine (again_fin hR m k _ _ i' d' h1 fun j hj => ?_).1
  rw [List.getElem?_replicate] at hj
  split at hj <;> simp at hj
/-- What stands for each other: roots have the tops and the arguments of those for which they stand, as far as a naming q tells them apart; the pairs of S are one. -/
def Cgr (S st : List (Nat × Nat)) (F : Fd) : Prop := ∀ q : Nat → Nat, (∀ k p, F.prox[k]? = some p → q k = q p) → (∀ e ∈ st, q e.1 = q e.2) →
  (∀ e ∈ S, q e.1 = q e.2) ∧ ∀ (j : Nat) (x : Int) (us : List Nat), F.tops[j]? = some x → 0 ≤ x → F.args[j]? = some us → ∀ M r, rootS F.prox M j = some r → F.tops[r]? = some x ∧ ∃ us', F.args[r]? = some us' ∧ us'.map q = us.map q
theorem root_q {prox : List Nat} {q : Nat → Nat} (hq : ∀ k p, prox[k]? = some p → q k = q p) : ∀ {m k r : Nat}, rootS prox m k = some r → q k = q r
  | 0, k, r, h => by cases h
  | m + 1, k, r, h => by
    unfold rootS at h
    cases e : prox[k]? with
    | none => rw [e] at h; cases h
    | some p =>
      rw [e] at h
      simp only at h
      split at h
      · cases h; rfl
      · rw [hq k p e]; exact root_q hq h
theorem q_setp {prox : List Nat} {q : Nat → Nat} {x y : Nat} (hx : prox[x]? = some x) (hq : ∀ k p, (prox.set x y)[k]? = some p → q k = q p) : (∀ k p, prox[k]? = some p → q k = q p) ∧ q x = q y := by
  have hxl := (List.getElem?_eq_some_iff.1 hx).1
  refine ⟨fun k p hk => ?_, hq x y (by rw [List.getElem?_set, if_pos rfl, if_pos hxl])⟩
  by_cases e : k = x
  · subst e
    rw [hx] at hk
    cases hk
    rfl
  · exact hq k p (by rw [List.getElem?_set, if_neg (Ne.symm e)]; exact hk)
theorem root_setp {prox : List Nat} {x y : Nat} (hR : ∃ R, RootsIn R prox) (hx : prox[x]? = some x) (hy : prox[y]? = some y) (hxy : x ≠ y) {M j r : Nat} (h : rootS (prox.set x y) M j = some r) : ∃ M0 r0, rootS prox M0 j = some r0 ∧ r = if r0 = x then y else r0 := by
  obtain ⟨R, hR⟩ := hR
  obtain ⟨hj, _, _⟩ := rootS_lt h
  rw [List.length_set] at hj
  obtain ⟨r0, h0⟩ := hR j hj
  refine ⟨R, r0, h0, ?_⟩
  have e1 := rootS_mono (Nat.le_max_left (R + 1) M) (rootS_setp hx hy hxy h0)
  have e2 := rootS_mono (Nat.le_max_right (R + 1) M) h
  rw [e1] at e2
  exact (Option.some.inj e2).symm
theorem solve_cgr (S : List (Nat × Nat)) : ∀ (m : Nat) (st : List (Nat × Nat)) (F G : Fd), F.Ok → ArN ss F → (∃ R, RootsIn R F.prox) → solveF m st F = some (true, G) → Cgr S st F → Cgr S [] G ∧ SameG F G ∧ (∃ R, RootsIn R G.prox)
  | 0, st, F, G, _, _, _, h, _ => by cases h
  | m + 1, st, F, G, hF, hA, hR, h, hC => by
    unfold solveF at h
    cases hl : st.getLast? with
    | none =>
      rw [hl] at h
      cases h
      have : st = [] := List.getLast?_eq_none_iff.1 hl
      subst this
      exact ⟨hC, SameG.refl _, hR⟩
    | some lr =>
      obtain ⟨l, r⟩ := lr
      rw [hl] at h
      simp only at h
      have hsplit : ∀ e ∈ st, e ∈ st.dropLast ∨ e = (l, r) := fun e he => by
        have hne : st ≠ [] := List.ne_nil_of_mem he
        have h1 := List.dropLast_concat_getLast hne
        rw [List.getLast?_eq_some_getLast hne] at hl
        rw [Option.some.inj hl] at h1
        rw [← h1] at he
        rcases List.mem_append.1 he with he | he
        · exact .inl he
        · exact .inr (List.mem_singleton.1 he)
      cases h1 : rootS F.prox m l with
      | none => rw [h1] at h; cases h
      | some x =>
      cases h2 : rootS F.prox m r with
      | none => rw [h1, h2] at h; cases h
      | some y =>
      rw [h1, h2] at h
      simp only at h
      obtain ⟨_, hx, ex⟩ := rootS_lt h1
      obtain ⟨_, hy, ey⟩ := rootS_lt h2
      rw [hF.pl] at hx hy
      split at h
      · rename_i hxy
        subst hxy
        refine solve_cgr S m _ F G hF hA hR h fun q hq hs => hC q hq fun e he => ?_
        rcases hsplit e he with he | rfl
        · exact hs e he
        · show q l = q r
          rw [root_q hq h1, root_q hq h2]
      · rename_i hxy
        rw [List.getElem?_eq_getElem hx, List.getElem?_eq_getElem hy] at h
        simp only at h
        have step : ∀ (x y : Nat) (st2 : List (Nat × Nat)), x < F.tops.length → y < F.tops.length → F.prox[x]? = some x → F.prox[y]? = some y → x ≠ y → (∀ q : Nat → Nat, (∀ k p, F.prox[k]? = some p → q k = q p) → q x = q y → q l = q r) →
            (∀ q : Nat → Nat, (∀ e ∈ st2, q e.1 = q e.2) → ∀ e ∈ st.dropLast, q e.1 = q e.2) → (∀ q : Nat → Nat, (∀ e ∈ st2, q e.1 = q e.2) → ∀ (x1 : Int) (us : List Nat), F.tops[x]? = some x1 → 0 ≤ x1 → F.args[x]? = some us → F.tops[y]? = some x1 ∧ ∃ us', F.args[y]? = some us' ∧ us'.map q = us.map q) →
            solveF m st2 { F with prox := F.prox.set x y } = some (true, G) → Cgr S [] G ∧ SameG F G ∧ (∃ R, RootsIn R G.prox) := by
          intro x y st2 hx hy ex ey hne hlr hst2 hargs h
          obtain ⟨R0, hR0⟩ := hR
          obtain ⟨g1, g2, g3⟩ := solve_cgr S m st2 { F with prox := F.prox.set x y } G (hF.setp hy) hA ⟨R0 + 1, hR0.setp ex ey hne⟩ h (fun q hq hs => by
            obtain ⟨hq0, hqxy⟩ := q_setp ex hq
            have hlr' := hlr q hq0 hqxy
            obtain ⟨c1, c2⟩ := hC q hq0 (fun e he => by
              rcases hsplit e he with he | rfl
              · exact hst2 q hs e he
              · exact hlr')
            refine ⟨c1, fun j x1 us hj h0 hu M r1 hr => ?_⟩
            obtain ⟨M0, r0, hr0, rfl⟩ := root_setp ⟨R0, hR0⟩ ex ey hne hr
            obtain ⟨d1, us', d2, d3⟩ := c2 j x1 us hj h0 hu M0 r0 hr0
            split
            · rename_i e
              subst e
              obtain ⟨e1, us2, e2, e3⟩ := hargs q hs x1 us' d1 h0 d2
              exact ⟨e1, us2, e2, e3.trans d3⟩
            · exact ⟨d1, us', d2, d3⟩)
          exact ⟨g1, g2.set, g3⟩
        by_cases hty : F.tops[y] < 0
        · simp only [hty, if_true] at h
          refine step y x _ hy hx ey ex (Ne.symm hxy) (fun q hq he => by rw [root_q hq h1, root_q hq h2, he]) (fun q hs => hs) (fun q _ x1 us hj h0 _ => ?_) h
          rw [List.getElem?_eq_getElem hy] at hj
          cases hj
          omega
        · simp only [hty, if_false] at h
          split at h
          · rename_i htx
            refine step x y _ hx hy ex ey hxy (fun q hq he => by rw [root_q hq h1, root_q hq h2, he]) (fun q hs => hs) (fun q _ x1 us hj h0 _ => ?_) h
            rw [List.getElem?_eq_getElem hx] at hj
            cases hj
            omega
          · rename_i htx
            have hxa : x < F.args.length := by rw [hF.al]; exact hx
            have hya : y < F.args.length := by rw [hF.al]; exact hy
            split at h
            · rename_i e1
              rw [List.getElem?_eq_getElem hxa, List.getElem?_eq_getElem hya] at h
              simp only at h
              obtain ⟨s1, _⟩ := hA x _ _ (List.getElem?_eq_getElem hx) (List.getElem?_eq_getElem hxa)
              obtain ⟨t1, _⟩ := hA y _ _ (List.getElem?_eq_getElem hy) (List.getElem?_eq_getElem hya)
              split at h
              · refine step x y _ hx hy ex ey hxy (fun q hq he => by rw [root_q hq h1, root_q hq h2, he]) (fun q hs e he => hs e (List.mem_append_left _ he)) (fun q hs x1 us hj h0 hu => ?_) h
                rw [List.getElem?_eq_getElem hx] at hj
                cases hj
                rw [List.getElem?_eq_getElem hxa] at hu
                cases hu
                refine ⟨by rw [List.getElem?_eq_getElem hy, e1], _, List.getElem?_eq_getElem hya, ?_⟩
                have hlen : F.args[x].length = F.args[y].length := by rw [s1, t1, e1]
                have hz : ∀ e ∈ F.args[x].zip F.args[y], q e.1 = q e.2 := fun e he => hs e (List.mem_append_right _ he)
                have zipq : ∀ (a b : List Nat), a.length = b.length → (∀ e ∈ a.zip b, q e.1 = q e.2) → b.map q = a.map q := by
                  intro a
                  induction a with
                  | nil => intro b hb _; cases b with
                    | nil => rfl
                    | cons _ _ => simp at hb
                  | cons u a ih => intro b hb hz; cases b with
                    | nil => simp at hb
                    | cons v b =>
                      rw [List.map_cons, List.map_cons, ih b (by simpa using hb) (fun e he => hz e (by rw [List.zip_cons_cons]; exact List.mem_cons_of_mem _ he)), hz (u, v) (by rw [List.zip_cons_cons]; exact List.mem_cons_self ..)]
                exact zipq _ _ hlen hz
              · cases h
            · cases h
end
end Go.Proofs.Ytohhgghjpokdiaa

/- What the program's unification finds is the most general one: the plain mathematics. -/
namespace Go.Proofs.Ytohhgghjpokdiaa
open Go.RowKit

section
variable {ss : Sg} {G : Fd} {R : Nat}
theorem flat_scan {f : Nat → List Int} : ∀ (us : List Nat), (∀ u ∈ us, scan ss 1 (f u) = some []) → scan ss us.length (us.flatMap f) = some []
  | [], _ => by rw [List.length_nil, scan_zero]; rfl
  | u :: us, h => by
    rw [List.flatMap_cons, List.length_cons, Nat.add_comm, scan_add, scan_append ss _ _ _ _ (h u (List.mem_cons_self ..))]
    exact flat_scan us fun v hv => h v (List.mem_cons_of_mem _ hv)
theorem nu_scan (hA : ArN ss G) (hal : G.args.length = G.tops.length) (k : Nat) : scan ss 1 (nuF G R k) = some [] := by
  have key : ∀ n k, FinD G R n k → scan ss 1 (nuF G R k) = some [] := by
    intro n
    induction n with
    | zero => intro k h; exact h.elim
    | succ n ih =>
      intro k h
      obtain ⟨r, us, h1, h2, h3⟩ := id h
      have hr : r < G.tops.length := by rw [← hal]; exact (List.getElem?_eq_some_iff.1 h2).1
      have hx := List.getElem?_eq_getElem hr
      rw [(nu_node ⟨_, h⟩ h1 h2 hx).1]
      simp only [scan]
      rw [Nat.zero_add, ← (hA r _ us hx h2).1]
      exact flat_scan us fun u hu => ih u (h3 u hu)
  by_cases h : ∃ n, FinD G R n k
  · obtain ⟨n, h⟩ := h
    exact key n k h
  · unfold nuF
    rw [dif_neg h]
    exact scan_neg (by omega)
theorem nu_pos (hA : ArN ss G) (hal : G.args.length = G.tops.length) (k : Nat) : 1 ≤ (nuF G R k).length := scan_len (nu_scan hA hal k)
/-- What is written is what the node becomes. -/
theorem write_nu (hA : ArN ss G) (hal : G.args.length = G.tops.length) (hR : RootsIn R G.prox) : ∀ (m k : Nat) (t t' : List Int) (b : Bool), writeF G m k t = some (b, t') → t.length ≤ 60 → (∃ n, FinD G R n k) → (b = true → t' = t ++ nuF G R k) ∧ (b = false → 60 < t.length + (nuF G R k).length)
  | 0, k, t, t', b, h, _, _ => by cases h
  | m + 1, k, t, t', b, h, h60, hf => by
    unfold writeF at h
    cases hr : rootS G.prox m k with
    | none => rw [hr] at h; cases h
    | some r =>
    rw [hr] at h
    simp only at h
    have hk := root_by hR hr
    have hlen := nu_pos (R := R) hA hal k
    split at h
    · rename_i e60
      cases h
      exact ⟨fun hb => (by cases hb), fun _ => by omega⟩
    · rename_i e60
      cases h1 : G.tops[r]? with
      | none => rw [h1] at h; cases h
      | some x =>
      cases h2 : G.args[r]? with
      | none => rw [h1, h2] at h; cases h
      | some us =>
      rw [h1, h2] at h
      simp only at h
      obtain ⟨n1, n2⟩ := nu_node hf hk h2 h1
      have key : ∀ (us : List Nat) (t0 t1 : List Int) (b1 : Bool), (∀ u ∈ us, ∃ n, FinD G R n u) → t0.length ≤ 60 → loopW (writeF G m) us t0 = some (b1, t1) → (b1 = true → t1 = t0 ++ us.flatMap (nuF G R)) ∧ (b1 = false → 60 < t0.length + (us.flatMap (nuF G R)).length) := by
        intro us
        induction us with
        | nil => intro t0 t1 b1 _ _ e; cases e; exact ⟨fun _ => by simp, fun hb => (by cases hb)⟩
        | cons u us ih =>
          intro t0 t1 b1 hu hl0 e
          unfold loopW at e
          cases e1 : writeF G m u t0 with
          | none => rw [e1] at e; cases e
          | some q =>
            obtain ⟨bq, tq⟩ := q
            obtain ⟨k1, k2⟩ := write_nu hA hal hR m u t0 tq bq e1 hl0 (hu u (List.mem_cons_self ..))
            rw [e1] at e
            rw [List.flatMap_cons, List.length_append]
            cases bq with
            | false =>
              cases e
              exact ⟨fun hb => (by cases hb), fun _ => by have := k2 rfl; omega⟩
            | true =>
              have htq := writeF_len m u t0 true _ e1 hl0
              obtain rfl := k1 rfl
              obtain ⟨j1, j2⟩ := ih _ t1 b1 (fun v hv => hu v (List.mem_cons_of_mem _ hv)) htq e
              refine ⟨fun hb => by rw [j1 hb, List.append_assoc], fun hb => ?_⟩
              have h3 := j2 hb
              rw [List.length_append] at h3
              omega
      have ht1 : (t ++ [x]).length ≤ 60 := by rw [List.length_append, List.length_singleton]; omega
      obtain ⟨k1, k2⟩ := key us _ _ _ n2 ht1 h
      rw [n1]
      refine ⟨fun hb => by rw [k1 hb, List.append_assoc]; rfl, fun hb => ?_⟩
      have := k2 hb
      rw [List.length_append, List.length_singleton] at this
      rw [List.length_cons]
      omega
/-- What is found is the most general. -/
theorem nu_gen {ν : Nat → List Int} {τ : Int → List Int} (hV : Val ss G ν) (hal : G.args.length = G.tops.length) (hτ : ∀ (j : Nat) (x : Int), G.tops[j]? = some x → x < 0 → τ x = ν j) : ∀ n k, FinD G R n k → apV τ (nuF G R k) = ν k := by
  intro n
  induction n with
  | zero => intro k h; exact h.elim
  | succ n ih =>
    intro k h
    obtain ⟨r, us, h1, h2, h3⟩ := id h
    have hr : r < G.tops.length := by rw [← hal]; exact (List.getElem?_eq_some_iff.1 h2).1
    have hx := List.getElem?_eq_getElem hr
    rw [(nu_node ⟨_, h⟩ h1 h2 hx).1, rootS_val hV.prx h1, show G.tops[r] :: us.flatMap (nuF G R) = [G.tops[r]] ++ us.flatMap (nuF G R) from rfl, apV_append, apV_one]
    have hfl : ∀ us : List Nat, (∀ u ∈ us, FinD G R n u) → apV τ (us.flatMap (nuF G R)) = us.flatMap ν := by
      intro us
      induction us with
      | nil => intro _; rfl
      | cons u us ihu =>
        intro hu
        rw [List.flatMap_cons, List.flatMap_cons, apV_append, ih u (hu u (List.mem_cons_self ..)), ihu fun v hv => hu v (List.mem_cons_of_mem _ hv)]
    by_cases h0 : 0 ≤ G.tops[r]
    · rw [if_neg (by omega), hfl us h3, (hV.sym r _ us hx h2 h0).1]
      rfl
    · have hu := hV.var r _ us hx h2 (by omega)
      subst hu
      rw [if_pos (by omega), hτ r _ hx (by omega)]
      simp [apV]
theorem root_pid {prox : List Nat} (hp : ∀ k p : Nat, prox[k]? = some p → p = k) {M j r : Nat} (h : rootS prox M j = some r) : r = j := by
  cases M with
  | zero => cases h
  | succ M =>
    unfold rootS at h
    cases e : prox[j]? with
    | none => rw [e] at h; cases h
    | some p =>
      rw [e] at h
      simp only at h
      rw [if_pos (hp j p e)] at h
      exact (Option.some.inj h).symm
/-- What becomes of each variable. -/
noncomputable def sgG (G : Fd) (R : Nat) (z : Int) : List Int := match vget G.vars z with | some k => nuF G R k | none => [z]
/-- All that is known where the program's unification says yes. -/
structure UniIs (ss : Sg) (sh : Int) (za zb : List Int) (k : Nat) (G : Fd) (R : Nat) : Prop where
  rts : RootsIn R G.prox
  al : G.args.length = G.tops.length
  arn : ArN ss G
  fin : ∃ n, FinD G R n k
  good : GoodV ss (sgG G R)
  one : apV (sft (sgG G R) 0) za = nuF G R k
  two : apV (sft (sgG G R) sh) zb = nuF G R k
  vt : ∀ (z : Int) (j : Nat), vget G.vars z = some j → G.tops[j]? = some z ∧ j < G.prox.length
  tv : ∀ (j : Nat) (z : Int), G.tops[j]? = some z → z < 0 → vget G.vars z = some j ∧ G.args[j]? = some []
  ina : ∀ z ∈ za, z < 0 → ∃ j, vget G.vars z = some j ∧ ∃ n, FinD G R n j
  inb : ∀ z ∈ zb, z < 0 → ∃ j, vget G.vars (z - sh) = some j ∧ ∃ n, FinD G R n j
/-- The program's unification, where it says yes: what both terms become. -/
theorem unite_all {sh : Int} {za zb : List Int} {k : Nat} (hsh : 0 ≤ sh) (ha : valOk ss za = true) (hb : valOk ss zb = true) (h : uniteF ss sh 10000 za zb Fd.none = some (k, true, G)) :
    ∃ R, UniIs ss sh za zb k G R := by
  have har := sigOk_ar (valOk_sig ha)
  obtain ⟨ν, h1, h2, h3, h4, hk1, hk2, hlen⟩ := both_val (σ := fun z => if z < 0 then [z] else [-1]) hsh ha hb (fun z hz => by
    show scan ss 1 (if z < 0 then [z] else [-1]) = some []
    rw [if_pos hz]; exact scan_neg hz)
  have hV := h1.val
  unfold uniteF at h
  obtain ⟨F, hFF⟩ : ∃ F, (addT ss sh zb (addT ss 0 za Fd.none).2.2).2.2 = F := ⟨_, rfl⟩
  obtain ⟨k1, hkk1⟩ : ∃ k1, (addT ss 0 za Fd.none).1 = k1 := ⟨_, rfl⟩
  obtain ⟨k2, hkk2⟩ : ∃ k2, (addT ss sh zb (addT ss 0 za Fd.none).2.2).1 = k2 := ⟨_, rfl⟩
  rw [hFF, hkk1, hkk2] at h
  rw [hFF] at h1 h2 hk1 hk2 hlen hV
  rw [hkk1] at h3 hk1
  rw [hkk2] at h4 hk2
  clear hFF hkk1 hkk2
  have hA : ArN ss F := by
    intro k x us hx hu
    by_cases h0 : 0 ≤ x
    · obtain ⟨_, e⟩ := hV.sym k x us hx hu h0
      exact ⟨e, by rw [e]; exact arOf_le har x⟩
    · have e := hV.var k x us hx hu (by omega)
      subst e
      rw [arOf_neg ss (by omega)]
      exact ⟨rfl, by simp⟩
  have hR0 : RootsIn 1 F.prox := fun k hk => by
    refine ⟨k, ?_⟩
    unfold rootS
    rw [List.getElem?_eq_getElem hk]
    simp only
    rw [if_pos (h1.pid k _ (List.getElem?_eq_getElem hk))]
  cases hs : solveF 10000 [(k1, k2)] F with
  | none => rw [hs] at h; cases h
  | some q =>
  obtain ⟨b, G1⟩ := q
  rw [hs] at h
  cases b with
  | false => simp at h
  | true =>
  simp only at h
  cases he : endlessF G1 10000 k1 with
  | none => rw [he] at h; cases h
  | some en =>
  rw [he] at h
  simp only [Option.some.injEq, Prod.mk.injEq] at h
  obtain ⟨rfl, hen, rfl⟩ := h
  have hen' : en = false := by simpa using hen
  subst hen'
  obtain ⟨hC, hG, R, hR⟩ := solve_cgr [(k1, k2)] 10000 _ F G1 h2 hA ⟨1, hR0⟩ hs (fun q _ hs => ⟨hs, fun j x us hj h0 hu M r hr => by
    obtain rfl := root_pid h1.pid hr
    exact ⟨hj, us, hu, rfl⟩⟩)
  have hal : G1.args.length = G1.tops.length := by rw [hG.args, hG.tops]; exact h2.al
  have hAG := hA.same hG
  have hfin := endless_fin hR he
  have hlt : ∀ k, k < F.tops.length → ∃ r, rootS G1.prox R k = some r := fun k hk => hR k (by rw [hG.plen, h2.pl]; exact hk)
  obtain ⟨hpair, hcg⟩ := hC (fun k => (rootS G1.prox R k).getD k) (fun k p hk => by
    show (rootS G1.prox R k).getD k = (rootS G1.prox R p).getD p
    by_cases e : p = k
    · rw [e]
    · obtain ⟨r, hr⟩ := hR k (List.getElem?_eq_some_iff.1 hk).1
      have hr2 := rootS_mono (m' := R + 1) (by omega) hr
      unfold rootS at hr2
      rw [hk] at hr2
      simp only at hr2
      rw [if_neg e] at hr2
      rw [hr, hr2]
      rfl) (fun e he => by simp at he)
  have hkk := hpair (k1, k2) (List.mem_singleton.2 rfl)
  obtain ⟨r1, hr1⟩ := hlt k1 hk1
  obtain ⟨r2, hr2⟩ := hlt k2 hk2
  simp only [hr1, hr2, Option.getD_some] at hkk
  subst hkk
  have hfin2 : ∃ n, FinD G1 R n k2 := by
    obtain ⟨n, hn⟩ := hfin
    exact ⟨n, fin_root hr1 hr2 hn⟩
  have hgd : GoodV ss (sgG G1 R) := fun z hz => by
    unfold sgG
    split
    · exact nu_scan hAG hal _
    · exact scan_neg hz
  obtain ⟨σ, hσ⟩ : ∃ σ : Int → List Int, sgG G1 R = σ := ⟨_, rfl⟩
  have hσv : ∀ (z : Int) (k : Nat), vget F.vars z = some k → σ z = nuF G1 R k := fun z k hk => by rw [← hσ]; unfold sgG; rw [hG.vars, hk]
  have hfin2 := hfin2
  have fin : (apV (sft σ 0) za = nuF G1 R k1 ∧ apV (sft σ sh) zb = nuF G1 R k1) ∧ (∀ z ∈ za, z < 0 → ∃ j, vget F.vars z = some j ∧ ∃ n, FinD G1 R n j) ∧ (∀ z ∈ zb, z < 0 → ∃ j, vget F.vars (z - sh) = some j ∧ ∃ n, FinD G1 R n j) := by
    have main : ∀ (L j : Nat), j < F.tops.length → (ν j).length ≤ L → (∃ n, FinD G1 R n j) → apV σ (ν j) = nuF G1 R j ∧ ∀ z ∈ ν j, z < 0 → ∃ i, vget F.vars z = some i ∧ ∃ n, FinD G1 R n i := by
      intro L
      induction L with
      | zero => intro j hj hL; have := scan_len (h1.trm j hj); omega
      | succ L ih =>
        intro j hj hL hf
        have hx := List.getElem?_eq_getElem hj
        have hja : j < F.args.length := by rw [h2.al]; exact hj
        have hu := List.getElem?_eq_getElem hja
        by_cases h0 : 0 ≤ F.tops[j]
        · obtain ⟨s1, s2⟩ := h1.sym j _ _ hx hu h0 (fun h => h)
          obtain ⟨r, hr⟩ := hlt j hj
          obtain ⟨d1, us', d2, d3⟩ := hcg j _ _ (by rw [hG.tops]; exact hx) h0 (by rw [hG.args]; exact hu) R r hr
          obtain ⟨n1, n2⟩ := nu_node hf hr d2 d1
          have hub : ∀ u ∈ F.args[j], u < F.tops.length := fun u hu => h2.ab _ (List.getElem_mem hja) u hu
          have hub' : ∀ u ∈ us', u < F.tops.length := fun u hu => h2.ab us' (by rw [← hG.args]; exact List.mem_of_getElem? d2) u hu
          have hgq : ∀ u, u < F.tops.length → nuF G1 R ((rootS G1.prox R u).getD u) = nuF G1 R u := fun u hu => by
            obtain ⟨r, hr⟩ := hlt u hu
            rw [hr, Option.getD_some]
            exact nu_root (root_self hR hr) hr
          have hfl : ∀ us : List Nat, (∀ u ∈ us, u < F.tops.length) → us.flatMap (nuF G1 R) = (us.map fun k => (rootS G1.prox R k).getD k).flatMap (nuF G1 R) := fun us hus => by
            rw [List.flatMap_map]
            exact flat_same fun u hu => (hgq u (hus u hu)).symm
          have hfu : ∀ u ∈ F.args[j], ∃ n, FinD G1 R n u := fun u hu => by
            have hm : (rootS G1.prox R u).getD u ∈ F.args[j].map fun k => (rootS G1.prox R k).getD k := List.mem_map_of_mem hu
            rw [← d3] at hm
            obtain ⟨u', hu', e⟩ := List.mem_map.1 hm
            obtain ⟨ru, hru⟩ := hlt u (hub u hu)
            obtain ⟨ru', hru'⟩ := hlt u' (hub' u' hu')
            simp only [hru, hru', Option.getD_some] at e
            subst e
            obtain ⟨n, hn⟩ := n2 u' hu'
            exact ⟨n, fin_root hru' hru hn⟩
          rw [s1] at hL ⊢
          rw [n1, hfl us' hub', d3, ← hfl _ hub, show F.tops[j] :: F.args[j].flatMap ν = [F.tops[j]] ++ F.args[j].flatMap ν from rfl, apV_append, apV_one, if_neg (by omega)]
          rw [List.length_cons] at hL
          have hap : ∀ us : List Nat, (∀ u ∈ us, apV σ (ν u) = nuF G1 R u) → apV σ (us.flatMap ν) = us.flatMap (nuF G1 R) := by
            intro us
            induction us with
            | nil => intro _; rfl
            | cons u us ihu =>
              intro hh
              rw [List.flatMap_cons, List.flatMap_cons, apV_append, hh u (List.mem_cons_self ..), ihu fun v hv => hh v (List.mem_cons_of_mem _ hv)]
          refine ⟨by
            rw [hap _ fun u hu => (ih u (hub u hu) (by have := flat_lt (ν := ν) u hu; omega) (hfu u hu)).1]
            rfl, fun z hz hn => ?_⟩
          rcases List.mem_cons.1 hz with rfl | hz
          · omega
          · obtain ⟨u, hu, hz⟩ := List.mem_flatMap.1 hz
            exact (ih u (hub u hu) (by have := flat_lt (ν := ν) u hu; omega) (hfu u hu)).2 z hz hn
        · obtain ⟨t1, t2⟩ := h1.tv j _ hx (by omega)
          rw [t2, if_pos (by omega), apV_one, if_pos (by omega)]
          refine ⟨hσv _ _ t1, fun z hz _ => ?_⟩
          rw [List.mem_singleton] at hz
          subst hz
          exact ⟨j, t1, hf⟩
    obtain ⟨m1, i1⟩ := main _ k1 hk1 (Nat.le_refl _) hfin
    obtain ⟨m2, i2⟩ := main _ k2 hk2 (Nat.le_refl _) hfin2
    rw [h3] at m1 i1
    rw [h4] at m2 i2
    have hin : ∀ (sh : Int), 0 ≤ sh → ∀ t : List Int, ∀ z ∈ t, z < 0 → z - sh ∈ apV (sft (fun z => if z < 0 then [z] else [-1]) sh) t := fun sh h0 t z hz hn => by
      unfold apV
      rw [List.mem_flatMap]
      refine ⟨z, hz, ?_⟩
      rw [if_pos hn]
      show z - sh ∈ (if z - sh < 0 then [z - sh] else [-1])
      rw [if_pos (by omega), List.mem_singleton]
    have hsft : ∀ (sh : Int), 0 ≤ sh → ∀ t, apV σ (apV (sft (fun z => if z < 0 then [z] else [-1]) sh) t) = apV (sft σ sh) t := fun sh h0 t => by
      rw [apV_flat]
      unfold apV
      refine flat_same fun z _ => ?_
      by_cases hz : z < 0
      · rw [if_pos hz, if_pos hz]
        show apV σ (if z - sh < 0 then [z - sh] else [-1]) = σ (z - sh)
        rw [if_pos (by omega), apV_one, if_pos (by omega)]
      · rw [if_neg hz, if_neg hz]
    rw [hsft 0 (by omega)] at m1
    rw [hsft sh hsh] at m2
    refine ⟨⟨m1, by rw [m2]; exact (nu_root hr1 hr2).symm⟩, fun z hz hn => ?_, fun z hz hn => i2 _ (hin sh hsh zb z hz hn) (by omega)⟩
    have := hin 0 (by omega) za z hz hn
    rw [Int.sub_zero] at this
    exact i1 z this hn
  obtain ⟨⟨f1, f2⟩, f3, f4⟩ := fin
  rw [← hσ] at f1 f2
  refine ⟨R, hR, hal, hAG, hfin, hgd, f1, f2, fun z j hj => ?_, fun j z hj hz => ?_, ?_, ?_⟩
  · rw [hG.vars] at hj
    have := h1.vt z j hj
    rw [hG.tops, hG.plen, h2.pl]
    exact ⟨this, (List.getElem?_eq_some_iff.1 this).1⟩
  · rw [hG.tops] at hj
    rw [hG.vars, hG.args]
    have hja : j < F.args.length := by rw [h2.al]; exact (List.getElem?_eq_some_iff.1 hj).1
    have hu := List.getElem?_eq_getElem hja
    refine ⟨(h1.tv j z hj hz).1, ?_⟩
    have e := h1.var j z _ hj hu hz
    rw [hu, e]
  · rw [hG.vars]; exact f3
  · rw [hG.vars]; exact f4
theorem unite_nu {sh : Int} {za zb : List Int} {k : Nat} (hsh : 0 ≤ sh) (ha : valOk ss za = true) (hb : valOk ss zb = true) (h : uniteF ss sh 10000 za zb Fd.none = some (k, true, G)) :
    ∃ R, RootsIn R G.prox ∧ G.args.length = G.tops.length ∧ ArN ss G ∧ (∃ n, FinD G R n k) ∧ ∃ σ, GoodV ss σ ∧ apV (sft σ 0) za = nuF G R k ∧ apV (sft σ sh) zb = nuF G R k := by
  obtain ⟨R, u⟩ := unite_all hsh ha hb h
  exact ⟨R, u.rts, u.al, u.arn, u.fin, _, u.good, u.one, u.two⟩

theorem fold_map {f : Int → Int} {S : List Int} (hneg : ∀ z ∈ S, z < 0 → f z < 0) (hpos : ∀ z ∈ S, 0 ≤ z → f z = z) (hinj : ∀ x ∈ S, ∀ z ∈ S, f x = f z → x = z) : ∀ (a l : List Int), (∀ z ∈ a, z ∈ S) → (∀ x ∈ l, x ∈ S) → (a.map f).foldl addSeen (l.map f) = (a.foldl addSeen l).map f
  | [], _, _, _ => rfl
  | z :: a, l, ha, hl => by
    have hz := ha z (List.mem_cons_self ..)
    have e1 := addSeen_map (l := l) (hneg z hz) (hpos z hz) (fun x hx _ e => hinj x (hl x hx) z hz e)
    have hl2 : ∀ x ∈ addSeen l z, x ∈ S := fun x hx => by
      unfold addSeen at hx
      split at hx
      · exact hl x hx
      · split at hx
        · exact hl x hx
        · rcases List.mem_append.1 hx with h | h
          · exact hl x h
          · obtain rfl := List.mem_singleton.1 h; exact hz
    rw [List.map_cons, List.foldl_cons, List.foldl_cons, e1, fold_map hneg hpos hinj a _ (fun x hx => ha x (List.mem_cons_of_mem _ hx)) hl2]
theorem apV_sizes {σ : Int → List Int} : ∀ {a : List Int}, (∀ z ∈ a, z < 0 → 1 ≤ (σ z).length) → a.length ≤ (apV σ a).length ∧ ((apV σ a).length = a.length → ∀ z ∈ a, z < 0 → (σ z).length = 1)
  | [], _ => ⟨Nat.le_refl _, fun _ z hz => by simp at hz⟩
  | x :: a, h => by
    obtain ⟨h1, h2⟩ := apV_sizes (a := a) fun z hz => h z (List.mem_cons_of_mem _ hz)
    rw [show x :: a = [x] ++ a from rfl, apV_append, apV_one, List.length_append, List.length_append, List.length_singleton]
    by_cases hx : x < 0
    · have h3 := h x (List.mem_cons_self ..) hx
      rw [if_pos hx]
      refine ⟨by omega, fun e z hz hn => ?_⟩
      rcases List.mem_cons.1 hz with rfl | hz
      · omega
      · exact h2 (by omega) z hz hn
    · rw [if_neg hx, List.length_singleton]
      refine ⟨by omega, fun e z hz hn => ?_⟩
      rcases List.mem_cons.1 hz with rfl | hz
      · exact absurd hn hx
      · exact h2 (by omega) z hz hn
theorem apV_map {σ : Int → List Int} {f : Int → Int} : ∀ {p : List Int}, (∀ z ∈ p, (if z < 0 then σ z else [z]) = [f z]) → apV σ p = p.map f
  | [], _ => rfl
  | z :: p, h => by
    rw [show z :: p = [z] ++ p from rfl, apV_append, apV_one, h z (List.mem_cons_self ..), apV_map fun x hx => h x (List.mem_cons_of_mem _ hx)]
    rfl
/-- Terms that become each other are alike, however long. -/
theorem alike_of {σ τ : Int → List Int} {U V : List Int} (hσ : GoodV ss σ) (hτ : GoodV ss τ) (h1 : apV τ U = V) (h2 : apV σ V = U) : V.length = U.length ∧ canon U = canon V ∧ (seenTo U U.length).length = (seenTo V V.length).length := by
  have l1 := (apV_sizes (σ := τ) (a := U) fun z _ hn => scan_len (hτ z hn)).1
  have l2 := (apV_sizes (σ := σ) (a := V) fun z _ hn => scan_len (hσ z hn)).1
  rw [h1] at l1
  rw [h2] at l2
  have hl : V.length = U.length := by omega
  have mk : ∀ {σ : Int → List Int} {a b : List Int}, GoodV ss σ → apV σ a = b → b.length = a.length → ∃ f : Int → Int, a.map f = b ∧ ∀ z ∈ a, 0 ≤ z → f z = z := fun {σ a b} hσ h hl => by
    have hh := (apV_sizes (σ := σ) (a := a) fun z _ hn => scan_len (hσ z hn)).2 (by rw [h, hl])
    refine ⟨fun z => if z < 0 then (σ z).headD 0 else z, ?_, fun z _ hp => by show (if z < 0 then _ else z) = z; rw [if_neg (by omega)]⟩
    rw [← h]
    refine (apV_map fun z hz => ?_).symm
    by_cases hn : z < 0
    · rw [if_pos hn, if_pos hn]
      have := hh z hz hn
      match hq : σ z, this with
      | [y], _ => rfl
    · rw [if_neg hn, if_neg hn]
  obtain ⟨f, f1, f2⟩ := mk hτ h1 hl
  obtain ⟨g, g1, g2⟩ := mk hσ h2 hl.symm
  have hgf : ∀ z ∈ U, g (f z) = z := by
    have : U.map (g ∘ f) = U.map id := by rw [List.map_id, ← List.map_map, f1, g1]
    intro z hz
    exact (List.map_inj_left.1 this) z hz
  have hfb : ∀ z ∈ U, f z ∈ V := fun z hz => by rw [← f1]; exact List.mem_map_of_mem hz
  have hneg : ∀ z ∈ U, z < 0 → f z < 0 := fun z hz hn => by
    rcases Int.lt_or_le (f z) 0 with h | h
    · exact h
    · have := hgf z hz
      rw [g2 _ (hfb z hz) h] at this
      omega
  have hinj : ∀ x ∈ U, ∀ z ∈ U, f x = f z → x = z := fun x hx z hz e => by rw [← hgf x hx, ← hgf z hz, e]
  have k1 := canonL_map (S := U) hneg f2 hinj U [] (fun _ h => h) (fun x hx => by simp at hx)
  have k2 := fold_map (S := U) hneg f2 hinj U [] (fun _ h => h) (fun x hx => by simp at hx)
  rw [List.map_nil, f1] at k1 k2
  refine ⟨hl, k1.symm, ?_⟩
  unfold seenTo
  rw [List.take_length, List.take_length, k2, List.length_map]
theorem form_alike {U V : List Int} (h : V.length = U.length ∧ canon U = canon V ∧ (seenTo U U.length).length = (seenTo V V.length).length) : formZ true U = formZ true V := by
  unfold formZ
  rw [h.2.1, h.2.2]
theorem apV_sft0 (τ : Int → List Int) (t : List Int) : apV (sft τ 0) t = apV τ t := by
  unfold apV
  refine flat_same fun z _ => ?_
  unfold sft
  rw [Int.sub_zero]
theorem solve_tops : ∀ (m : Nat) (st : List (Nat × Nat)) (F G : Fd) (b : Bool), solveF m st F = some (b, G) → G.tops = F.tops
  | 0, st, F, G, b, h => by cases h
  | m + 1, st, F, G, b, h => by
    unfold solveF at h
    split at h
    · cases h; rfl
    · split at h
      · split at h
        · exact solve_tops m _ F G b h
        · split at h
          · simp only at h
            repeat' split at h
            all_goals first
              | (cases h; done)
              | (cases h; rfl)
              | (have := solve_tops m _ _ G b h; exact this)
          · cases h
      · cases h
theorem nu_heads {n : Nat} {H : Int} (hH : ∀ z ∈ G.tops, z < H) (hal : G.args.length = G.tops.length) : ∀ k, FinD G R n k → ∀ z ∈ nuF G R k, z < H := by
  induction n with
  | zero => intro k h; exact h.elim
  | succ n ih =>
    intro k h z hz
    obtain ⟨r, us, h1, h2, h3⟩ := id h
    have hr : r < G.tops.length := by rw [← hal]; exact (List.getElem?_eq_some_iff.1 h2).1
    rw [(nu_node ⟨_, h⟩ h1 h2 (List.getElem?_eq_getElem hr)).1] at hz
    rcases List.mem_cons.1 hz with rfl | hz
    · exact hH _ (List.getElem_mem hr)
    · obtain ⟨u, hu, hz⟩ := List.mem_flatMap.1 hz
      exact ih u (h3 u hu) z hz
/-- What the program finds: nothing, where there is nothing; otherwise the most general one, whole. -/
theorem com_is {sh : Int} {za zb : List Int} (hsh : 0 ≤ sh ∧ sh ≤ 1000) (ha : valOk ss za = true) (hb : valOk ss zb = true) :
    (hasZ ss sh za zb = false ∧ comZ ss sh za zb = ([], 8) ∧ ∀ τ, GoodV ss τ → apV (sft τ 0) za ≠ apV (sft τ sh) zb) ∨
    (hasZ ss sh za zb = true ∧ ∃ (U : List Int) (σ : Int → List Int), GoodV ss σ ∧ apV (sft σ 0) za = U ∧ apV (sft σ sh) zb = U ∧ comZ ss sh za zb = formZ (decide (U.length ≤ 60)) U ∧ scan ss 1 U = some [] ∧ HeadsOk ss U ∧
      ∀ τ, GoodV ss τ → apV (sft τ 0) za = apV (sft τ sh) zb → apV τ U = apV (sft τ 0) za) := by
  have hcg := comZ_good hsh ha hb
  obtain ⟨⟨k, b, G, hu, hGok⟩, har, _⟩ := common_some hsh ha hb
  have hz := hasZ_good ha hb hu
  unfold commonF at hcg
  rw [if_pos (by simpa [List.all_eq_true] using har), hu] at hcg
  cases b with
  | false =>
    simp only [Option.some.injEq] at hcg
    refine .inl ⟨hz, hcg.symm, fun τ hτ he => ?_⟩
    have := (unite_val hsh.1 ha hb hτ he hu).1
    cases this
  | true =>
    obtain ⟨R, hR, hal, hAr, hfin, σ, s1, s2, s3⟩ := unite_nu hsh.1 ha hb hu
    refine .inr ⟨hz, nuF G R k, σ, s1, s2, s3, ?_, nu_scan hAr hal k, ?_, fun τ hτ he => ?_⟩
    · simp only at hcg
      cases hw : writeF G 10000 k [] with
      | none => rw [hw] at hcg; cases hcg
      | some p =>
        obtain ⟨ok2, t⟩ := p
        rw [hw] at hcg
        simp only at hcg
        obtain ⟨w1, w2⟩ := write_nu hAr hal hR 10000 k [] t ok2 hw (by simp) hfin
        split at hcg
        · rw [← Option.some.inj hcg]
          cases ok2 with
          | true =>
            have e := w1 rfl
            rw [List.nil_append] at e
            subst e
            have h60 := writeF_len 10000 k [] true _ hw (by simp)
            rw [decide_eq_true h60]
          | false =>
            have h60 := w2 rfl
            simp only [List.length_nil, Nat.zero_add] at h60
            rw [decide_eq_false (by omega)]
            unfold formZ
            rw [if_neg (fun h => by cases h.1), if_neg (fun h => by cases h.1)]
        · cases hcg
    · have hns := sigOk_len (valOk_sig ha)
      have htops : ∀ z ∈ G.tops, z < (ss.length : Int) := by
        have hG : G.tops = (addT ss sh zb (addT ss 0 za Fd.none).2.2).2.2.tops := by
          obtain ⟨ν, h1, h2, h3, h4, hk1, hk2, hlen⟩ := both_val (σ := fun _ => [-1]) hsh.1 ha hb (fun z hz => scan_neg (by omega))
          unfold uniteF at hu
          cases hs : solveF 10000 [((addT ss 0 za Fd.none).1, (addT ss sh zb (addT ss 0 za Fd.none).2.2).1)] (addT ss sh zb (addT ss 0 za Fd.none).2.2).2.2 with
          | none => rw [hs] at hu; cases hu
          | some q =>
            obtain ⟨bq, G1⟩ := q
            have ht := solve_tops _ _ _ _ _ hs
            rw [hs] at hu
            cases bq with
            | false => simp at hu
            | true =>
              simp only at hu
              cases he : endlessF G1 10000 (addT ss 0 za Fd.none).1 with
              | none => rw [he] at hu; cases hu
              | some en =>
                rw [he] at hu
                simp only [Option.some.injEq, Prod.mk.injEq] at hu
                rw [← hu.2.2]
                exact ht
        rw [hG]
        unfold addT
        refine (addF_mem (Q := fun z => z < (ss.length : Int)) _ zb _ (fun z hz => ?_) (addF_mem (Q := fun z => z < (ss.length : Int)) _ za _ (fun z hz => ?_) (fun z hz => by simp [Fd.none] at hz)).2).2
        · have := (valOk_term hb).2.2.1 z hz; exact ⟨this.2, by omega⟩
        · have := (valOk_term ha).2.2.1 z hz; exact ⟨this.2, by omega⟩
      obtain ⟨n, hn⟩ := hfin
      exact nu_heads htops hal k hn
    · obtain ⟨_, ν, v1, v2, v3, v4⟩ := unite_val hsh.1 ha hb hτ he hu
      obtain ⟨n, hn⟩ := hfin
      rw [nu_gen v1 hal (fun j x hj hx => v4 j x hj hx) n k hn, v3]
end

end Go.Proofs.Ytohhgghjpokdiaa

/- Canonical forms are their own: the plain mathematics. -/
namespace Go.Proofs.Ytohhgghjpokdiaa
open Go.RowKit

def iotaN (n : Nat) : List Int := (List.range n).map fun i => -((i : Nat) : Int) - 1
theorem iotaN_length (n : Nat) : (iotaN n).length = n := by simp [iotaN]
theorem iotaN_succ (n : Nat) : iotaN (n + 1) = iotaN n ++ [-(n : Int) - 1] := by simp [iotaN, List.range_succ]
theorem iotaN_mem {n : Nat} {y : Int} : y ∈ iotaN n ↔ ∃ i : Nat, i < n ∧ y = -(i : Int) - 1 := by
  unfold iotaN
  rw [List.mem_map]
  constructor
  · rintro ⟨i, hi, rfl⟩; exact ⟨i, by simpa using hi, rfl⟩
  · rintro ⟨i, hi, rfl⟩; exact ⟨i, by simpa using hi, rfl⟩
theorem iotaN_nodup : ∀ n, (iotaN n).Nodup
  | 0 => by simp [iotaN]
  | n + 1 => by
    rw [iotaN_succ, List.nodup_append]
    refine ⟨iotaN_nodup n, by simp, fun a ha b hb => ?_⟩
    simp only [List.mem_singleton] at hb
    obtain ⟨i, hi, rfl⟩ := iotaN_mem.1 ha
    omega
theorem iotaN_idx {n i : Nat} (h : i < n) : (iotaN n).idxOf (-(i : Int) - 1) = i := by
  have hl : i < (iotaN n).length := by rw [iotaN_length]; exact h
  have e : (iotaN n)[i] = -(i : Int) - 1 := by simp [iotaN]
  rw [← e]
  exact (iotaN_nodup n).idxOf_getElem i hl
theorem canonL_again : ∀ (zs seen : List Int), canonL (iotaN seen.length) (canonL seen zs) = canonL seen zs
  | [], _ => rfl
  | z :: r, seen => by
    simp only [canonL]
    by_cases h0 : 0 ≤ z
    · have e1 : ren1 seen z = z := by simp [ren1, h0]
      have e2 : addSeen seen z = seen := by simp [addSeen, h0]
      rw [e1, e2]
      have e3 : ren1 (iotaN seen.length) z = z := by simp [ren1, h0]
      have e4 : addSeen (iotaN seen.length) z = iotaN seen.length := by simp [addSeen, h0]
      rw [e3, e4, canonL_again r seen]
    · by_cases hc : z ∈ seen
      · have e2 : addSeen seen z = seen := by simp [addSeen, h0, hc]
        have hi : seen.idxOf z < seen.length := List.idxOf_lt_length_of_mem hc
        have e1 : ren1 seen z = -((seen.idxOf z : Nat) : Int) - 1 := by unfold ren1 cnum; rw [if_neg h0, e2]
        rw [e1, e2]
        have hy : ¬ (0 : Int) ≤ -((seen.idxOf z : Nat) : Int) - 1 := by omega
        have hm : (-((seen.idxOf z : Nat) : Int) - 1) ∈ iotaN seen.length := iotaN_mem.2 ⟨_, hi, rfl⟩
        have e4 : addSeen (iotaN seen.length) (-((seen.idxOf z : Nat) : Int) - 1) = iotaN seen.length := by
          unfold addSeen
          rw [if_neg hy, if_pos (List.contains_iff_mem.2 hm)]
        have e3 : ren1 (iotaN seen.length) (-((seen.idxOf z : Nat) : Int) - 1) = -((seen.idxOf z : Nat) : Int) - 1 := by
          unfold ren1 cnum
          rw [if_neg hy, e4, iotaN_idx hi]
        rw [e3, e4, canonL_again r seen]
      · have e2 : addSeen seen z = seen ++ [z] := by simp [addSeen, h0, hc]
        have e1 : ren1 seen z = -(seen.length : Int) - 1 := by
          unfold ren1 cnum
          rw [if_neg h0, e2, List.idxOf_append, if_neg hc]
          simp
        rw [e1, e2]
        have hy : ¬ (0 : Int) ≤ -(seen.length : Int) - 1 := by omega
        have hm : (-(seen.length : Int) - 1) ∉ iotaN seen.length := fun h => by
          obtain ⟨i, hi, e⟩ := iotaN_mem.1 h
          omega
        have e4 : addSeen (iotaN seen.length) (-(seen.length : Int) - 1) = iotaN (seen ++ [z]).length := by
          unfold addSeen
          rw [if_neg hy, if_neg (fun h => hm (List.contains_iff_mem.1 h)), List.length_append, List.length_singleton, iotaN_succ]
        have e3 : ren1 (iotaN seen.length) (-(seen.length : Int) - 1) = -(seen.length : Int) - 1 := by
          unfold ren1 cnum
          rw [if_neg hy, e4, List.length_append, List.length_singleton, iotaN_idx (by omega)]
        rw [e3, e4, canonL_again r (seen ++ [z])]
theorem canon_canon (zs : List Int) : canon (canon zs) = canon zs := canonL_again zs []

end Go.Proofs.Ytohhgghjpokdiaa

/- Meets: the plain mathematics. -/
namespace Go.Proofs.Ytohhgghjpokdiaa
open Go.RowKit

section
variable {ss : Sg} {za zb : List Int} {σ : Int → List Int}
theorem canon_valid {U : List Int} (hsg : sigOk ss = true) (hs : scan ss 1 U = some []) (hh : HeadsOk ss U) (h60 : U.length ≤ 60) (h12 : (seenTo U U.length).length ≤ 12) : valOk ss (canon U) = true := by
  have hsc := canon_scan hs
  simp only [valOk, termOk, Bool.and_eq_true, decide_eq_true_eq, List.all_eq_true, numOk]
  refine ⟨hsg, scan_len hsc, by rw [canon_length]; omega, fun z hz => ?_, hsc⟩
  rw [canon_map] at hz
  obtain ⟨y, hy, rfl⟩ := List.mem_map.1 hz
  by_cases hn : y < 0
  · rw [if_pos hn]
    have h1 := List.idxOf_lt_length_of_mem (seen_all hy hn)
    have h2 := (sigOk_len hsg).1
    unfold cnum
    omega
  · rw [if_neg hn]
    have := hh y hy
    omega
/-- The canonical form is what a renaming makes. -/
theorem canon_apV (U : List Int) : canon U = apV (fun z => [cnum (seenTo U U.length) z]) U := by
  rw [canon_map]
  refine (apV_map fun z _ => ?_).symm
  by_cases hn : z < 0
  · rw [if_pos hn, if_pos hn]
  · rw [if_neg hn, if_neg hn]
theorem goodV_comp {τ : Int → List Int} (hσ : GoodV ss σ) (hτ : GoodV ss τ) : GoodV ss (fun z => apV τ (σ z)) := fun z hz => scan_apV hτ _ 1 [] (hσ z hz)
theorem ins_apV {sh : Int} {c : List Int} (h0 : 0 ≤ sh) (ha : valOk ss za = true) (hc : valOk ss c = true) (hσ : GoodV ss σ) (h : apV (sft σ sh) za = c) : insB ss za c = true := by
  refine ins_in (σ := fun v => sft σ sh (-(v : Int) - 1)) ha hc (fun v _ => hσ _ (by omega)) ?_
  rw [← h]
  unfold apN apV
  refine flat_same fun z _ => ?_
  by_cases hn : z < 0
  · rw [if_pos hn, if_pos hn]
    show sft σ sh (-(((-z - 1).toNat : Nat) : Int) - 1) = sft σ sh z
    rw [show -(((-z - 1).toNat : Nat) : Int) - 1 = z by omega]
  · rw [if_neg hn, if_neg hn]
theorem ins_canonV {sh : Int} {U : List Int} (h0 : 0 ≤ sh) (ha : valOk ss za = true) (hc : valOk ss (canon U) = true) (hσ : GoodV ss σ) (h : apV (sft σ sh) za = U) : insB ss za (canon U) = true := by
  refine ins_apV (σ := fun z => apV (fun z => [cnum (seenTo U U.length) z]) (σ z)) h0 ha hc (goodV_comp hσ fun z _ => scan_neg (cnum_neg _ _)) ?_
  rw [canon_apV, ← h, apV_flat]
  rfl
/-- The variables of both terms exchanged. -/
def swpV (σ : Int → List Int) (z : Int) : List Int := if -12 ≤ z then σ (z - 12) else σ (z + 12)
theorem swp_good (h : GoodV ss σ) : GoodV ss (swpV σ) := fun z hz => by
  unfold swpV
  split
  · exact h _ (by omega)
  · exact h _ (by omega)
theorem swp_one (h : ∀ z ∈ zb, -12 ≤ z) : apV (sft (swpV σ) 0) zb = apV (sft σ 12) zb := by
  unfold apV
  refine flat_same fun z hz => ?_
  have := h z hz
  unfold sft swpV
  rw [Int.sub_zero, if_pos (show -12 ≤ z from this)]
theorem swp_two (h : ∀ z ∈ za, -12 ≤ z) : apV (sft (swpV σ) 12) za = apV (sft σ 0) za := by
  unfold apV
  refine flat_same fun z hz => ?_
  by_cases hn : z < 0
  · rw [if_pos hn, if_pos hn]
    unfold sft swpV
    rw [Int.sub_zero, if_neg (by omega), show z - 12 + 12 = z by omega]
  · rw [if_neg hn, if_neg hn]
theorem meet_swap (ha : valOk ss za = true) (hb : valOk ss zb = true) : comZ ss 12 zb za = comZ ss 12 za zb ∧ hasZ ss 12 zb za = hasZ ss 12 za zb := by
  have a12 : ∀ z ∈ za, -12 ≤ z := fun z hz => ((valOk_term ha).2.2.1 z hz).1
  have b12 : ∀ z ∈ zb, -12 ≤ z := fun z hz => ((valOk_term hb).2.2.1 z hz).1
  rcases com_is (sh := 12) (by omega) ha hb with ⟨h1, h2, h3⟩ | ⟨h1, U, σ, s1, s2, s3, s4, s5, s6, s7⟩
  · rcases com_is (sh := 12) (by omega) hb ha with ⟨k1, k2, _⟩ | ⟨_, V, τ, t1, t2, t3, _⟩
    · rw [h1, h2, k1, k2]; exact ⟨rfl, rfl⟩
    · refine absurd ?_ (h3 _ (swp_good t1))
      rw [swp_one a12, swp_two b12, t3, t2]
  · rcases com_is (sh := 12) (by omega) hb ha with ⟨_, _, k3⟩ | ⟨k1, V, τ, t1, t2, t3, t4, t5, t6, t7⟩
    · refine absurd ?_ (k3 _ (swp_good s1))
      rw [swp_one b12, swp_two a12, s3, s2]
    · have e1 := s7 _ (swp_good t1) (by rw [swp_one a12, swp_two b12, t3, t2])
      rw [swp_one a12, t3] at e1
      have e2 := t7 _ (swp_good s1) (by rw [swp_one b12, swp_two a12, s3, s2])
      rw [swp_one b12, s3] at e2
      have hal := alike_of (swp_good s1) (swp_good t1) e1 e2
      refine ⟨?_, by rw [h1, k1]⟩
      rw [s4, t4, hal.1]
      by_cases h60 : U.length ≤ 60
      · rw [decide_eq_true h60, form_alike hal]
      · rw [decide_eq_false h60]
        unfold formZ
        rw [if_neg (fun h => by cases h.1), if_neg (fun h => by cases h.1)]
/-- Where there is a meet, it is valid, and an instance of both. -/
theorem com_ok {sh : Int} (hsh : 0 ≤ sh ∧ sh ≤ 1000) (ha : valOk ss za = true) (hb : valOk ss zb = true) (h0 : (comZ ss sh za zb).2 = 0) : ∃ U σ, GoodV ss σ ∧ apV (sft σ 0) za = U ∧ apV (sft σ sh) zb = U ∧ (comZ ss sh za zb).1 = canon U ∧ valOk ss (canon U) = true ∧
    ∀ τ, GoodV ss τ → apV (sft τ 0) za = apV (sft τ sh) zb → apV τ U = apV (sft τ 0) za := by
  rcases com_is hsh ha hb with ⟨_, h2, _⟩ | ⟨_, U, σ, s1, s2, s3, s4, s5, s6, s7⟩
  · rw [h2] at h0; cases h0
  · rw [s4] at h0
    unfold formZ at h0
    split at h0
    · rename_i hc
      refine ⟨U, σ, s1, s2, s3, ?_, canon_valid (valOk_sig ha) s5 s6 (of_decide_eq_true hc.1) hc.2, s7⟩
      rw [s4]
      unfold formZ
      rw [if_pos hc]
    · cases h0
theorem meet_ins (ha : valOk ss za = true) (hb : valOk ss zb = true) (h0 : (comZ ss 12 za zb).2 = 0) : valOk ss (comZ ss 12 za zb).1 = true ∧ insB ss za (comZ ss 12 za zb).1 = true ∧ insB ss zb (comZ ss 12 za zb).1 = true := by
  obtain ⟨U, σ, s1, s2, s3, s4, s5, _⟩ := com_ok (by omega) ha hb h0
  rw [s4]
  exact ⟨s5, ins_canonV (by omega) ha s5 s1 s2, ins_canonV (by omega) hb s5 s1 s3⟩
theorem sft_good {sh : Int} (h0 : 0 ≤ sh) (h : GoodV ss σ) : GoodV ss (sft σ sh) := fun z hz => h _ (by omega)
/-- What is an instance is alike the meet. -/
theorem meet_inst (h : insB ss za zb = true) : (comZ ss 12 za zb).2 = 0 ∧ (comZ ss 12 za zb).1 = canon zb := by
  obtain ⟨ha, hb⟩ := ins_valid h
  obtain ⟨τ, t1, t2, t3⟩ := ins_apart h (by rw [ins_refl]; exact hb)
  rcases com_is (sh := 12) (by omega) ha hb with ⟨_, _, h3⟩ | ⟨_, U, σ, s1, s2, s3, s4, s5, s6, s7⟩
  · exact absurd (t2.trans t3.symm) (h3 τ t1)
  · have e := s7 τ t1 (t2.trans t3.symm)
    rw [t2] at e
    have hal := alike_of (sft_good (sh := 12) (by omega) s1) t1 e s3
    have h60 := (valOk_term hb).2.1
    have h12 := seen_few fun z hz => ((valOk_term hb).2.2.1 z hz).1
    rw [s4, decide_eq_true (by omega), form_alike hal]
    unfold formZ
    rw [if_pos ⟨rfl, h12⟩]
    exact ⟨rfl, rfl⟩
theorem meet_not (h0 : (comZ ss 12 za zb).2 ≠ 0) : insB ss za zb = false := by
  cases h : insB ss za zb with
  | false => rfl
  | true => exact absurd (meet_inst h).1 h0
theorem termOk_of (h : valOk ss zb = true) : termOk ss zb = true := by
  simp only [valOk, Bool.and_eq_true] at h
  exact h.2
theorem meet_alike (ha : valOk ss za = true) (hb : valOk ss zb = true) (h0 : (comZ ss 12 za zb).2 = 0) : insB ss za zb = alikeOk ss (comZ ss 12 za zb).1 zb := by
  obtain ⟨v, i1, _⟩ := meet_ins ha hb h0
  cases h : insB ss za zb with
  | true =>
    have e := (meet_inst h).2
    rw [e] at v ⊢
    simp [alikeOk, v, termOk_of hb, canon_canon]
  | false =>
    cases h2 : alikeOk ss (comZ ss 12 za zb).1 zb with
    | false => rfl
    | true =>
      simp only [alikeOk, Bool.and_eq_true, decide_eq_true_eq] at h2
      have := ins_trans i1 (canon_ins v hb h2.2.2)
      rw [h] at this
      cases this
end

end Go.Proofs.Ytohhgghjpokdiaa

/- Meets and joins absorb each other: the plain mathematics. -/
namespace Go.Proofs.Ytohhgghjpokdiaa
open Go.RowKit

section
variable {ss : Sg} {za zb : List Int}
theorem nodup_leT : ∀ (l m : List Two), l.Nodup → (∀ x ∈ l, x ∈ m) → l.length ≤ m.length
  | [], m, _, _ => Nat.zero_le _
  | x :: l, m, hn, h => by
    rw [List.nodup_cons] at hn
    have hx := h x (List.mem_cons_self ..)
    have := nodup_leT l (m.erase x) hn.2 fun y hy => (List.mem_erase_of_ne (fun e : y = x => hn.1 (by rw [← e]; exact hy))).2 (h y (List.mem_cons_of_mem _ hy))
    rw [List.length_erase_of_mem hx] at this
    have := List.length_pos_of_mem hx
    simp only [List.length_cons]
    omega
theorem meet1_nodup {met : List Two} {x : Two} (h : met.Nodup) : (meet1 met x).Nodup := by
  unfold meet1
  split
  · exact h
  · rename_i hc
    rw [List.nodup_append]
    refine ⟨h, by simp, fun a ha b hb e => ?_⟩
    rw [List.mem_singleton] at hb
    subst hb
    subst e
    exact hc (List.contains_iff_mem.2 ha)
/-- The pairs that are met where the second one is an instance of the first. -/
theorem comF_inst {σ : Nat → List Int} (hσ : ∀ v, v < 12 → scan ss 1 (σ v) = some []) {a b : List Int} (h : Jnt ss a b) : ∀ (f : Nat) (met : List Two), a.length ≤ f → (∀ z ∈ a, -12 ≤ z) → apN σ a = b → met.Nodup → (∀ e ∈ met, ∃ v : Nat, v < 12 ∧ e = ([-(v : Int) - 1], σ v)) →
    (comF ss f a b met).2.Nodup ∧ ∀ e ∈ (comF ss f a b met).2, ∃ v : Nat, v < 12 ∧ e = ([-(v : Int) - 1], σ v) := by
  induction h with
  | nil =>
    intro f met _ _ _ hn hm
    cases f with
    | zero => exact ⟨hn, hm⟩
    | succ f => exact ⟨hn, hm⟩
  | same x a b h0 hj ih =>
    intro f met hf hz he hn hm
    cases f with
    | zero => simp at hf
    | succ f =>
      rw [comF_same a b met h0]
      rw [apN_cons, if_neg (by omega)] at he
      exact ih f met (by simpa using hf) (fun z hz' => hz z (List.mem_cons_of_mem _ hz')) (List.cons.inj he).2 hn hm
  | part x p q a b hp hq hd hj ih =>
    intro f met hf hz he hn hm
    cases f with
    | zero => simp at hf
    | succ f =>
      rw [comF_part a b met hp hq hd]
      have hx12 := hz x (List.mem_cons_self ..)
      rw [apN_cons] at he
      by_cases hx : x < 0
      · rw [if_pos hx] at he
        have hp0 : p = [] := by
          simp only [scan, arOf_neg ss hx, Nat.add_zero, scan_zero] at hp
          exact Option.some.inj hp
        subst hp0
        rw [List.nil_append] at he
        obtain ⟨e1, e2⟩ := scan_cancel (hσ _ (by omega)) hq he
        refine ih f _ (by simp at hf; omega) (fun z hz' => hz z (List.mem_cons_of_mem _ (by simpa using hz'))) e2 (meet1_nodup hn) (fun e he => ?_)
        unfold meet1 at he
        split at he
        · exact hm e he
        · rcases List.mem_append.1 he with he | he
          · exact hm e he
          · rw [List.mem_singleton] at he
            refine ⟨(-x - 1).toNat, by omega, ?_⟩
            rw [he, e1, show -(((-x - 1).toNat : Nat) : Int) - 1 = x by omega]
      · rw [if_neg hx] at he
        refine absurd ⟨by omega, ?_⟩ hd
        cases q with
        | nil => cases hq
        | cons y q =>
          have := (List.cons.inj he).1
          rw [this]
          rfl
/-- Where a term is an instance of another one, there is a join. -/
theorem join_free (h : insB ss za zb = true) : (joinZ ss za zb).2 = 0 := by
  obtain ⟨ha, hb⟩ := ins_valid h
  obtain ⟨σ, s1, s2⟩ := ins_out h
  obtain ⟨h1, h2⟩ := comF_inst (σ := σ) (fun v hv => (valOk_term (s1 v hv)).2.2.2) (jnt_valid ha hb) za.length [] (Nat.le_refl _) (fun z hz => ((valOk_term ha).2.2.1 z hz).1) s2 List.nodup_nil (fun e he => by simp at he)
  have hl := nodup_leT _ ((List.range 12).map fun v : Nat => ([-(v : Int) - 1], σ v)) h1 (fun e he => by
    obtain ⟨v, hv, rfl⟩ := h2 e he
    exact List.mem_map.2 ⟨v, List.mem_range.2 hv, rfl⟩)
  rw [List.length_map, List.length_range] at hl
  unfold joinZ
  rw [if_pos hl]
theorem joZ_good (ha : valOk ss za = true) (hb : valOk ss zb = true) : joZ ss za zb = joinZ ss za zb := by
  unfold joZ; rw [if_pos (by simp [ha, hb])]
/-- A term joined with its meet with another one is alike itself. -/
theorem absorb_one (ha : valOk ss za = true) (hb : valOk ss zb = true) (h : (comZ ss 12 za zb).2 = 0) : (joZ ss za (comZ ss 12 za zb).1).2 = 0 ∧ alikeOk ss (joZ ss za (comZ ss 12 za zb).1).1 za = true := by
  obtain ⟨v, i1, _⟩ := meet_ins ha hb h
  have h0 := join_free i1
  rw [joZ_good ha v]
  exact ⟨h0, by rw [← join_alike ha v h0]; exact i1⟩
/-- A term's meet with its join with another one is alike it. -/
theorem absorb_two (ha : valOk ss za = true) (hb : valOk ss zb = true) (h : (joZ ss za zb).2 = 0) : (comZ ss 12 za (joZ ss za zb).1).2 = 0 ∧ alikeOk ss (comZ ss 12 za (joZ ss za zb).1).1 za = true := by
  rw [joZ_good ha hb] at h ⊢
  have v := join_valid ha hb h
  obtain ⟨i1, _⟩ := join_ins ha hb h
  obtain ⟨m1, m2⟩ := meet_inst i1
  rw [(meet_swap v ha).1, m1, m2]
  refine ⟨rfl, ?_⟩
  have hc : valOk ss (canon za) = true := by
    have := (meet_ins v ha m1).1
    rwa [m2] at this
  simp [alikeOk, hc, termOk_of ha, canon_canon]
end

end Go.Proofs.Ytohhgghjpokdiaa

/- A list of terms made one by a function of two: the plain mathematics. -/
namespace Go.Proofs.Ytohhgghjpokdiaa
open Go.RowKit

/-- What a function of two makes of a result and the terms behind it. -/
def foldZ (g : List Int → List Int → List Int × Int) : List Int × Int → List (List Int) → List Int × Int
  | r, [] => r
  | r, x :: xs => if r.2 ≠ 0 then ([], r.2) else foldZ g (g r.1 x) xs
/-- With an error there is no term. -/
def ErrNil (g : List Int → List Int → List Int × Int) : Prop := ∀ a b, (g a b).2 ≠ 0 → (g a b).1 = []
theorem foldZ_err {g : List Int → List Int → List Int × Int} {r : List Int × Int} (h : r.2 ≠ 0) (h1 : r.1 = []) (xs : List (List Int)) : foldZ g r xs = ([], r.2) := by
  cases xs with
  | nil =>
    unfold foldZ
    rw [← h1]
  | cons x xs =>
    unfold foldZ
    rw [if_pos h]
theorem foldZ_step {g : List Int → List Int → List Int × Int} {t x : List Int} {xs : List (List Int)} : foldZ g (t, 0) (x :: xs) = foldZ g (g t x) xs := by
  show (if (0 : Int) ≠ 0 then _ else foldZ g (g t x) xs) = _
  rw [if_neg (by simp)]
/-- What is made of a whole list, and the error. -/
def allZ (g : List Int → List Int → List Int × Int) (ss : Sg) (tt : List (List Int)) : List Int × Int :=
  if (tt.all (valOk ss) && sigOk ss) = false then ([], 1) else if tt.length < 1 ∨ 60 < tt.length then ([], 7) else foldZ g (canon (tt.headD []), 0) tt.tail
section
variable {ss : Sg} {za zb : List Int}
theorem com_nil (ss : Sg) : ErrNil (comZ ss 12) := fun a b h => by
  cases hv : (valOk ss a && valOk ss b)
  · rw [(comZ_bad hv).1]
  · rw [Bool.and_eq_true] at hv
    rcases com_is (sh := 12) (by omega) hv.1 hv.2 with ⟨_, h2, _⟩ | ⟨_, U, σ, _, _, _, h4, _⟩
    · rw [h2]
    · rw [h4] at h ⊢
      unfold formZ at h ⊢
      split
      · rename_i hc
        rw [if_pos hc] at h
        exact absurd rfl h
      · rfl
theorem jo_nil (ss : Sg) : ErrNil (joZ ss) := fun a b h => by
  unfold joZ at h ⊢
  split
  · rename_i hv
    rw [if_pos hv] at h
    rw [joinZ_err h]
  · rfl
/-- The join of a result and the terms behind it has them all as instances, and is the least such. -/
theorem foldJ (ss : Sg) : ∀ (xs : List (List Int)) (t : List Int), valOk ss t = true → (∀ x ∈ xs, valOk ss x = true) → (foldZ (joZ ss) (t, 0) xs).2 = 0 →
    valOk ss (foldZ (joZ ss) (t, 0) xs).1 = true ∧ insB ss (foldZ (joZ ss) (t, 0) xs).1 t = true ∧ (∀ x ∈ xs, insB ss (foldZ (joZ ss) (t, 0) xs).1 x = true) ∧ ∀ c, insB ss c t = true → (∀ x ∈ xs, insB ss c x = true) → insB ss c (foldZ (joZ ss) (t, 0) xs).1 = true
  | [], t, ht, _, _ => ⟨ht, by rw [show (foldZ (joZ ss) (t, 0) []).1 = t from rfl, ins_refl]; exact ht, fun x hx => by simp at hx, fun c h _ => h⟩
  | x :: xs, t, ht, hx, h0 => by
    rw [foldZ_step] at h0 ⊢
    have hvx := hx x (List.mem_cons_self ..)
    have hj : (joZ ss t x).2 = 0 := by
      by_cases h : (joZ ss t x).2 = 0
      · exact h
      · rw [foldZ_err h (jo_nil ss t x h)] at h0
        exact absurd h0 h
    have e : joZ ss t x = ((joZ ss t x).1, 0) := by rw [← hj]
    rw [e] at h0 ⊢
    have hjz := joZ_good ht hvx
    rw [hjz] at hj
    have v := join_valid ht hvx hj
    obtain ⟨i1, i2⟩ := join_ins ht hvx hj
    rw [← hjz] at v i1 i2
    obtain ⟨k1, k2, k3, k4⟩ := foldJ ss xs _ v (fun y hy => hx y (List.mem_cons_of_mem _ hy)) h0
    refine ⟨k1, ins_trans k2 i1, fun y hy => ?_, fun c hc hall => k4 c ?_ (fun y hy => hall y (List.mem_cons_of_mem _ hy))⟩
    · rcases List.mem_cons.1 hy with rfl | hy
      · exact ins_trans k2 i2
      · exact k3 y hy
    · have := join_least hc (hall x (List.mem_cons_self ..)) hj
      rw [hjz]
      exact this
theorem foldJ_err (ss : Sg) : ∀ (xs : List (List Int)) (t : List Int), valOk ss t = true → (∀ x ∈ xs, valOk ss x = true) → (foldZ (joZ ss) (t, 0) xs).2 = 0 ∨ (foldZ (joZ ss) (t, 0) xs).2 = 4
  | [], t, _, _ => .inl rfl
  | x :: xs, t, ht, hx => by
    rw [foldZ_step]
    have hvx := hx x (List.mem_cons_self ..)
    have hjz := joZ_good ht hvx
    by_cases hj : (joinZ ss t x).2 = 0
    · have v := join_valid ht hvx hj
      rw [hjz, show joinZ ss t x = ((joinZ ss t x).1, 0) by rw [← hj]]
      exact foldJ_err ss xs _ v fun y hy => hx y (List.mem_cons_of_mem _ hy)
    · rw [hjz, joinZ_err hj, foldZ_err (by simp) rfl]
      exact .inr rfl
theorem canon_val {t : List Int} (h : valOk ss t = true) : valOk ss (canon t) = true := by
  have h12 := seen_few fun z hz => ((valOk_term h).2.2.1 z hz).1
  exact canon_valid (valOk_sig h) (valOk_term h).2.2.2 (fun z hz => ((valOk_term h).2.2.1 z hz).2) (valOk_term h).2.1 h12
theorem canon_both {t : List Int} (h : valOk ss t = true) : insB ss (canon t) t = true ∧ insB ss t (canon t) = true :=
  ⟨canon_ins (canon_val h) h (canon_canon t), canon_ins h (canon_val h) (canon_canon t).symm⟩
/-- What all is of a list of valid terms. -/
theorem allJ {tt : List (List Int)} (h : (allZ (joZ ss) ss tt).2 = 0) : 1 ≤ tt.length ∧ tt.length ≤ 60 ∧ (∀ x ∈ tt, valOk ss x = true) ∧ sigOk ss = true ∧ valOk ss (allZ (joZ ss) ss tt).1 = true ∧ (∀ x ∈ tt, insB ss (allZ (joZ ss) ss tt).1 x = true) ∧ ∀ c, (∀ x ∈ tt, insB ss c x = true) → insB ss c (allZ (joZ ss) ss tt).1 = true := by
  unfold allZ at h ⊢
  split at h
  · cases h
  · rename_i hv
    rw [if_neg hv]
    split at h
    · cases h
    · rename_i hl
      rw [if_neg hl]
      have hv' : (tt.all (valOk ss) && sigOk ss) = true := by simpa using hv
      rw [Bool.and_eq_true, List.all_eq_true] at hv'
      obtain ⟨hvt, hsg⟩ := hv'
      cases tt with
      | nil => simp at hl
      | cons a r =>
        simp only [List.headD_cons, List.tail_cons] at h ⊢
        have va := hvt a (List.mem_cons_self ..)
        obtain ⟨c1, c2⟩ := canon_both va
        obtain ⟨k1, k2, k3, k4⟩ := foldJ ss r _ (canon_val va) (fun y hy => hvt y (List.mem_cons_of_mem _ hy)) h
        refine ⟨by simp, by omega, hvt, hsg, k1, fun x hx => ?_, fun c hc => k4 c ?_ (fun y hy => hc y (List.mem_cons_of_mem _ hy))⟩
        · rcases List.mem_cons.1 hx with rfl | hx
          · exact ins_trans k2 c1
          · exact k3 x hx
        · exact ins_trans (hc a (List.mem_cons_self ..)) c2
/-- The join of all does not depend on the order: of the same terms in another order it is alike, or there is none. -/
theorem allJ_order {tt uu : List (List Int)} (h : (allZ (joZ ss) ss tt).2 = 0) (hl : uu.length = tt.length) (hm : ∀ x, x ∈ uu ↔ x ∈ tt) : (allZ (joZ ss) ss uu).2 = 4 ∨ ((allZ (joZ ss) ss uu).2 = 0 ∧ alikeOk ss (allZ (joZ ss) ss tt).1 (allZ (joZ ss) ss uu).1 = true) := by
  obtain ⟨h1, h60, hv, hsg, v, i1, i2⟩ := allJ h
  have e4 : (allZ (joZ ss) ss uu).2 = 0 ∨ (allZ (joZ ss) ss uu).2 = 4 := by
    have hvu : (uu.all (valOk ss) && sigOk ss) = true := by
      rw [Bool.and_eq_true, List.all_eq_true]
      exact ⟨fun x hx => hv x ((hm x).1 hx), hsg⟩
    unfold allZ
    rw [if_neg (by simp [hvu]), if_neg (by omega)]
    cases uu with
    | nil => simp at hl; omega
    | cons a r =>
      simp only [List.headD_cons, List.tail_cons]
      exact foldJ_err ss r _ (canon_val (hv a ((hm a).1 (List.mem_cons_self ..)))) fun y hy => hv y ((hm y).1 (List.mem_cons_of_mem _ hy))
  rcases e4 with e4 | e4
  · obtain ⟨_, _, _, _, v2, j1, j2⟩ := allJ e4
    refine .inr ⟨e4, ?_⟩
    rw [← ins_alike, j2 _ (fun x hx => i1 x ((hm x).1 hx)), i2 _ (fun x hx => j1 x ((hm x).2 hx))]
    rfl
  · exact .inl e4
end
end Go.Proofs.Ytohhgghjpokdiaa

/- Contracts: folded, MeetAll, JoinAll. -/
namespace Go.Proofs.Ytohhgghjpokdiaa
open Go.RowKit

/-- Canonical, with the capacity of what it returns. -/
theorem canonical_k (As At : Option Addr) (ns cs nt ct : Nat) (ss : Sg) (zs : List Int) (w : World) (hs : SigAt w w.heap.size As ns ss) (ht : IntsAt w w.heap.size At nt zs) (hv : valOk ss zs = true) :
    Calls Try.prog 112 #[.slice As ns cs, .slice At nt ct] w (RetK w (canon zs) 0) := by
  have C := Lib.hid (valid_any As At ns cs nt ct ss zs w hs ht)
  obtain ⟨h1, h2, h3, _⟩ := valOk_term hv
  have h4 := sigOk_len (valOk_sig hv)
  have hl := ht.len
  have C2 := Lib.hid (fun (w1 : World) (hB : Below w.heap.size w w1) => renamed_any At nt ct zs w1 ((ht.below hB).more hB.size) (by omega) (by omega) (fun z hz => by have := h3 z hz; omega))
  have HL := Lib.hid (show nt = (canon zs).length by rw [canon_length]; exact hl)
  have hm : (canon zs).length ≤ 1000000 := by rw [canon_length]; omega
  have hnt : nt ≤ 1000000 := by omega
  have HV := Lib.hid hv
  clear hv hs ht hl h3
  go_enter Try.func112, Try.ntmps112
  go_wp2_with (first
    | (go_at_call 36; refine C.out.mono ?_; rintro e w1 ⟨rfl, hB⟩; rw [HV.out]; have HB := Lib.hid hB)
    | (go_at_call 76; refine (C2.out _ HB.out).mono ?_; rintro e w2 ⟨rfl, hB2, hK⟩; have HB2 := Lib.hid hB2; have HK := Lib.hid hK))
  go_ret2
  exact ⟨_, _, _, rfl, IntsAt.of_blk HK.out HL.out hm, by omega, HB.out.trans (HB2.out.mono HB.out.size)⟩

set_option maxRecDepth 100000 in
set_option maxHeartbeats 4000000 in
theorem foldMeet_any (As At : Option Addr) (ns cs n c : Nat) (ss : Sg) (ls : List Hd) (tt : List (List Int)) (w : World) (hs : SigAt w w.heap.size As ns ss) (ht : TermsAt w w.heap.size At n ls tt) (hk : n ≤ c ∧ c ≤ 9223372036854775807) (hcap : ∀ x ∈ ls, capOk x) (hn : n ≤ 1000000) :
    Calls Try.prog 88 #[.slice As ns cs, .slice At n c, .func (.func 48) #[] #[]] w (RetK w (allZ (comZ ss 12) ss tt).1 (allZ (comZ ss 12) ss tt).2) := by
  have CV := Lib.hid (uvalid_any As At ns cs n c ss ls tt w hs ht hn)
  have hlen := ht.len
  unfold allZ
  cases hv : (tt.all (valOk ss) && sigOk ss)
  · rw [if_pos rfl]
    rw [hv] at CV
    clear hs ht hv hk hcap hlen
    go_enter Try.func88, Try.ntmps88
    go_wp2_with (go_at_call 58; refine CV.out.mono ?_; rintro e w1 ⟨rfl, hB1⟩; have HB1 := Lib.hid hB1; clear hB1)
    go_ret2
    exact ⟨none, 0, 0, rfl, IntsAt.nil _ _ 0, by omega, HB1.out⟩
  rw [if_neg (by simp)]
  rw [hv] at CV
  by_cases hl : tt.length < 1 ∨ 60 < tt.length
  · rw [if_pos hl]
    by_cases h1 : n < 1
    · have h1' : (n : Int) < 1 := by omega
      clear hs ht hv hk hcap hlen hl
      go_enter Try.func88, Try.ntmps88
      go_wp2_with (go_at_call 58; refine CV.out.mono ?_; rintro e w1 ⟨rfl, hB1⟩; have HB1 := Lib.hid hB1; clear hB1)
      go_ret2
      exact ⟨none, 0, 0, rfl, IntsAt.nil _ _ 0, by omega, HB1.out⟩
    · have h1' : ¬ (n : Int) < 1 := by omega
      have h2' : (60 : Int) < (n : Int) := by omega
      clear hs ht hv hk hcap hlen hl
      go_enter Try.func88, Try.ntmps88
      go_wp2_with (go_at_call 58; refine CV.out.mono ?_; rintro e w1 ⟨rfl, hB1⟩; have HB1 := Lib.hid hB1; clear hB1)
      go_ret2
      exact ⟨none, 0, 0, rfl, IntsAt.nil _ _ 0, by omega, HB1.out⟩
  rw [if_neg hl]
  have h1' : ¬ (n : Int) < 1 := by omega
  have h2' : ¬ (60 : Int) < (n : Int) := by omega
  have hn0 : 0 < n := by omega
  have hn60 : n ≤ 60 := by omega
  rw [Bool.and_eq_true, List.all_eq_true] at hv
  cases tt with
  | nil => simp at hl
  | cons a rest =>
  simp only [List.headD_cons, List.tail_cons]
  obtain ⟨b, off, A0, n0, c0, t0, rfl, hb, q1, q2, hI0⟩ := ht.cellAt hn0
  rw [Nat.add_zero] at q1
  simp only [List.getElem?_cons_zero, Option.some.injEq] at q2
  subst q2
  have CC := Lib.hid (fun V (h : Below w.heap.size w V) => canonical_k As A0 ns cs n0 c0 ss a V (hs.up h) (hI0.up h) (hv.1 a (List.mem_cons_self ..)))
  obtain ⟨R, hR⟩ : ∃ R, foldZ (comZ ss 12) (canon a, 0) rest = R := ⟨_, rfl⟩
  rw [hR]
  have HR := Lib.hid hR
  have HT := Lib.hid ht
  have HCAP := Lib.hid hcap
  have CP := Lib.hid (fun (V : World) (t x : List Int) (A1 A2 : Option Addr) (n1 n2 c1 c2 : Nat) (h : Below w.heap.size w V) (h1 : IntsAt V V.heap.size A1 n1 t) (h2 : IntsAt V V.heap.size A2 n2 x) (k1 : n1 ≤ c1 ∧ c1 ≤ 9223372036854775807) (k2 : n2 ≤ c2 ∧ c2 ≤ 9223372036854775807) => meet_all As A1 A2 ns cs n1 c1 n2 c2 ss t x V (hs.up h) h1 h2)
  have hrl : rest.length + 1 = n := by simpa using hlen.symm
  have HRL := Lib.hid hrl
  have hc1 : 1 ≤ c := by omega
  have hc1' : (1 : Int) ≤ (c : Int) := by omega
  obtain ⟨hk1, hk2⟩ := hk
  clear hs ht hv hcap hlen hl hR hI0
  clear hrl hn0 hc1'
  have hbl := hb
  by_cases h1c : c = 1
  · subst h1c
    have hn1 : n = 1 := by omega
    subst hn1
    have hrn : rest = [] := by have := HRL.out; cases rest with
      | nil => rfl
      | cons _ _ => simp at this
    clear hk1 hk2 hn hn60 hc1
    go_enter Try.func88, Try.ntmps88
    go_wp2_with (first
      | (go_at_call 58; refine CV.out.mono ?_; rintro e w1 ⟨rfl, hB1⟩; have q1b := (hB1.cell (p := ⟨b, off, none⟩) hbl).trans q1; have HB1 := Lib.hid hB1; clear hB1)
      | (go_at_call 112; refine (CC.out _ HB1.out).mono ?_; rintro e w2 ⟨A2, n2, c2, rfl, hI2, hk2, hB2⟩; have HB2 := Lib.hid (below_then HB1.out hB2); have HI2 := Lib.hid hI2; have HK2 := Lib.hid hk2; clear hI2 hB2 hk2))
    go_loopw [8, 9, 35] (fun s8 s9 i wr => s8 = .slice A2 n2 c2 ∧ s9 = .int .i64 0 ∧ i = .int .i64 0 ∧ wr = w2) (fun _ _ _ _ => 0)
    case atStart => exact ⟨rfl, rfl, rfl, rfl⟩
    case round =>
      obtain ⟨rfl, rfl, rfl, rfl⟩ := hrel
      go_wp2
      go_ret2
      rw [← HR.out, hrn]
      exact ⟨A2, n2, c2, rfl, HI2.out, HK2.out, HB2.out⟩
  · have h1c' : 1 ≠ c := fun e => h1c e.symm
    go_enter Try.func88, Try.ntmps88
    go_wp2_with (first
      | (go_at_call 58; refine CV.out.mono ?_; rintro e w1 ⟨rfl, hB1⟩; have q1b := (hB1.cell (p := ⟨b, off, none⟩) hbl).trans q1; have HB1 := Lib.hid hB1; clear hB1)
      | (go_at_call 112; refine (CC.out _ HB1.out).mono ?_; rintro e w2 ⟨A2, n2, c2, rfl, hI2, hk2, hB2⟩; have HB2 := Lib.hid (below_then HB1.out hB2); have HI2 := Lib.hid hI2; have HK2 := Lib.hid hk2; clear hI2 hB2 hk2))
    go_loopw [8, 9, 35] (fun s8 s9 i wr => ∃ (k : Nat) (A' : Option Addr) (n' c' : Nat) (t : List Int) (er : Int), k ≤ n - 1 ∧ i = .int .i64 k ∧ s8 = .slice A' n' c' ∧ s9 = .int .i64 er ∧ IntsAt wr wr.heap.size A' n' t ∧ (n' ≤ c' ∧ c' ≤ 9223372036854775807) ∧ Below w.heap.size w wr ∧ Hid (foldZ (comZ ss 12) (t, er) (rest.drop k) = R)) (fun _ _ i _ => n - 1 - (intOf i).toNat)
    case atStart => exact ⟨0, A2, n2, c2, _, 0, Nat.zero_le _, rfl, rfl, rfl, HI2.out, HK2.out, HB2.out, Lib.hid (by rw [List.drop_zero]; exact HR.out)⟩
    case round =>
      obtain ⟨k, A', n', c', t, er, hk, rfl, rfl, rfl, hI, hkc, hB, HF⟩ := hrel
      have HI := Lib.hid hI
      have HKC := Lib.hid hkc
      have HBr := Lib.hid hB
      by_cases hlt : k < n - 1
      · have hlt' : (k : Int) < ((n - 1 : Nat) : Int) := by omega
        have hk0 : (0 : Int) ≤ (k : Int) := by omega
        have hks : k < rest.length := by have := HRL.out; omega
        have hdr := List.drop_eq_getElem_cons hks
        obtain ⟨b', off', A3, n3, c3, x, e3, hb3, r1, r2, hI3⟩ := HT.out.cellAt (k := k + 1) (by omega)
        cases e3
        have hx : rest[k] = x := by
          rw [List.getElem?_cons_succ, List.getElem?_eq_getElem hks] at r2
          exact Option.some.inj r2
        have hcap3 : n3 ≤ c3 ∧ c3 ≤ 9223372036854775807 := by
          obtain ⟨b4, off4, e4, _, hcells⟩ := HT.out.hds.mem (by omega)
          cases e4
          have hl : k + 1 < ls.length := by have := HT.out.hds.len; omega
          have := hcells (k + 1) hl
          rw [r1] at this
          have h2 := HCAP.out _ (List.getElem_mem hl)
          injection this with this
          injection this with ha hn hc
          unfold capOk at h2
          rw [← hn, ← hc] at h2
          exact h2
        have r1b : wr.cell? ⟨b, off + 1 + k, none⟩ = some (.slice A3 n3 c3) := by
          rw [show off + 1 + k = off + (k + 1) by omega]
          exact (hB.cell (p := ⟨b, off + (k + 1), none⟩) hb3).trans r1
        rw [hdr, hx] at HF
        have CP2 := Lib.hid (CP.out wr t x A' A3 n' n3 c' c3 hB hI (hI3.up hB) hkc hcap3)
        by_cases he : er = 0
        · subst he
          rw [foldZ_step] at HF
          obtain ⟨Q, hQ⟩ : ∃ Q, comZ ss 12 t x = Q := ⟨_, rfl⟩
          rw [hQ] at CP2 HF
          obtain ⟨t2, e2⟩ := Q
          simp only at CP2
          clear hI hkc hB hdr hb3 r1 r2 hI3 hx hcap3 hQ hks
          go_wp2_with (go_at_call 48; refine CP2.out.mono ?_; rintro e w4 ⟨A4, n4, c4, rfl, hI4, hk4, hB4⟩; have HI4 := Lib.hid hI4; have HK4 := Lib.hid hk4; have HB4 := Lib.hid (below_then HBr.out hB4); clear hI4 hB4 hk4)
          go_roundw
          case rel => exact ⟨k + 1, A4, n4, c4, t2, e2, by omega, by go_num, rfl, rfl, HI4.out, HK4.out, HB4.out, HF⟩
          case measure => simp [intOf]; omega
        · have hne : (er != 0) = true := by simpa using he
          have HE := Lib.hid (show R = ([], er) by rw [← HF.out]; show (if er ≠ 0 then _ else _) = _; rw [if_pos he])
          clear hI hkc hB hdr hb3 r1 r2 hI3 hx hcap3 hks CP2 HF he
          go_wp2
          go_ret2
          rw [HE.out]
          exact ⟨none, 0, 0, rfl, IntsAt.nil _ _ 0, by omega, HBr.out⟩
      · have hlt' : ¬ (k : Int) < ((n - 1 : Nat) : Int) := by omega
        have HE := Lib.hid (show (t, er) = R by rw [← HF.out, List.drop_of_length_le (by have := HRL.out; omega)]; rfl)
        clear hI hkc hB HF hlt
        go_wp2
        go_ret2
        rw [← HE.out]
        exact ⟨A', n', c', rfl, HI.out, HKC.out, HBr.out⟩

set_option maxRecDepth 100000 in
set_option maxHeartbeats 4000000 in
theorem foldJoin_any (As At : Option Addr) (ns cs n c : Nat) (ss : Sg) (ls : List Hd) (tt : List (List Int)) (w : World) (hs : SigAt w w.heap.size As ns ss) (ht : TermsAt w w.heap.size At n ls tt) (hk : n ≤ c ∧ c ≤ 9223372036854775807) (hcap : ∀ x ∈ ls, capOk x) (hn : n ≤ 1000000) :
    Calls Try.prog 88 #[.slice As ns cs, .slice At n c, .func (.func 52) #[] #[]] w (RetK w (allZ (joZ ss) ss tt).1 (allZ (joZ ss) ss tt).2) := by
  have CV := Lib.hid (uvalid_any As At ns cs n c ss ls tt w hs ht hn)
  have hlen := ht.len
  unfold allZ
  cases hv : (tt.all (valOk ss) && sigOk ss)
  · rw [if_pos rfl]
    rw [hv] at CV
    clear hs ht hv hk hcap hlen
    go_enter Try.func88, Try.ntmps88
    go_wp2_with (go_at_call 58; refine CV.out.mono ?_; rintro e w1 ⟨rfl, hB1⟩; have HB1 := Lib.hid hB1; clear hB1)
    go_ret2
    exact ⟨none, 0, 0, rfl, IntsAt.nil _ _ 0, by omega, HB1.out⟩
  rw [if_neg (by simp)]
  rw [hv] at CV
  by_cases hl : tt.length < 1 ∨ 60 < tt.length
  · rw [if_pos hl]
    by_cases h1 : n < 1
    · have h1' : (n : Int) < 1 := by omega
      clear hs ht hv hk hcap hlen hl
      go_enter Try.func88, Try.ntmps88
      go_wp2_with (go_at_call 58; refine CV.out.mono ?_; rintro e w1 ⟨rfl, hB1⟩; have HB1 := Lib.hid hB1; clear hB1)
      go_ret2
      exact ⟨none, 0, 0, rfl, IntsAt.nil _ _ 0, by omega, HB1.out⟩
    · have h1' : ¬ (n : Int) < 1 := by omega
      have h2' : (60 : Int) < (n : Int) := by omega
      clear hs ht hv hk hcap hlen hl
      go_enter Try.func88, Try.ntmps88
      go_wp2_with (go_at_call 58; refine CV.out.mono ?_; rintro e w1 ⟨rfl, hB1⟩; have HB1 := Lib.hid hB1; clear hB1)
      go_ret2
      exact ⟨none, 0, 0, rfl, IntsAt.nil _ _ 0, by omega, HB1.out⟩
  rw [if_neg hl]
  have h1' : ¬ (n : Int) < 1 := by omega
  have h2' : ¬ (60 : Int) < (n : Int) := by omega
  have hn0 : 0 < n := by omega
  have hn60 : n ≤ 60 := by omega
  rw [Bool.and_eq_true, List.all_eq_true] at hv
  cases tt with
  | nil => simp at hl
  | cons a rest =>
  simp only [List.headD_cons, List.tail_cons]
  obtain ⟨b, off, A0, n0, c0, t0, rfl, hb, q1, q2, hI0⟩ := ht.cellAt hn0
  rw [Nat.add_zero] at q1
  simp only [List.getElem?_cons_zero, Option.some.injEq] at q2
  subst q2
  have CC := Lib.hid (fun V (h : Below w.heap.size w V) => canonical_k As A0 ns cs n0 c0 ss a V (hs.up h) (hI0.up h) (hv.1 a (List.mem_cons_self ..)))
  obtain ⟨R, hR⟩ : ∃ R, foldZ (joZ ss) (canon a, 0) rest = R := ⟨_, rfl⟩
  rw [hR]
  have HR := Lib.hid hR
  have HT := Lib.hid ht
  have HCAP := Lib.hid hcap
  have CP := Lib.hid (fun (V : World) (t x : List Int) (A1 A2 : Option Addr) (n1 n2 c1 c2 : Nat) (h : Below w.heap.size w V) (h1 : IntsAt V V.heap.size A1 n1 t) (h2 : IntsAt V V.heap.size A2 n2 x) (k1 : n1 ≤ c1 ∧ c1 ≤ 9223372036854775807) (k2 : n2 ≤ c2 ∧ c2 ≤ 9223372036854775807) => join_allk As A1 A2 ns cs n1 c1 n2 c2 ss t x V (hs.up h) h1 h2 k1.1 k1.2 k2.1 k2.2)
  have hrl : rest.length + 1 = n := by simpa using hlen.symm
  have HRL := Lib.hid hrl
  have hc1 : 1 ≤ c := by omega
  have hc1' : (1 : Int) ≤ (c : Int) := by omega
  obtain ⟨hk1, hk2⟩ := hk
  clear hs ht hv hcap hlen hl hR hI0
  clear hrl hn0 hc1'
  have hbl := hb
  by_cases h1c : c = 1
  · subst h1c
    have hn1 : n = 1 := by omega
    subst hn1
    have hrn : rest = [] := by have := HRL.out; cases rest with
      | nil => rfl
      | cons _ _ => simp at this
    clear hk1 hk2 hn hn60 hc1
    go_enter Try.func88, Try.ntmps88
    go_wp2_with (first
      | (go_at_call 58; refine CV.out.mono ?_; rintro e w1 ⟨rfl, hB1⟩; have q1b := (hB1.cell (p := ⟨b, off, none⟩) hbl).trans q1; have HB1 := Lib.hid hB1; clear hB1)
      | (go_at_call 112; refine (CC.out _ HB1.out).mono ?_; rintro e w2 ⟨A2, n2, c2, rfl, hI2, hk2, hB2⟩; have HB2 := Lib.hid (below_then HB1.out hB2); have HI2 := Lib.hid hI2; have HK2 := Lib.hid hk2; clear hI2 hB2 hk2))
    go_loopw [8, 9, 35] (fun s8 s9 i wr => s8 = .slice A2 n2 c2 ∧ s9 = .int .i64 0 ∧ i = .int .i64 0 ∧ wr = w2) (fun _ _ _ _ => 0)
    case atStart => exact ⟨rfl, rfl, rfl, rfl⟩
    case round =>
      obtain ⟨rfl, rfl, rfl, rfl⟩ := hrel
      go_wp2
      go_ret2
      rw [← HR.out, hrn]
      exact ⟨A2, n2, c2, rfl, HI2.out, HK2.out, HB2.out⟩
  · have h1c' : 1 ≠ c := fun e => h1c e.symm
    go_enter Try.func88, Try.ntmps88
    go_wp2_with (first
      | (go_at_call 58; refine CV.out.mono ?_; rintro e w1 ⟨rfl, hB1⟩; have q1b := (hB1.cell (p := ⟨b, off, none⟩) hbl).trans q1; have HB1 := Lib.hid hB1; clear hB1)
      | (go_at_call 112; refine (CC.out _ HB1.out).mono ?_; rintro e w2 ⟨A2, n2, c2, rfl, hI2, hk2, hB2⟩; have HB2 := Lib.hid (below_then HB1.out hB2); have HI2 := Lib.hid hI2; have HK2 := Lib.hid hk2; clear hI2 hB2 hk2))
    go_loopw [8, 9, 35] (fun s8 s9 i wr => ∃ (k : Nat) (A' : Option Addr) (n' c' : Nat) (t : List Int) (er : Int), k ≤ n - 1 ∧ i = .int .i64 k ∧ s8 = .slice A' n' c' ∧ s9 = .int .i64 er ∧ IntsAt wr wr.heap.size A' n' t ∧ (n' ≤ c' ∧ c' ≤ 9223372036854775807) ∧ Below w.heap.size w wr ∧ Hid (foldZ (joZ ss) (t, er) (rest.drop k) = R)) (fun _ _ i _ => n - 1 - (intOf i).toNat)
    case atStart => exact ⟨0, A2, n2, c2, _, 0, Nat.zero_le _, rfl, rfl, rfl, HI2.out, HK2.out, HB2.out, Lib.hid (by rw [List.drop_zero]; exact HR.out)⟩
    case round =>
      obtain ⟨k, A', n', c', t, er, hk, rfl, rfl, rfl, hI, hkc, hB, HF⟩ := hrel
      have HI := Lib.hid hI
      have HKC := Lib.hid hkc
      have HBr := Lib.hid hB
      by_cases hlt : k < n - 1
      · have hlt' : (k : Int) < ((n - 1 : Nat) : Int) := by omega
        have hk0 : (0 : Int) ≤ (k : Int) := by omega
        have hks : k < rest.length := by have := HRL.out; omega
        have hdr := List.drop_eq_getElem_cons hks
        obtain ⟨b', off', A3, n3, c3, x, e3, hb3, r1, r2, hI3⟩ := HT.out.cellAt (k := k + 1) (by omega)
        cases e3
        have hx : rest[k] = x := by
          rw [List.getElem?_cons_succ, List.getElem?_eq_getElem hks] at r2
          exact Option.some.inj r2
        have hcap3 : n3 ≤ c3 ∧ c3 ≤ 9223372036854775807 := by
          obtain ⟨b4, off4, e4, _, hcells⟩ := HT.out.hds.mem (by omega)
          cases e4
          have hl : k + 1 < ls.length := by have := HT.out.hds.len; omega
          have := hcells (k + 1) hl
          rw [r1] at this
          have h2 := HCAP.out _ (List.getElem_mem hl)
          injection this with this
          injection this with ha hn hc
          unfold capOk at h2
          rw [← hn, ← hc] at h2
          exact h2
        have r1b : wr.cell? ⟨b, off + 1 + k, none⟩ = some (.slice A3 n3 c3) := by
          rw [show off + 1 + k = off + (k + 1) by omega]
          exact (hB.cell (p := ⟨b, off + (k + 1), none⟩) hb3).trans r1
        rw [hdr, hx] at HF
        have CP2 := Lib.hid (CP.out wr t x A' A3 n' n3 c' c3 hB hI (hI3.up hB) hkc hcap3)
        by_cases he : er = 0
        · subst he
          rw [foldZ_step] at HF
          obtain ⟨Q, hQ⟩ : ∃ Q, joZ ss t x = Q := ⟨_, rfl⟩
          rw [hQ] at CP2 HF
          obtain ⟨t2, e2⟩ := Q
          simp only at CP2
          clear hI hkc hB hdr hb3 r1 r2 hI3 hx hcap3 hQ hks
          go_wp2_with (go_at_call 52; refine CP2.out.mono ?_; rintro e w4 ⟨A4, n4, c4, rfl, hI4, hk4, hB4⟩; have HI4 := Lib.hid hI4; have HK4 := Lib.hid hk4; have HB4 := Lib.hid (below_then HBr.out hB4); clear hI4 hB4 hk4)
          go_roundw
          case rel => exact ⟨k + 1, A4, n4, c4, t2, e2, by omega, by go_num, rfl, rfl, HI4.out, HK4.out, HB4.out, HF⟩
          case measure => simp [intOf]; omega
        · have hne : (er != 0) = true := by simpa using he
          have HE := Lib.hid (show R = ([], er) by rw [← HF.out]; show (if er ≠ 0 then _ else _) = _; rw [if_pos he])
          clear hI hkc hB hdr hb3 r1 r2 hI3 hx hcap3 hks CP2 HF he
          go_wp2
          go_ret2
          rw [HE.out]
          exact ⟨none, 0, 0, rfl, IntsAt.nil _ _ 0, by omega, HBr.out⟩
      · have hlt' : ¬ (k : Int) < ((n - 1 : Nat) : Int) := by omega
        have HE := Lib.hid (show (t, er) = R by rw [← HF.out, List.drop_of_length_le (by have := HRL.out; omega)]; rfl)
        clear hI hkc hB HF hlt
        go_wp2
        go_ret2
        rw [← HE.out]
        exact ⟨A', n', c', rfl, HI.out, HKC.out, HBr.out⟩

set_option maxRecDepth 100000 in
set_option maxHeartbeats 4000000 in
theorem meetAll_any (As At : Option Addr) (ns cs n c : Nat) (ss : Sg) (ls : List Hd) (tt : List (List Int)) (w : World) (hs : SigAt w w.heap.size As ns ss) (ht : TermsAt w w.heap.size At n ls tt) (hk : n ≤ c ∧ c ≤ 9223372036854775807) (hcap : ∀ x ∈ ls, capOk x) (hn : n ≤ 1000000) :
    Calls Try.prog 54 #[.slice As ns cs, .slice At n c] w (RetK w (allZ (comZ ss 12) ss tt).1 (allZ (comZ ss 12) ss tt).2) := by
  have C := Lib.hid (foldMeet_any As At ns cs n c ss ls tt w hs ht hk hcap hn)
  obtain ⟨R, hR⟩ : ∃ R, allZ (comZ ss 12) ss tt = R := ⟨_, rfl⟩
  rw [hR] at C ⊢
  clear hs ht hk hcap hn hR
  go_enter Try.func54, Try.ntmps54
  go_wp2_with (go_at_call 88; refine C.out.mono ?_; rintro e w4 ⟨A, n, c, rfl, hI, hk, hB4⟩; have HK := Lib.hid hk; clear hk; have HI := Lib.hid hI; have HB4 := Lib.hid hB4; clear hI hB4)
  go_ret2
  exact ⟨A, n, c, rfl, HI.out, HK.out, HB4.out⟩

set_option maxRecDepth 100000 in
set_option maxHeartbeats 4000000 in
theorem joinAll_any (As At : Option Addr) (ns cs n c : Nat) (ss : Sg) (ls : List Hd) (tt : List (List Int)) (w : World) (hs : SigAt w w.heap.size As ns ss) (ht : TermsAt w w.heap.size At n ls tt) (hk : n ≤ c ∧ c ≤ 9223372036854775807) (hcap : ∀ x ∈ ls, capOk x) (hn : n ≤ 1000000) :
    Calls Try.prog 56 #[.slice As ns cs, .slice At n c] w (RetK w (allZ (joZ ss) ss tt).1 (allZ (joZ ss) ss tt).2) := by
  have C := Lib.hid (foldJoin_any As At ns cs n c ss ls tt w hs ht hk hcap hn)
  obtain ⟨R, hR⟩ : ∃ R, allZ (joZ ss) ss tt = R := ⟨_, rfl⟩
  rw [hR] at C ⊢
  clear hs ht hk hcap hn hR
  go_enter Try.func56, Try.ntmps56
  go_wp2_with (go_at_call 88; refine C.out.mono ?_; rintro e w4 ⟨A, n, c, rfl, hI, hk, hB4⟩; have HK := Lib.hid hk; clear hk; have HI := Lib.hid hI; have HB4 := Lib.hid hB4; clear hI hB4)
  go_ret2
  exact ⟨A, n, c, rfl, HI.out, HK.out, HB4.out⟩

end Go.Proofs.Ytohhgghjpokdiaa

/- The program's unification and the reference's solver find the same: the plain mathematics. -/
namespace Go.Proofs.Ytohhgghjpokdiaa
open Go.RowKit

section
variable {ss : Sg}
/-- The program finds what the reference's solver finds. -/
theorem com_same {sh : Int} {za zb zc : List Int} (hsh : 0 ≤ sh ∧ sh ≤ 1000) (hc : ∀ τ, apV τ zc = apV (sft τ sh) zb) (ha : valOk ss za = true) (hb : valOk ss zb = true) (ga : GoodS ss za) (gc : GoodS ss zc) :
    ∃ m bo T' s r, solF ss m za zc noTo = some (bo, T') ∧ hasZ ss sh za zb = bo ∧ (bo = true → WholeIs T' za s r) ∧ comZ ss sh za zb = if bo = true then formZ (decide (s ≤ 60)) r else ([], 8) := by
  obtain ⟨m, bo, T', ρ', hsol, hT, hl, hA, hyes, hno⟩ := sol_top ga gc
  have hns := sigOk_len (valOk_sig ha)
  have heqs : ∀ τ, (apV (sft τ 0) za = apV (sft τ sh) zb ↔ apV τ za = apV τ zc) := fun τ => by rw [hc, apV_sft0]
  rcases com_is hsh ha hb with ⟨h1, h2, h3⟩ | ⟨h1, U, σ, s1, s2, s3, s4, s5, s6, s7⟩
  · cases bo with
    | true =>
      have hg := im_good hA hl hT
      exact absurd ((heqs _).2 ((hyes rfl _ hg).1 (im_resp hA hl))) (h3 _ hg)
    | false => exact ⟨m, false, T', 0, [], hsol, h1, fun h => (by cases h), by rw [h2]; simp⟩
  · cases bo with
    | false => exact absurd ((heqs σ).1 (s2.trans s3.symm)) (hno rfl σ s1)
    | true =>
      refine ⟨m, true, T', _, _, hsol, h1, fun _ => whole_is hA hl hT (by omega) ga, ?_⟩
      rw [if_pos rfl, s4]
      have hg := im_good hA hl hT
      have hU : apV (imT T') U = whT T' za := by
        rw [s7 _ hg ((heqs _).2 ((hyes rfl _ hg).1 (im_resp hA hl))), apV_sft0, whT_apV hA hl]
      have hV : apV σ (whT T' za) = U := by
        rw [wh_resp hA hl ((hyes rfl σ s1).2 ((heqs σ).1 (s2.trans s3.symm))), ← s2, apV_sft0]
      have hal := alike_of s1 hg hU hV
      by_cases h60 : U.length ≤ 60
      · rw [decide_eq_true h60, decide_eq_true (by omega), form_alike hal]
      · rw [decide_eq_false h60, decide_eq_false (by omega)]
        unfold formZ
        rw [if_neg (fun h => by cases h.1), if_neg (fun h => by cases h.1)]
end

end Go.Proofs.Ytohhgghjpokdiaa

/- The literal of a new solver: 25 cells behind a name. -/
namespace Go.Proofs.Ytohhgghjpokdiaa
open Go.RowKit Go.Great

/-- The cells of a new solver. -/
def solCs (As : Option Addr) (ns cs : Nat) : Array Value := (((As, ns, cs) :: List.replicate 24 (none, 0, 0)).map fun h : Hd => Value.slice h.1 h.2.1 h.2.2).toArray
theorem sol_built (As : Option Addr) (ns cs : Nat) : Program.built Try.prog 97 [(0, Value.slice As ns cs)] = some (solCs As ns cs) := by kernel_rfl
theorem sol_zero : (Try.prog.info? 97).map (fun i => (i.zero, i.size)) = some (some (.agg (solCs none 0 0)), 25) := by kernel_rfl
theorem sol_alloc (w : World) (ρ : Operand → Value) (o : Oper) (h : o.op = .alloc 97) : (execOp ρ o).run Try.prog w = .ok (.value (.pointer (some ⟨w.heap.size, 0, none⟩))) (w.alloc (.cells (solCs none 0 0) 97)) := by
  unfold execOp
  rw [h]
  kernel_rfl
theorem sol_store (o : Oper) {ops : Array Oper} {rest : List Oper} {a : Act} {w : World} {Q : Exit → Act → World → Prop} {k j : Nat} (As : Option Addr) (ns cs : Nat) (hg : o.guard = none) (h : o.op = .store 97 (.tmp k) (.tmp j)) (hd : o.dst = none)
    (hk : a.eval (.tmp k) = .pointer (some ⟨w.heap.size, 0, none⟩)) (hj : a.eval (.tmp j) = .agg (solCs As ns cs)) (hq : wpList Try.prog ops Q rest a (w.alloc (.cells (solCs As ns cs) 97))) :
    wpList Try.prog ops Q (o :: rest) a (w.alloc (.cells (solCs none 0 0) 97)) := by
  refine wpList_store_row hg _ _ _ h w.heap.size (solCs As ns cs) hk hj 97 (solCs none 0 0) (heap_alloc_last w _) ?_ ?_ ?_ ?_
  · have := sol_zero
    cases e : Try.prog.info? 97 with
    | none => rw [e] at this; cases this
    | some i =>
      rw [e] at this
      simp only [Option.map_some, Option.some.injEq, Prod.mk.injEq] at this
      rw [Option.map_some, this.2]
      simp [solCs]
  · simp [solCs]
  · simp [solCs, Value.oneCell']
  · rw [World.setRow_alloc_new, hd]
    exact hq
theorem sol_lit {id i j k : Nat} {p1 p2 p3 p4 : String} {t1 t2 t3 t4 : TypeId} {f1 f2 f3 f4 : Array Edge} {a : Act} {w : World} {Q : Exit → Act → World → Prop} (As : Option Addr) (ns cs : Nat)
    (h0 : a.eval (.tmp 0) = .slice As ns cs) (hi : i < a.tmps.size) (hj : j < a.tmps.size) (hk : k < a.tmps.size) (hjk : j ≠ k)
    (h : Q .normal (((a.put (some i) (.slice As ns cs)).put (some j) (.agg (solCs As ns cs))).put (some k) (.pointer (some ⟨w.heap.size, 0, none⟩))) (w.alloc (.cells (solCs As ns cs) 97))) :
    (Code.region id #[{ dst := some i, op := .move (.tmp 0), type := t1, pos := p1, after := f1, guard := none }, { dst := some j, op := .build 97 #[(0, .tmp i)], type := t2, pos := p2, after := f2, guard := none },
      { dst := some k, op := .alloc 97, type := t3, pos := p3, after := f3, guard := none }, { dst := none, op := .store 97 (.tmp k) (.tmp j), type := t4, pos := p4, after := f4, guard := none }] false).wp Try.prog Q a w := by
  refine wp_region_lit (l := [_, _, _, _]) ?_
  refine wpList_plain rfl fun K hK => Go.BigFrame.wp_move _ rfl (hK _ _ ?_)
  rw [h0]
  show wpList Try.prog _ _ _ (a.put (some i) (.slice As ns cs)) w
  refine wpList_buildTo rfl _ _ rfl (some j) rfl (solCs As ns cs) ?_ ?_
  · simp only [List.map_toArray, List.map_cons, List.map_nil]
    rw [Act.eval_put_same _ _ _ hi]
    exact sol_built As ns cs
  refine wpList_allocTo rfl (some k) rfl _ _ (sol_alloc w _ _ rfl) ?_
  refine sol_store _ (k := k) (j := j) As ns cs rfl rfl rfl (Act.eval_put_same _ _ _ (by simpa [Act.size_put] using hk)) ?_ ?_
  · rw [Act.eval_put_ne _ _ _ _ hjk.symm, Act.eval_put_same _ _ _ (by simpa [Act.size_put] using hj)]
  · exact wpList_nil h
/-- The box of a new solver. -/
theorem sol_boxed (w : World) (As : Option Addr) (ns cs : Nat) : SolAt (w.alloc (.cells (solCs As ns cs) 97)) w.heap.size As ns cs noTo := SolAt.new (Blk.new w _ _)

end Go.Proofs.Ytohhgghjpokdiaa

/- Contracts: the reference's Unifiable, Meets. -/
namespace Go.Proofs.Ytohhgghjpokdiaa
open Go.RowKit

theorem good_val {ss : Sg} {z : List Int} (h : valOk ss z = true) : GoodS ss z := by
  obtain ⟨h1, h2, h3, h4⟩ := valOk_term h
  exact ⟨h4, fun x hx => (h3 x hx).2, fun x hx => by have := (h3 x hx).1; omega, h2⟩
theorem scan_apart {ss : Sg} : ∀ (l : List Int) (n : Nat) (r : List Int), scan ss n l = some r → scan ss n (apartL l) = some (apartL r)
  | l, 0, r, h => by rw [scan_zero] at h ⊢; cases h; rfl
  | [], n + 1, r, h => by cases h
  | z :: l, n + 1, r, h => by
    have e : arOf ss (if z < 0 then z - 12 else z) = arOf ss z := by
      split
      · rename_i hz; rw [arOf_neg ss hz, arOf_neg ss (by omega)]
      · rfl
    simp only [apartL, List.map_cons, scan] at h ⊢
    rw [e]
    exact scan_apart l _ r h
theorem good_apart {ss : Sg} {z : List Int} (h : valOk ss z = true) : GoodS ss (apartL z) := by
  obtain ⟨h1, h2, h3, h4⟩ := valOk_term h
  have hns := (sigOk_len (valOk_sig h)).1
  refine ⟨scan_apart z 1 [] h4, fun x hx => ?_, fun x hx => ?_, by rw [apartL_len]; exact h2⟩
  · obtain ⟨y, hy, rfl⟩ := List.mem_map.1 hx
    have := h3 y hy
    split <;> omega
  · obtain ⟨y, hy, rfl⟩ := List.mem_map.1 hx
    have := h3 y hy
    split <;> omega
set_option maxRecDepth 100000 in
set_option maxHeartbeats 4000000 in
theorem refUnifiable_any (As Aa Ab : Option Addr) (ns cs na ca nb cb : Nat) (ss : Sg) (za zb : List Int) (m : Nat) (bo : Bool) (T' : List (List Int)) (w : World) (hs : SigAt w w.heap.size As ns ss) (ha : TermK w Aa na ca za) (hb : TermK w Ab nb cb zb) (hsol : valOk ss za = true → valOk ss zb = true → solF ss m za zb noTo = some (bo, T')) :
    Calls Try.prog 43 #[.slice As ns cs, .slice Aa na ca, .slice Ab nb cb] w fun e w' => e = .returned (.bool (valOk ss za && valOk ss zb && bo)) ∧ Below w.heap.size w w' := by
  obtain ⟨W3, hW3⟩ : ∃ W3, w.alloc (.cells (solCs As ns cs) 97) = W3 := ⟨_, rfl⟩
  have hB3 : Below w.heap.size w W3 := by rw [← hW3]; exact bel_al (Below.refl _ _) _
  have hS3 : SolAt W3 w.heap.size As ns cs noTo := by rw [← hW3]; exact sol_boxed w As ns cs
  have CA := Lib.hid (refValid_any As Aa ns cs na ca ss za W3 _ (hs.up hB3) (ha.below hB3).1)
  have CB := Lib.hid (fun V (h : Below W3.heap.size W3 V) => refValid_any As Ab ns cs nb cb ss zb V _ ((hs.up hB3).up h) ((hb.below hB3).below h).1)
  have HW3 := Lib.hid hW3
  have HB3 := Lib.hid hB3
  have HS3 := Lib.hid hS3
  have HS := Lib.hid (hs.up hB3)
  have HA := Lib.hid (ha.below hB3)
  have HBB := Lib.hid (hb.below hB3)
  have HSOL := Lib.hid hsol
  clear hs ha hb hsol hW3 hB3 hS3
  go_enter Try.func43, Try.ntmps43
  go_upto_region 1 with fail
  rename_i Qx Kx hKx
  refine sol_lit As ns cs rfl (by simp) (by simp) (by simp) (by decide) ?_
  show Kx _ _
  refine hKx _ _ ?_
  rw [show w.alloc (.cells (solCs As ns cs) 97) = W3 from HW3.out]
  clear hKx Kx
  cases hva : valOk ss za
  · have HVA := Lib.hid hva
    rw [hva] at CA
    clear CB hva
    go_wp2_with (go_at_call 63; refine CA.out.mono ?_; rintro e w4 ⟨rfl, k4, hw4⟩; have HB4 := Lib.hid (show Below w.heap.size w w4 from by rw [hw4]; exact below_drewN HB3.out k4); clear hw4)
    go_ret
    exact ⟨by rw [HVA.out]; rfl, HB4.out⟩
  · have HVA := Lib.hid hva
    rw [hva] at CA
    cases hvb : valOk ss zb
    · have HVB := Lib.hid hvb
      simp only [hvb] at CB
      clear hva hvb
      go_wp2_with (first
        | (go_at_call 63; ((with_reducible refine CA.out.mono ?_); rintro e w4 ⟨rfl, k4, hw4⟩; have HB34 := Lib.hid (show Below W3.heap.size W3 w4 from by rw [hw4]; exact below_drewN (Below.refl _ _) k4); clear hw4 CA))
        | (go_at_call 63; ((with_reducible refine (CB.out _ HB34.out).mono ?_); rintro e w5 ⟨rfl, k5, hw5⟩; have HB5 := Lib.hid (show Below W3.heap.size W3 w5 from by rw [hw5]; exact below_drewN HB34.out k5); clear hw5)))
      go_ret
      exact ⟨by rw [HVA.out, HVB.out]; rfl, below_then HB3.out HB5.out⟩
    · have HVB := Lib.hid hvb
      simp only [hvb] at CB
      have hso := HSOL.out hva hvb
      have har := sigOk_ar (valOk_sig hva)
      have a60 := (valOk_term hva).2.1
      have b60 := (valOk_term hvb).2.1
      have b1 := (valOk_term hvb).1
      have CS := Lib.hid (fun (V : World) (h : Below W3.heap.size W3 V) => sol_any ss har w.heap.size As ns cs m za zb noTo bo T' Aa Ab na ca nb cb V (HS.out.up h) (HS3.out.below h) (noTo_good ss) (good_val hva) (good_val hvb) (HA.out.below h) (HBB.out.below h) hso)
      clear hva hvb hso har a60 b60 b1
      go_wp2_with (first
        | (go_at_call 63; ((with_reducible refine CA.out.mono ?_); rintro e w4 ⟨rfl, k4, hw4⟩; have HB34 := Lib.hid (show Below W3.heap.size W3 w4 from by rw [hw4]; exact below_drewN (Below.refl _ _) k4); clear hw4 CA))
        | (go_at_call 63; ((with_reducible refine (CB.out _ HB34.out).mono ?_); rintro e w5 ⟨rfl, k5, hw5⟩; have HB5 := Lib.hid (show Below W3.heap.size W3 w5 from by rw [hw5]; exact below_drewN HB34.out k5); clear hw5 CB))
        | (go_at_call 80; ((with_reducible refine (CS.out _ HB5.out).mono ?_); rintro e w6 ⟨rfl, hK6, hS6⟩; have HK6 := Lib.hid (hK6.below (B := w.heap.size) (fun b hb => ⟨Nat.lt_of_lt_of_le hb (below_then HB3.out HB5.out).size, Nat.ne_of_lt hb⟩)); clear hK6 hS6)))
      go_ret
      exact ⟨by rw [HVA.out, HVB.out]; rfl, (below_then HB3.out HB5.out).trans HK6.out⟩

set_option maxRecDepth 100000 in
set_option maxHeartbeats 4000000 in
theorem refMeets_any (As Aa Ab : Option Addr) (ns cs na ca nb cb : Nat) (ss : Sg) (za zb : List Int) (m : Nat) (bo : Bool) (T' : List (List Int)) (w : World) (hs : SigAt w w.heap.size As ns ss) (ha : TermK w Aa na ca za) (hb : TermK w Ab nb cb zb) (hsol : valOk ss za = true → valOk ss zb = true → solF ss m za (apartL zb) noTo = some (bo, T')) :
    Calls Try.prog 51 #[.slice As ns cs, .slice Aa na ca, .slice Ab nb cb] w fun e w' => e = .returned (.bool (valOk ss za && valOk ss zb && bo)) ∧ Below w.heap.size w w' := by
  obtain ⟨W3, hW3⟩ : ∃ W3, w.alloc (.cells (solCs As ns cs) 97) = W3 := ⟨_, rfl⟩
  have hB3 : Below w.heap.size w W3 := by rw [← hW3]; exact bel_al (Below.refl _ _) _
  have hS3 : SolAt W3 w.heap.size As ns cs noTo := by rw [← hW3]; exact sol_boxed w As ns cs
  have CA := Lib.hid (refValid_any As Aa ns cs na ca ss za W3 _ (hs.up hB3) (ha.below hB3).1)
  have CB := Lib.hid (fun V (h : Below W3.heap.size W3 V) => refValid_any As Ab ns cs nb cb ss zb V _ ((hs.up hB3).up h) ((hb.below hB3).below h).1)
  have HW3 := Lib.hid hW3
  have HB3 := Lib.hid hB3
  have HS3 := Lib.hid hS3
  have HS := Lib.hid (hs.up hB3)
  have HA := Lib.hid (ha.below hB3)
  have HBB := Lib.hid (hb.below hB3)
  have HSOL := Lib.hid hsol
  clear hs ha hb hsol hW3 hB3 hS3
  go_enter Try.func51, Try.ntmps51
  go_upto_region 1 with fail
  rename_i Qx Kx hKx
  refine sol_lit As ns cs rfl (by simp) (by simp) (by simp) (by decide) ?_
  show Kx _ _
  refine hKx _ _ ?_
  rw [show w.alloc (.cells (solCs As ns cs) 97) = W3 from HW3.out]
  clear hKx Kx
  cases hva : valOk ss za
  · have HVA := Lib.hid hva
    rw [hva] at CA
    clear CB hva
    go_wp2_with (go_at_call 63; refine CA.out.mono ?_; rintro e w4 ⟨rfl, k4, hw4⟩; have HB4 := Lib.hid (show Below w.heap.size w w4 from by rw [hw4]; exact below_drewN HB3.out k4); clear hw4)
    go_ret
    exact ⟨by rw [HVA.out]; rfl, HB4.out⟩
  · have HVA := Lib.hid hva
    rw [hva] at CA
    cases hvb : valOk ss zb
    · have HVB := Lib.hid hvb
      simp only [hvb] at CB
      clear hva hvb
      go_wp2_with (first
        | (go_at_call 63; ((with_reducible refine CA.out.mono ?_); rintro e w4 ⟨rfl, k4, hw4⟩; have HB34 := Lib.hid (show Below W3.heap.size W3 w4 from by rw [hw4]; exact below_drewN (Below.refl _ _) k4); clear hw4 CA))
        | (go_at_call 63; ((with_reducible refine (CB.out _ HB34.out).mono ?_); rintro e w5 ⟨rfl, k5, hw5⟩; have HB5 := Lib.hid (show Below W3.heap.size W3 w5 from by rw [hw5]; exact below_drewN HB34.out k5); clear hw5)))
      go_ret
      exact ⟨by rw [HVA.out, HVB.out]; rfl, below_then HB3.out HB5.out⟩
    · have HVB := Lib.hid hvb
      simp only [hvb] at CB
      have hso := HSOL.out hva hvb
      have har := sigOk_ar (valOk_sig hva)
      have a60 := (valOk_term hva).2.1
      have b60 := (valOk_term hvb).2.1
      have b1 := (valOk_term hvb).1
      have b12 := (valOk_term hvb).2.2.1
      have hsl := sigOk_len (valOk_sig hvb)
      have CP := Lib.hid (fun V (h : Below W3.heap.size W3 V) => apart_any Ab nb cb zb V (HBB.out.below h).1 (fun z hz => by have := b12 z hz; omega) (by have := HBB.out.1.len; omega) (by have := HBB.out.1.len; omega))
      have CS := Lib.hid (fun (V : World) (Ap : Option Addr) (np cp : Nat) (h : Below W3.heap.size W3 V) (ht : TermK V Ap np cp (apartL zb)) => sol_any ss har w.heap.size As ns cs m za (apartL zb) noTo bo T' Aa Ap na ca np cp V (HS.out.up h) (HS3.out.below h) (noTo_good ss) (good_val hva) (good_apart hvb) (HA.out.below h) ht hso)
      clear hva hvb hso har a60 b60 b1 b12 hsl
      go_wp2_with (first
        | (go_at_call 63; ((with_reducible refine CA.out.mono ?_); rintro e w4 ⟨rfl, k4, hw4⟩; have HB34 := Lib.hid (show Below W3.heap.size W3 w4 from by rw [hw4]; exact below_drewN (Below.refl _ _) k4); clear hw4 CA))
        | (go_at_call 63; ((with_reducible refine (CB.out _ HB34.out).mono ?_); rintro e w5 ⟨rfl, k5, hw5⟩; have HB5 := Lib.hid (show Below W3.heap.size W3 w5 from by rw [hw5]; exact below_drewN HB34.out k5); clear hw5 CB))
        | (go_at_call 85; ((with_reducible refine (CP.out _ HB5.out).mono ?_); rintro e w7 ⟨A7, c7, rfl, hI7, hk7, hB7⟩; have HB7 := Lib.hid (below_then HB5.out hB7); have HT7 := Lib.hid (show TermK w7 A7 nb c7 (apartL zb) from ⟨hI7, hk7⟩); clear hI7 hk7 hB7))
        | (go_at_call 80; ((with_reducible refine (CS.out _ _ _ _ HB7.out HT7.out).mono ?_); rintro e w6 ⟨rfl, hK6, hS6⟩; have HK6 := Lib.hid (hK6.below (B := w.heap.size) (fun b hb => ⟨Nat.lt_of_lt_of_le hb (below_then HB3.out HB7.out).size, Nat.ne_of_lt hb⟩)); clear hK6 hS6)))
      go_ret
      exact ⟨by rw [HVA.out, HVB.out]; rfl, (below_then HB3.out HB7.out).trans HK6.out⟩

end Go.Proofs.Ytohhgghjpokdiaa

/- Contracts: the reference's Unified, Meet. -/
namespace Go.Proofs.Ytohhgghjpokdiaa
open Go.RowKit

/-- What Unified and Meet return, and the error: the size and what stands for the first term being known. -/
def comR (ss : Sg) (za zb : List Int) (bo : Bool) (s : Nat) (r : List Int) : List Int × Int :=
  if (valOk ss za && valOk ss zb) = true then (match bo with | true => formZ (decide (s ≤ 60)) r | false => ([], 8)) else ([], 1)

set_option maxRecDepth 100000 in
set_option maxHeartbeats 4000000 in
theorem refUnified_any (As Aa Ab : Option Addr) (ns cs na ca nb cb : Nat) (ss : Sg) (za zb : List Int) (m : Nat) (bo : Bool) (T' : List (List Int)) (w : World) (hs : SigAt w w.heap.size As ns ss) (ha : TermK w Aa na ca za) (hb : TermK w Ab nb cb zb) (s : Nat) (r : List Int) (hsol : valOk ss za = true → valOk ss zb = true → solF ss m za zb noTo = some (bo, T') ∧ (bo = true → WholeIs T' za s r)) :
    Calls Try.prog 41 #[.slice As ns cs, .slice Aa na ca, .slice Ab nb cb] w (RetK w (comR ss za zb bo s r).1 (comR ss za zb bo s r).2) := by
  have CA := Lib.hid (refValid_any As Aa ns cs na ca ss za w _ hs ha.1)
  have CB := Lib.hid (fun V (h : Below w.heap.size w V) => refValid_any As Ab ns cs nb cb ss zb V _ (hs.up h) (hb.below h).1)
  unfold comR
  cases hva : valOk ss za
  · rw [hva] at CA
    rw [if_neg (by simp)]
    clear CB hva hs ha hb hsol
    go_enter Try.func41, Try.ntmps41
    go_wp2_with (go_at_call 63; refine CA.out.mono ?_; rintro e w4 ⟨rfl, k4, hw4⟩; have HB4 := Lib.hid (show Below w.heap.size w w4 from by rw [hw4]; exact below_drewN (Below.refl _ _) k4); clear hw4)
    go_ret2
    exact ⟨none, 0, 0, rfl, IntsAt.nil _ _ 0, by omega, HB4.out⟩
  · rw [hva] at CA
    cases hvb : valOk ss zb
    · simp only [hvb] at CB
      rw [if_neg (by simp)]
      clear hva hvb hs ha hb hsol
      go_enter Try.func41, Try.ntmps41
      go_wp2_with (first
        | (go_at_call 63; ((with_reducible refine CA.out.mono ?_); rintro e w4 ⟨rfl, k4, hw4⟩; have HB4 := Lib.hid (show Below w.heap.size w w4 from by rw [hw4]; exact below_drewN (Below.refl _ _) k4); clear hw4 CA))
        | (go_at_call 63; ((with_reducible refine (CB.out _ HB4.out).mono ?_); rintro e w5 ⟨rfl, k5, hw5⟩; have HB5 := Lib.hid (show Below w.heap.size w w5 from by rw [hw5]; exact below_drewN HB4.out k5); clear hw5)))
      go_ret2
      exact ⟨none, 0, 0, rfl, IntsAt.nil _ _ 0, by omega, HB5.out⟩
    · simp only [hvb] at CB
      obtain ⟨hso, hwh⟩ := hsol hva hvb
      rw [if_pos (by simp)]
      have har := sigOk_ar (valOk_sig hva)
      have a60 := (valOk_term hva).2.1
      have b60 := (valOk_term hvb).2.1
      have b1 := (valOk_term hvb).1
      have hgT := (solF_good m za zb noTo bo T' (good_val hva) (good_val hvb) (noTo_good ss) hso).1
      have ga := good_val hva
      have CS := Lib.hid (fun (V : World) (d : Nat) (h : Below w.heap.size w V) (hd : SolAt V d As ns cs noTo) => sol_any ss har d As ns cs m za zb noTo bo T' Aa Ab na ca nb cb V (hs.up h) hd (noTo_good ss) (good_val hva) (good_val hvb) (ha.below h) (hb.below h) hso)
      have HWH := Lib.hid hwh
      have HGT := Lib.hid hgT
      have HGA := Lib.hid ga
      have HA := Lib.hid ha
      obtain ⟨FT, hFT⟩ : ∃ FT, formZ (decide (s ≤ 60)) r = FT := ⟨_, rfl⟩
      have HFT := Lib.hid hFT
      rw [hFT]
      clear hva hvb hso har a60 b60 b1 hs ha hb hsol hwh hgT ga hFT
      go_enter Try.func41, Try.ntmps41
      go_upto_region 3 with (first
        | (go_at_call 63; ((with_reducible refine CA.out.mono ?_); rintro e w4 ⟨rfl, k4, hw4⟩; have HB4 := Lib.hid (show Below w.heap.size w w4 from by rw [hw4]; exact below_drewN (Below.refl _ _) k4); clear hw4 CA))
        | (go_at_call 63; ((with_reducible refine (CB.out _ HB4.out).mono ?_); rintro e w5 ⟨rfl, k5, hw5⟩; have HB5 := Lib.hid (show Below w.heap.size w w5 from by rw [hw5]; exact below_drewN HB4.out k5); clear hw5 CB)))
      rename_i Qx Kx hKx
      refine sol_lit As ns cs rfl (by simp) (by simp) (by simp) (by decide) ?_
      show Kx _ _
      refine hKx _ _ ?_
      clear hKx Kx
      obtain ⟨W3, hW3⟩ : ∃ W3, w5.alloc (.cells (solCs As ns cs) 97) = W3 := ⟨_, rfl⟩
      have hB53 : Below w5.heap.size w5 W3 := by rw [← hW3]; exact bel_al (Below.refl _ _) _
      have HS3 := Lib.hid (show SolAt W3 w5.heap.size As ns cs noTo by rw [← hW3]; exact sol_boxed w5 As ns cs)
      have HB3 := Lib.hid (below_then HB5.out hB53)
      have HSZ := Lib.hid (show w.heap.size ≤ w5.heap.size from HB5.out.size)
      rw [show w5.alloc (.cells (solCs As ns cs) 97) = W3 from hW3]
      clear hW3 hB53
      cases bo with
      | false =>
        go_wp2_with (first
        | (go_at_call 80; ((with_reducible refine (CS.out _ _ HB3.out HS3.out).mono ?_); rintro e w6 ⟨rfl, hK6, hS6⟩; have HB6 := Lib.hid (HB3.out.trans (hK6.below (B := w.heap.size) (fun b hb => ⟨Nat.lt_of_lt_of_le hb HB3.out.size, Nat.ne_of_lt (Nat.lt_of_lt_of_le hb HSZ.out)⟩))); have HS6 := Lib.hid hS6; have HA6 := Lib.hid (HA.out.below HB6.out); clear hK6 hS6)))
        go_ret2
        exact ⟨none, 0, 0, rfl, IntsAt.nil _ _ 0, by omega, HB6.out⟩
      | true =>
        have CF := Lib.hid (fun (V : World) (d : Nat) (h : Below w.heap.size w V) (hS : SolAt V d As ns cs T') => Few_any d As Aa ns cs na ca T' za s r V hS (HA.out.below h).1 HGT.out.tos HGA.out.lo (HWH.out rfl))
        rw [HFT.out] at CF
        go_wp2_with (first
        | (go_at_call 80; ((with_reducible refine (CS.out _ _ HB3.out HS3.out).mono ?_); rintro e w6 ⟨rfl, hK6, hS6⟩; have HB6 := Lib.hid (HB3.out.trans (hK6.below (B := w.heap.size) (fun b hb => ⟨Nat.lt_of_lt_of_le hb HB3.out.size, Nat.ne_of_lt (Nat.lt_of_lt_of_le hb HSZ.out)⟩))); have HS6 := Lib.hid hS6; have HA6 := Lib.hid (HA.out.below HB6.out); clear hK6 hS6))
        | (go_at_call 83; ((with_reducible refine (CF.out _ _ HB6.out HS6.out).mono ?_); rintro e w8 ⟨A8, n8, c8, rfl, hI8, hk8, hB8⟩; have HB8 := Lib.hid (below_then HB6.out hB8); have HI8 := Lib.hid hI8; have HK8 := Lib.hid hk8; clear hI8 hB8 hk8)))
        go_ret2
        exact ⟨A8, n8, c8, rfl, HI8.out, HK8.out, HB8.out⟩

set_option maxRecDepth 100000 in
set_option maxHeartbeats 4000000 in
theorem refMeet_any (As Aa Ab : Option Addr) (ns cs na ca nb cb : Nat) (ss : Sg) (za zb : List Int) (m : Nat) (bo : Bool) (T' : List (List Int)) (w : World) (hs : SigAt w w.heap.size As ns ss) (ha : TermK w Aa na ca za) (hb : TermK w Ab nb cb zb) (s : Nat) (r : List Int) (hsol : valOk ss za = true → valOk ss zb = true → solF ss m za (apartL zb) noTo = some (bo, T') ∧ (bo = true → WholeIs T' za s r)) :
    Calls Try.prog 49 #[.slice As ns cs, .slice Aa na ca, .slice Ab nb cb] w (RetK w (comR ss za zb bo s r).1 (comR ss za zb bo s r).2) := by
  have CA := Lib.hid (refValid_any As Aa ns cs na ca ss za w _ hs ha.1)
  have CB := Lib.hid (fun V (h : Below w.heap.size w V) => refValid_any As Ab ns cs nb cb ss zb V _ (hs.up h) (hb.below h).1)
  unfold comR
  cases hva : valOk ss za
  · rw [hva] at CA
    rw [if_neg (by simp)]
    clear CB hva hs ha hb hsol
    go_enter Try.func49, Try.ntmps49
    go_wp2_with (go_at_call 63; refine CA.out.mono ?_; rintro e w4 ⟨rfl, k4, hw4⟩; have HB4 := Lib.hid (show Below w.heap.size w w4 from by rw [hw4]; exact below_drewN (Below.refl _ _) k4); clear hw4)
    go_ret2
    exact ⟨none, 0, 0, rfl, IntsAt.nil _ _ 0, by omega, HB4.out⟩
  · rw [hva] at CA
    cases hvb : valOk ss zb
    · simp only [hvb] at CB
      rw [if_neg (by simp)]
      clear hva hvb hs ha hb hsol
      go_enter Try.func49, Try.ntmps49
      go_wp2_with (first
        | (go_at_call 63; ((with_reducible refine CA.out.mono ?_); rintro e w4 ⟨rfl, k4, hw4⟩; have HB4 := Lib.hid (show Below w.heap.size w w4 from by rw [hw4]; exact below_drewN (Below.refl _ _) k4); clear hw4 CA))
        | (go_at_call 63; ((with_reducible refine (CB.out _ HB4.out).mono ?_); rintro e w5 ⟨rfl, k5, hw5⟩; have HB5 := Lib.hid (show Below w.heap.size w w5 from by rw [hw5]; exact below_drewN HB4.out k5); clear hw5)))
      go_ret2
      exact ⟨none, 0, 0, rfl, IntsAt.nil _ _ 0, by omega, HB5.out⟩
    · simp only [hvb] at CB
      obtain ⟨hso, hwh⟩ := hsol hva hvb
      rw [if_pos (by simp)]
      have har := sigOk_ar (valOk_sig hva)
      have a60 := (valOk_term hva).2.1
      have b60 := (valOk_term hvb).2.1
      have b1 := (valOk_term hvb).1
      have hgT := (solF_good m za (apartL zb) noTo bo T' (good_val hva) (good_apart hvb) (noTo_good ss) hso).1
      have ga := good_val hva
      have b12 := (valOk_term hvb).2.2.1
      have hsl := sigOk_len (valOk_sig hvb)
      have CP := Lib.hid (fun V (h : Below w.heap.size w V) => apart_any Ab nb cb zb V (hb.below h).1 (fun z hz => by have := b12 z hz; omega) (by have := hb.1.len; omega) (by have := hb.1.len; omega))
      have CS := Lib.hid (fun (V : World) (d : Nat) (Ap : Option Addr) (np cp : Nat) (h : Below w.heap.size w V) (hd : SolAt V d As ns cs noTo) (ht : TermK V Ap np cp (apartL zb)) => sol_any ss har d As ns cs m za (apartL zb) noTo bo T' Aa Ap na ca np cp V (hs.up h) hd (noTo_good ss) (good_val hva) (good_apart hvb) (ha.below h) ht hso)
      have HWH := Lib.hid hwh
      have HGT := Lib.hid hgT
      have HGA := Lib.hid ga
      have HA := Lib.hid ha
      obtain ⟨FT, hFT⟩ : ∃ FT, formZ (decide (s ≤ 60)) r = FT := ⟨_, rfl⟩
      have HFT := Lib.hid hFT
      rw [hFT]
      clear hva hvb hso har a60 b60 b1 b12 hsl hs ha hb hsol hwh hgT ga hFT
      go_enter Try.func49, Try.ntmps49
      go_upto_region 3 with (first
        | (go_at_call 63; ((with_reducible refine CA.out.mono ?_); rintro e w4 ⟨rfl, k4, hw4⟩; have HB4 := Lib.hid (show Below w.heap.size w w4 from by rw [hw4]; exact below_drewN (Below.refl _ _) k4); clear hw4 CA))
        | (go_at_call 63; ((with_reducible refine (CB.out _ HB4.out).mono ?_); rintro e w5 ⟨rfl, k5, hw5⟩; have HB5 := Lib.hid (show Below w.heap.size w w5 from by rw [hw5]; exact below_drewN HB4.out k5); clear hw5 CB)))
      rename_i Qx Kx hKx
      refine sol_lit As ns cs rfl (by simp) (by simp) (by simp) (by decide) ?_
      show Kx _ _
      refine hKx _ _ ?_
      clear hKx Kx
      obtain ⟨W3, hW3⟩ : ∃ W3, w5.alloc (.cells (solCs As ns cs) 97) = W3 := ⟨_, rfl⟩
      have hB53 : Below w5.heap.size w5 W3 := by rw [← hW3]; exact bel_al (Below.refl _ _) _
      have HS3 := Lib.hid (show SolAt W3 w5.heap.size As ns cs noTo by rw [← hW3]; exact sol_boxed w5 As ns cs)
      have HB3 := Lib.hid (below_then HB5.out hB53)
      have HSZ := Lib.hid (show w.heap.size ≤ w5.heap.size from HB5.out.size)
      rw [show w5.alloc (.cells (solCs As ns cs) 97) = W3 from hW3]
      clear hW3 hB53
      cases bo with
      | false =>
        go_wp2_with (first
        | (go_at_call 85; ((with_reducible refine (CP.out _ HB3.out).mono ?_); rintro e w7 ⟨A7, c7, rfl, hI7, hk7, hB7⟩; have HB7 := Lib.hid (below_then HB3.out hB7); have HS7 := Lib.hid (HS3.out.below hB7); have HT7 := Lib.hid (show TermK w7 A7 nb c7 (apartL zb) from ⟨hI7, hk7⟩); clear hI7 hk7 hB7))
        | (go_at_call 80; ((with_reducible refine (CS.out _ _ _ _ _ HB7.out HS7.out HT7.out).mono ?_); rintro e w6 ⟨rfl, hK6, hS6⟩; have HB6 := Lib.hid (HB7.out.trans (hK6.below (B := w.heap.size) (fun b hb => ⟨Nat.lt_of_lt_of_le hb HB7.out.size, Nat.ne_of_lt (Nat.lt_of_lt_of_le hb HSZ.out)⟩))); have HS6 := Lib.hid hS6; have HA6 := Lib.hid (HA.out.below HB6.out); clear hK6 hS6)))
        go_ret2
        exact ⟨none, 0, 0, rfl, IntsAt.nil _ _ 0, by omega, HB6.out⟩
      | true =>
        have CF := Lib.hid (fun (V : World) (d : Nat) (h : Below w.heap.size w V) (hS : SolAt V d As ns cs T') => Few_any d As Aa ns cs na ca T' za s r V hS (HA.out.below h).1 HGT.out.tos HGA.out.lo (HWH.out rfl))
        rw [HFT.out] at CF
        go_wp2_with (first
        | (go_at_call 85; ((with_reducible refine (CP.out _ HB3.out).mono ?_); rintro e w7 ⟨A7, c7, rfl, hI7, hk7, hB7⟩; have HB7 := Lib.hid (below_then HB3.out hB7); have HS7 := Lib.hid (HS3.out.below hB7); have HT7 := Lib.hid (show TermK w7 A7 nb c7 (apartL zb) from ⟨hI7, hk7⟩); clear hI7 hk7 hB7))
        | (go_at_call 80; ((with_reducible refine (CS.out _ _ _ _ _ HB7.out HS7.out HT7.out).mono ?_); rintro e w6 ⟨rfl, hK6, hS6⟩; have HB6 := Lib.hid (HB7.out.trans (hK6.below (B := w.heap.size) (fun b hb => ⟨Nat.lt_of_lt_of_le hb HB7.out.size, Nat.ne_of_lt (Nat.lt_of_lt_of_le hb HSZ.out)⟩))); have HS6 := Lib.hid hS6; have HA6 := Lib.hid (HA.out.below HB6.out); clear hK6 hS6))
        | (go_at_call 83; ((with_reducible refine (CF.out _ _ HB6.out HS6.out).mono ?_); rintro e w8 ⟨A8, n8, c8, rfl, hI8, hk8, hB8⟩; have HB8 := Lib.hid (below_then HB6.out hB8); have HI8 := Lib.hid hI8; have HK8 := Lib.hid hk8; clear hI8 hB8 hk8)))
        go_ret2
        exact ⟨A8, n8, c8, rfl, HI8.out, HK8.out, HB8.out⟩

end Go.Proofs.Ytohhgghjpokdiaa

/- Contracts: the reference's Unifiable, Meets, Unified, Meet, told by what the program finds. -/
namespace Go.Proofs.Ytohhgghjpokdiaa
open Go.RowKit

theorem apart_sft (zb : List Int) (τ : Int → List Int) : apV τ (apartL zb) = apV (sft τ 12) zb := by
  unfold apartL apV
  rw [List.flatMap_map]
  refine flat_same fun z _ => ?_
  by_cases hz : z < 0
  · simp only [hz, if_true]
    rw [if_pos (by omega)]
    rfl
  · simp only [hz, if_false]
theorem same_apart {ss : Sg} {za zb : List Int} (ha : valOk ss za = true) (hb : valOk ss zb = true) : ∃ m bo T' s r, solF ss m za (apartL zb) noTo = some (bo, T') ∧ hasZ ss 12 za zb = bo ∧ (bo = true → WholeIs T' za s r) ∧ comZ ss 12 za zb = if bo = true then formZ (decide (s ≤ 60)) r else ([], 8) :=
  com_same (by omega) (apart_sft zb) ha hb (good_val ha) (good_apart hb)
theorem same_own {ss : Sg} {za zb : List Int} (ha : valOk ss za = true) (hb : valOk ss zb = true) : ∃ m bo T' s r, solF ss m za zb noTo = some (bo, T') ∧ hasZ ss 0 za zb = bo ∧ (bo = true → WholeIs T' za s r) ∧ comZ ss 0 za zb = if bo = true then formZ (decide (s ≤ 60)) r else ([], 8) :=
  com_same (by omega) (fun τ => (apV_sft0 τ zb).symm) ha hb (good_val ha) (good_val hb)
theorem comR_same {ss : Sg} {sh : Int} {za zb : List Int} {bo : Bool} {s : Nat} {r : List Int} (hv : (valOk ss za && valOk ss zb) = true) (h : comZ ss sh za zb = if bo = true then formZ (decide (s ≤ 60)) r else ([], 8)) : comR ss za zb bo s r = comZ ss sh za zb := by
  unfold comR
  rw [if_pos hv, h]
  cases bo <;> rfl
theorem comR_bad {ss : Sg} {sh : Int} {za zb : List Int} {bo : Bool} {s : Nat} {r : List Int} (hv : (valOk ss za && valOk ss zb) = false) : comR ss za zb bo s r = comZ ss sh za zb := by
  rw [(comZ_bad hv).1]
  unfold comR
  rw [hv]
  rfl
section
variable (As Aa Ab : Option Addr) (ns cs na ca nb cb : Nat) (ss : Sg) (za zb : List Int) (w : World) (hs : SigAt w w.heap.size As ns ss) (ha : TermK w Aa na ca za) (hb : TermK w Ab nb cb zb)
include hs ha hb
theorem refMeets_all : Calls Try.prog 51 #[.slice As ns cs, .slice Aa na ca, .slice Ab nb cb] w fun e w' => e = .returned (.bool (hasZ ss 12 za zb)) ∧ Below w.heap.size w w' := by
  cases hv : (valOk ss za && valOk ss zb)
  · have := refMeets_any As Aa Ab ns cs na ca nb cb ss za zb 0 false noTo w hs ha hb (fun h1 h2 => by rw [h1, h2] at hv; cases hv)
    rw [hv] at this
    rw [(comZ_bad hv).2]
    exact this
  · have hv' := hv
    rw [Bool.and_eq_true] at hv'
    obtain ⟨m, bo, T', s, r, h1, h2, _, _⟩ := same_apart hv'.1 hv'.2
    have := refMeets_any As Aa Ab ns cs na ca nb cb ss za zb m bo T' w hs ha hb (fun _ _ => h1)
    rw [hv, Bool.true_and] at this
    rw [h2]
    exact this
theorem refUnifiable_all : Calls Try.prog 43 #[.slice As ns cs, .slice Aa na ca, .slice Ab nb cb] w fun e w' => e = .returned (.bool (hasZ ss 0 za zb)) ∧ Below w.heap.size w w' := by
  cases hv : (valOk ss za && valOk ss zb)
  · have := refUnifiable_any As Aa Ab ns cs na ca nb cb ss za zb 0 false noTo w hs ha hb (fun h1 h2 => by rw [h1, h2] at hv; cases hv)
    rw [hv] at this
    rw [(comZ_bad hv).2]
    exact this
  · have hv' := hv
    rw [Bool.and_eq_true] at hv'
    obtain ⟨m, bo, T', s, r, h1, h2, _, _⟩ := same_own hv'.1 hv'.2
    have := refUnifiable_any As Aa Ab ns cs na ca nb cb ss za zb m bo T' w hs ha hb (fun _ _ => h1)
    rw [hv, Bool.true_and] at this
    rw [h2]
    exact this
theorem refMeet_all : Calls Try.prog 49 #[.slice As ns cs, .slice Aa na ca, .slice Ab nb cb] w (RetK w (comZ ss 12 za zb).1 (comZ ss 12 za zb).2) := by
  cases hv : (valOk ss za && valOk ss zb)
  · have := refMeet_any As Aa Ab ns cs na ca nb cb ss za zb 0 false noTo w hs ha hb 0 [] (fun h1 h2 => by rw [h1, h2] at hv; cases hv)
    rw [comR_bad (sh := 12) hv] at this
    exact this
  · have hv' := hv
    rw [Bool.and_eq_true] at hv'
    obtain ⟨m, bo, T', s, r, h1, _, h3, h4⟩ := same_apart hv'.1 hv'.2
    have := refMeet_any As Aa Ab ns cs na ca nb cb ss za zb m bo T' w hs ha hb s r (fun _ _ => ⟨h1, h3⟩)
    rw [comR_same hv h4] at this
    exact this
theorem refUnified_all : Calls Try.prog 41 #[.slice As ns cs, .slice Aa na ca, .slice Ab nb cb] w (RetK w (comZ ss 0 za zb).1 (comZ ss 0 za zb).2) := by
  cases hv : (valOk ss za && valOk ss zb)
  · have := refUnified_any As Aa Ab ns cs na ca nb cb ss za zb 0 false noTo w hs ha hb 0 [] (fun h1 h2 => by rw [h1, h2] at hv; cases hv)
    rw [comR_bad (sh := 0) hv] at this
    exact this
  · have hv' := hv
    rw [Bool.and_eq_true] at hv'
    obtain ⟨m, bo, T', s, r, h1, _, h3, h4⟩ := same_own hv'.1 hv'.2
    have := refUnified_any As Aa Ab ns cs na ca nb cb ss za zb m bo T' w hs ha hb s r (fun _ _ => ⟨h1, h3⟩)
    rw [comR_same hv h4] at this
    exact this
end

end Go.Proofs.Ytohhgghjpokdiaa

/- Contract: the reference's AllValid. -/
namespace Go.Proofs.Ytohhgghjpokdiaa
open Go.RowKit

theorem valOk_of {ss : Sg} (h : sigOk ss = true) (t : List Int) : valOk ss t = termOk ss t := by simp [valOk, h]

set_option maxRecDepth 100000 in
set_option maxHeartbeats 1000000 in
theorem allValid_any (As At : Option Addr) (ns cs n c : Nat) (ss : Sg) (ls : List Hd) (tt : List (List Int)) (w : World) (B : Nat) (hs : SigAt w B As ns ss) (ht : TermsAt w B At n ls tt) (hn : n ≤ 1000000) (hv : sigOk ss = true) :
    Calls Try.prog 113 #[.slice As ns cs, .slice At n c] w fun e w' => e = .returned (.bool (tt.all (termOk ss))) ∧ ∃ k, w' = w.drewN k := by
  have HT := Lib.hid ht
  have HLT := Lib.hid ht.len
  have HVO := Lib.hid (valOk_of hv)
  have CV := Lib.hid (fun (m : Nat) A' n' c' t (hI : IntsAt w B A' n' t) => refValid_any As A' ns cs n' c' ss t (w.drewN m) B (hs.keep fun _ _ => rfl) (hI.keep fun _ _ => rfl))
  obtain ⟨R, hR⟩ : ∃ R, tt.all (termOk ss) = R := ⟨_, rfl⟩
  rw [hR]
  have HR := Lib.hid hR
  clear ht hs hv hR
  go_enter Try.func113, Try.ntmps113
  go_wp2
  go_loopw [5] (fun i wr => ∃ k : Nat, k ≤ n ∧ i = .int .i64 k ∧ okTo ss tt k ∧ ∃ m, wr = w.drewN m) (fun i _ => n - (intOf i).toNat)
  case atStart => exact ⟨0, Nat.zero_le _, rfl, okTo_zero _ _, 0, rfl⟩
  case round =>
    obtain ⟨k, hk, rfl, hok, m, rfl⟩ := hrel
    by_cases hlt : k < n
    · obtain ⟨b, off, A', n', c', t, rfl, hb, q1, q2, hI⟩ := HT.out.cellAt hlt
      have hk0 : (0 : Int) ≤ (k : Int) := by omega
      have hk1 : (k : Int) < (n : Int) := by omega
      have C := Lib.hid (fun c'' => CV.out m A' n' c'' t hI)
      rw [HVO.out] at C
      cases hto : termOk ss t
      · have H := Lib.hid (show R = false by rw [← HR.out]; exact all_bad q2 hto)
        rw [hto] at C
        clear q2 hI hto hok
        go_wp2_with (go_at_call 63; refine (C.out _).mono ?_; rintro e w3 ⟨rfl, j3, rfl⟩)
        go_ret
        exact ⟨ret_b H.out.symm, _, rfl⟩
      · have H := Lib.hid (okTo_succ hok q2 hto)
        rw [hto] at C
        clear q2 hI hto hok
        go_wp2_with (go_at_call 63; refine (C.out _).mono ?_; rintro e w3 ⟨rfl, j3, rfl⟩)
        go_roundw
        case rel => exact ⟨k + 1, by omega, by go_num, H.out, _, rfl⟩
        case measure => simp [intOf]; omega
    · obtain rfl : k = n := by omega
      have H := Lib.hid (show R = true by rw [← HR.out]; exact okTo_all hok (by rw [← HLT.out]; exact Nat.le_refl _))
      clear hok
      go_wp2
      go_ret
      exact ⟨ret_b H.out.symm, _, rfl⟩

end Go.Proofs.Ytohhgghjpokdiaa

namespace Go.Proofs.Ytohhgghjpokdiaa
open Go.RowKit

/-- The error of a list. -/
def lstE (ss : Sg) (tt : List (List Int)) : Int := if (tt.all (valOk ss) && sigOk ss) = false then 1 else if tt.length < 1 ∨ 60 < tt.length then 7 else 0
theorem all_both {ss : Sg} {tt : List (List Int)} (h : sigOk ss = true) : tt.all (termOk ss) = tt.all (valOk ss) := by
  have : (valOk ss) = (termOk ss) := funext fun t => valOk_of h t
  rw [this]
set_option maxRecDepth 100000 in
set_option maxHeartbeats 4000000 in
theorem listError_any (As At : Option Addr) (ns cs n c : Nat) (ss : Sg) (ls : List Hd) (tt : List (List Int)) (w : World) (hs : SigAt w w.heap.size As ns ss) (ht : TermsAt w w.heap.size At n ls tt) (hn : n ≤ 1000000) :
    Calls Try.prog 89 #[.slice As ns cs, .slice At n c] w fun e w' => e = .returned (.int .i64 (lstE ss tt)) ∧ Below w.heap.size w w' := by
  have C := Lib.hid (refSign_any As ns cs ss w _ hs)
  have hlen := ht.len
  unfold lstE
  cases hv : sigOk ss
  · rw [if_pos (by simp)]
    rw [hv] at C
    clear hs ht hv hlen
    go_enter Try.func89, Try.ntmps89
    go_wp2_with (go_at_call 61; refine C.out.mono ?_; rintro e w1 ⟨rfl, j1, rfl⟩)
    go_ret
    exact ⟨rfl, below_drewN (Below.refl _ _) _⟩
  have D := Lib.hid (fun m => allValid_any As At ns cs n c ss ls tt (w.drewN m) w.heap.size (hs.keep fun _ _ => rfl) (ht.keep fun _ _ => rfl) hn hv)
  rw [all_both hv] at D
  rw [hv] at C
  rw [Bool.and_true]
  cases hal : tt.all (valOk ss)
  · rw [if_pos rfl]
    rw [hal] at D
    clear hs ht hv hlen hal
    go_enter Try.func89, Try.ntmps89
    go_wp2_with (first
      | (go_at_call 61; refine C.out.mono ?_; rintro e w1 ⟨rfl, j1, rfl⟩)
      | (go_at_call 113; refine (D.out _).mono ?_; rintro e w2 ⟨rfl, j2, rfl⟩))
    go_ret
    exact ⟨rfl, below_drewN (Below.refl _ _) _⟩
  rw [if_neg (by simp)]
  rw [hal] at D
  by_cases hl : tt.length < 1 ∨ 60 < tt.length
  · rw [if_pos hl]
    have CW := Lib.hid (fun V => within2_any (n : Int) 1 60 V)
    have hd : wit2 (n : Int) 1 60 = false := by
      rcases hl with h | h
      · have : ¬ (1 : Int) ≤ (n : Int) := by omega
        simp [wit2, this]
      · have : ¬ (n : Int) ≤ 60 := by omega
        simp [wit2, this]
    rw [hd] at CW
    clear hs ht hv hlen hal hl hd
    go_enter Try.func89, Try.ntmps89
    go_wp2_with (first
      | (go_at_call 61; refine C.out.mono ?_; rintro e w1 ⟨rfl, j1, rfl⟩)
      | (go_at_call 113; refine (D.out _).mono ?_; rintro e w2 ⟨rfl, j2, rfl⟩)
      | (go_at_call 62; refine (CW.out _).mono ?_; rintro e w3 ⟨rfl, rfl⟩))
    go_ret
    exact ⟨rfl, below_drewN (Below.refl _ _) _⟩
  · rw [if_neg hl]
    have CW := Lib.hid (fun V => within2_any (n : Int) 1 60 V)
    have hd : wit2 (n : Int) 1 60 = true := by
      have h1 : (1 : Int) ≤ (n : Int) := by omega
      have h2 : (n : Int) ≤ 60 := by omega
      simp [wit2, h1, h2]
    rw [hd] at CW
    clear hs ht hv hlen hal hl hd
    go_enter Try.func89, Try.ntmps89
    go_wp2_with (first
      | (go_at_call 61; refine C.out.mono ?_; rintro e w1 ⟨rfl, j1, rfl⟩)
      | (go_at_call 113; refine (D.out _).mono ?_; rintro e w2 ⟨rfl, j2, rfl⟩)
      | (go_at_call 62; refine (CW.out _).mono ?_; rintro e w3 ⟨rfl, rfl⟩))
    go_ret
    exact ⟨rfl, below_drewN (Below.refl _ _) _⟩

set_option maxRecDepth 100000 in
set_option maxHeartbeats 4000000 in
theorem refMeetAll_any (As At : Option Addr) (ns cs n c : Nat) (ss : Sg) (ls : List Hd) (tt : List (List Int)) (w : World) (hs : SigAt w w.heap.size As ns ss) (ht : TermsAt w w.heap.size At n ls tt) (hcap : ∀ x ∈ ls, capOk x) (hn : n ≤ 1000000) :
    Calls Try.prog 55 #[.slice As ns cs, .slice At n c] w (RetT w (allZ (comZ ss 12) ss tt).1 (allZ (comZ ss 12) ss tt).2) := by
  have CL := Lib.hid (listError_any As At ns cs n c ss ls tt w hs ht hn)
  have hlen := ht.len
  by_cases he : lstE ss tt = 0
  · have hv : (tt.all (valOk ss) && sigOk ss) = true := by
      cases h : (tt.all (valOk ss) && sigOk ss) with
      | true => rfl
      | false => unfold lstE at he; rw [if_pos h] at he; cases he
    have hl : ¬ (tt.length < 1 ∨ 60 < tt.length) := fun h => by
      unfold lstE at he; rw [if_neg (by simp [hv]), if_pos h] at he; cases he
    unfold allZ
    rw [if_neg (by simp [hv]), if_neg hl]
    rw [he] at CL
    have hn0 : 0 < n := by omega
    have hn60 : n ≤ 60 := by omega
    rw [Bool.and_eq_true, List.all_eq_true] at hv
    cases tt with
    | nil => simp at hl
    | cons a rest =>
    simp only [List.headD_cons, List.tail_cons]
    obtain ⟨b, off, A0, n0, c0, t0, rfl, hb, q1, q2, hI0⟩ := ht.cellAt hn0
    rw [Nat.add_zero] at q1
    simp only [List.getElem?_cons_zero, Option.some.injEq] at q2
    subst q2
    have hva := hv.1 a (List.mem_cons_self ..)
    have hns := sigOk_len hv.2
    have CC := Lib.hid (fun V (h : Below w.heap.size w V) => refRenamed_k A0 n0 c0 a V (hI0.up h) (by have := hI0.len; have := (valOk_term hva).1; omega) (by have := hI0.len; have := (valOk_term hva).2.1; omega) (fun z hz => by have := (valOk_term hva).2.2.1 z hz; omega))
    obtain ⟨R, hR⟩ : ∃ R, foldZ (comZ ss 12) (canon a, 0) rest = R := ⟨_, rfl⟩
    rw [hR]
    have HR := Lib.hid hR
    have HT := Lib.hid ht
    have HCAP := Lib.hid hcap
    have CP := Lib.hid (fun (V : World) (t x : List Int) (A1 A2 : Option Addr) (n1 n2 c1 c2 : Nat) (h : Below w.heap.size w V) (h1 : IntsAt V V.heap.size A1 n1 t) (h2 : IntsAt V V.heap.size A2 n2 x) (k1 : n1 ≤ c1 ∧ c1 ≤ 9223372036854775807) (k2 : n2 ≤ c2 ∧ c2 ≤ 9223372036854775807) => refMeet_all As A1 A2 ns cs n1 c1 n2 c2 ss t x V (hs.up h) ⟨h1, k1⟩ ⟨h2, k2⟩)
    have hrl : rest.length + 1 = n := by simpa using hlen.symm
    have HRL := Lib.hid hrl
    have hbl := hb
    clear hs ht hv hcap hlen hl hR hI0 hva hns hrl he hb
    go_enter Try.func55, Try.ntmps55
    go_wp2_with (first
      | (go_at_call 89; refine CL.out.mono ?_; rintro e w1 ⟨rfl, hB1⟩; have q1b := (hB1.cell (p := ⟨b, off, none⟩) hbl).trans q1; have HB1 := Lib.hid hB1; clear hB1)
      | (go_at_call 90; refine (CC.out _ HB1.out).mono ?_; rintro e w2 ⟨A2, c2, rfl, hI2, hB2⟩; have HB2 := Lib.hid (below_then HB1.out hB2); have HI2 := Lib.hid hI2; clear hI2 hB2))
    go_loopw [7, 8] (fun s7 i wr => ∃ (k : Nat) (A' : Option Addr) (n' c' : Nat) (t : List Int), 1 ≤ k ∧ k ≤ n ∧ i = .int .i64 k ∧ s7 = .slice A' n' c' ∧ IntsAt wr wr.heap.size A' n' t ∧ (n' ≤ c' ∧ c' ≤ 9223372036854775807) ∧ Below w.heap.size w wr ∧ Hid (foldZ (comZ ss 12) (t, 0) (rest.drop (k - 1)) = R)) (fun _ i _ => n - (intOf i).toNat)
    case atStart => exact ⟨1, A2, n0, c2, _, by omega, by have := HRL.out; omega, rfl, rfl, HI2.out.1, HI2.out.2, HB2.out, Lib.hid (by show foldZ _ _ (rest.drop 0) = R; rw [List.drop_zero]; exact HR.out)⟩
    case round =>
      obtain ⟨k, A', n', c', t, hk1, hk, rfl, rfl, hI, hkc, hB, HF⟩ := hrel
      have HI := Lib.hid hI
      have HBr := Lib.hid hB
      by_cases hlt : k < n
      · have hlt' : (k : Int) < (n : Int) := by omega
        have hk0 : (0 : Int) ≤ (k : Int) := by omega
        have hks : k - 1 < rest.length := by have := HRL.out; omega
        have hdr := List.drop_eq_getElem_cons hks
        obtain ⟨b', off', A3, n3, c3, x, e3, hb3, r1, r2, hI3⟩ := HT.out.cellAt (k := k) hlt
        cases e3
        have hx : rest[k - 1] = x := by
          rw [show k = k - 1 + 1 by omega, List.getElem?_cons_succ, List.getElem?_eq_getElem hks] at r2
          exact Option.some.inj r2
        have hcap3 : n3 ≤ c3 ∧ c3 ≤ 9223372036854775807 := by
          obtain ⟨b4, off4, e4, _, hcells⟩ := HT.out.hds.mem (by omega)
          cases e4
          have hl : k < ls.length := by have := HT.out.hds.len; omega
          have := hcells k hl
          rw [r1] at this
          have h2 := HCAP.out _ (List.getElem_mem hl)
          injection this with this
          injection this with ha hn hc
          unfold capOk at h2
          rw [← hn, ← hc] at h2
          exact h2
        have r1b : wr.cell? ⟨b, off + k, none⟩ = some (.slice A3 n3 c3) := (hB.cell (p := ⟨b, off + k, none⟩) hb3).trans r1
        rw [hdr, hx, foldZ_step, show k - 1 + 1 = k by omega] at HF
        have CP2 := Lib.hid (CP.out wr t x A' A3 n' n3 c' c3 hB hI (hI3.up hB) hkc hcap3)
        have HNIL := Lib.hid (com_nil ss t x)
        obtain ⟨Q, hQ⟩ : ∃ Q, comZ ss 12 t x = Q := ⟨_, rfl⟩
        rw [hQ] at CP2 HF HNIL
        obtain ⟨t2, e2⟩ := Q
        simp only at CP2
        by_cases he : e2 = 0
        · subst he
          clear hI hkc hB hdr hb3 r1 r2 hI3 hx hcap3 hQ hks
          go_wp2_with (go_at_call 49; refine CP2.out.mono ?_; rintro e w4 ⟨A4, n4, c4, rfl, hI4, hk4, hB4⟩; have HI4 := Lib.hid hI4; have HK4 := Lib.hid hk4; have HB4 := Lib.hid (below_then HBr.out hB4); clear hI4 hB4 hk4)
          go_roundw
          case rel => exact ⟨k + 1, A4, n4, c4, t2, by omega, by omega, by go_num, rfl, HI4.out, HK4.out, HB4.out, HF⟩
          case measure => simp [intOf]; omega
        · have hne : (e2 != 0) = true := by simpa using he
          have HE := Lib.hid (show R = ([], e2) by rw [← HF.out]; exact foldZ_err he (HNIL.out he) _)
          clear hI hkc hB hdr hb3 r1 r2 hI3 hx hcap3 hks HF he hQ HNIL
          go_wp2_with (go_at_call 49; refine CP2.out.mono ?_; rintro e w4 ⟨A4, n4, c4, rfl, hI4, hk4, hB4⟩; have HB4 := Lib.hid (below_then HBr.out hB4); clear hI4 hB4 hk4)
          go_ret2
          rw [HE.out]
          exact ⟨none, 0, 0, rfl, IntsAt.nil _ _ 0, HB4.out⟩
      · have hlt' : ¬ (k : Int) < (n : Int) := by omega
        have HE := Lib.hid (show (t, 0) = R by rw [← HF.out, List.drop_of_length_le (by have := HRL.out; omega)]; rfl)
        clear hI hkc hB HF hlt
        go_wp2
        go_ret2
        rw [← HE.out]
        exact ⟨A', n', c', rfl, HI.out, HBr.out⟩
  · have hz : allZ (comZ ss 12) ss tt = ([], lstE ss tt) := by
      unfold lstE at he ⊢
      unfold allZ
      by_cases hv : (tt.all (valOk ss) && sigOk ss) = false
      · rw [if_pos hv, if_pos hv]
      · rw [if_neg hv] at he
        rw [if_neg hv, if_neg hv]
        by_cases hl : tt.length < 1 ∨ 60 < tt.length
        · rw [if_pos hl, if_pos hl]
        · rw [if_neg hl] at he
          exact absurd rfl he
    rw [hz]
    obtain ⟨er, her⟩ : ∃ er, lstE ss tt = er := ⟨_, rfl⟩
    rw [her] at CL he ⊢
    have hne : (er != 0) = true := by simpa using he
    clear hs ht hcap hlen hz her he
    go_enter Try.func55, Try.ntmps55
    go_wp2_with (go_at_call 89; refine CL.out.mono ?_; rintro e w1 ⟨rfl, hB1⟩; have HB1 := Lib.hid hB1; clear hB1)
    go_ret2
    exact ⟨none, 0, 0, rfl, IntsAt.nil _ _ 0, HB1.out⟩

set_option maxRecDepth 100000 in
set_option maxHeartbeats 4000000 in
theorem refJoinAll_any (As At : Option Addr) (ns cs n c : Nat) (ss : Sg) (ls : List Hd) (tt : List (List Int)) (w : World) (hs : SigAt w w.heap.size As ns ss) (ht : TermsAt w w.heap.size At n ls tt) (hcap : ∀ x ∈ ls, capOk x) (hn : n ≤ 1000000) :
    Calls Try.prog 57 #[.slice As ns cs, .slice At n c] w (RetT w (allZ (joZ ss) ss tt).1 (allZ (joZ ss) ss tt).2) := by
  have CL := Lib.hid (listError_any As At ns cs n c ss ls tt w hs ht hn)
  have hlen := ht.len
  by_cases he : lstE ss tt = 0
  · have hv : (tt.all (valOk ss) && sigOk ss) = true := by
      cases h : (tt.all (valOk ss) && sigOk ss) with
      | true => rfl
      | false => unfold lstE at he; rw [if_pos h] at he; cases he
    have hl : ¬ (tt.length < 1 ∨ 60 < tt.length) := fun h => by
      unfold lstE at he; rw [if_neg (by simp [hv]), if_pos h] at he; cases he
    unfold allZ
    rw [if_neg (by simp [hv]), if_neg hl]
    rw [he] at CL
    have hn0 : 0 < n := by omega
    have hn60 : n ≤ 60 := by omega
    rw [Bool.and_eq_true, List.all_eq_true] at hv
    cases tt with
    | nil => simp at hl
    | cons a rest =>
    simp only [List.headD_cons, List.tail_cons]
    obtain ⟨b, off, A0, n0, c0, t0, rfl, hb, q1, q2, hI0⟩ := ht.cellAt hn0
    rw [Nat.add_zero] at q1
    simp only [List.getElem?_cons_zero, Option.some.injEq] at q2
    subst q2
    have hva := hv.1 a (List.mem_cons_self ..)
    have hns := sigOk_len hv.2
    have CC := Lib.hid (fun V (h : Below w.heap.size w V) => refRenamed_k A0 n0 c0 a V (hI0.up h) (by have := hI0.len; have := (valOk_term hva).1; omega) (by have := hI0.len; have := (valOk_term hva).2.1; omega) (fun z hz => by have := (valOk_term hva).2.2.1 z hz; omega))
    obtain ⟨R, hR⟩ : ∃ R, foldZ (joZ ss) (canon a, 0) rest = R := ⟨_, rfl⟩
    rw [hR]
    have HR := Lib.hid hR
    have HT := Lib.hid ht
    have HCAP := Lib.hid hcap
    have CP := Lib.hid (fun (V : World) (t x : List Int) (A1 A2 : Option Addr) (n1 n2 c1 c2 : Nat) (h : Below w.heap.size w V) (h1 : IntsAt V V.heap.size A1 n1 t) (h2 : IntsAt V V.heap.size A2 n2 x) (k1 : n1 ≤ c1 ∧ c1 ≤ 9223372036854775807) (k2 : n2 ≤ c2 ∧ c2 ≤ 9223372036854775807) => refJoin_any As A1 A2 ns cs n1 c1 n2 c2 ss t x V (hs.up h) h1 h2 k1.1 k1.2 k2.1 k2.2)
    have hrl : rest.length + 1 = n := by simpa using hlen.symm
    have HRL := Lib.hid hrl
    have hbl := hb
    clear hs ht hv hcap hlen hl hR hI0 hva hns hrl he hb
    go_enter Try.func57, Try.ntmps57
    go_wp2_with (first
      | (go_at_call 89; refine CL.out.mono ?_; rintro e w1 ⟨rfl, hB1⟩; have q1b := (hB1.cell (p := ⟨b, off, none⟩) hbl).trans q1; have HB1 := Lib.hid hB1; clear hB1)
      | (go_at_call 90; refine (CC.out _ HB1.out).mono ?_; rintro e w2 ⟨A2, c2, rfl, hI2, hB2⟩; have HB2 := Lib.hid (below_then HB1.out hB2); have HI2 := Lib.hid hI2; clear hI2 hB2))
    go_loopw [7, 8] (fun s7 i wr => ∃ (k : Nat) (A' : Option Addr) (n' c' : Nat) (t : List Int), 1 ≤ k ∧ k ≤ n ∧ i = .int .i64 k ∧ s7 = .slice A' n' c' ∧ IntsAt wr wr.heap.size A' n' t ∧ (n' ≤ c' ∧ c' ≤ 9223372036854775807) ∧ Below w.heap.size w wr ∧ Hid (foldZ (joZ ss) (t, 0) (rest.drop (k - 1)) = R)) (fun _ i _ => n - (intOf i).toNat)
    case atStart => exact ⟨1, A2, n0, c2, _, by omega, by have := HRL.out; omega, rfl, rfl, HI2.out.1, HI2.out.2, HB2.out, Lib.hid (by show foldZ _ _ (rest.drop 0) = R; rw [List.drop_zero]; exact HR.out)⟩
    case round =>
      obtain ⟨k, A', n', c', t, hk1, hk, rfl, rfl, hI, hkc, hB, HF⟩ := hrel
      have HI := Lib.hid hI
      have HBr := Lib.hid hB
      by_cases hlt : k < n
      · have hlt' : (k : Int) < (n : Int) := by omega
        have hk0 : (0 : Int) ≤ (k : Int) := by omega
        have hks : k - 1 < rest.length := by have := HRL.out; omega
        have hdr := List.drop_eq_getElem_cons hks
        obtain ⟨b', off', A3, n3, c3, x, e3, hb3, r1, r2, hI3⟩ := HT.out.cellAt (k := k) hlt
        cases e3
        have hx : rest[k - 1] = x := by
          rw [show k = k - 1 + 1 by omega, List.getElem?_cons_succ, List.getElem?_eq_getElem hks] at r2
          exact Option.some.inj r2
        have hcap3 : n3 ≤ c3 ∧ c3 ≤ 9223372036854775807 := by
          obtain ⟨b4, off4, e4, _, hcells⟩ := HT.out.hds.mem (by omega)
          cases e4
          have hl : k < ls.length := by have := HT.out.hds.len; omega
          have := hcells k hl
          rw [r1] at this
          have h2 := HCAP.out _ (List.getElem_mem hl)
          injection this with this
          injection this with ha hn hc
          unfold capOk at h2
          rw [← hn, ← hc] at h2
          exact h2
        have r1b : wr.cell? ⟨b, off + k, none⟩ = some (.slice A3 n3 c3) := (hB.cell (p := ⟨b, off + k, none⟩) hb3).trans r1
        rw [hdr, hx, foldZ_step, show k - 1 + 1 = k by omega] at HF
        have CP2 := Lib.hid (CP.out wr t x A' A3 n' n3 c' c3 hB hI (hI3.up hB) hkc hcap3)
        have HNIL := Lib.hid (jo_nil ss t x)
        obtain ⟨Q, hQ⟩ : ∃ Q, joZ ss t x = Q := ⟨_, rfl⟩
        rw [hQ] at CP2 HF HNIL
        obtain ⟨t2, e2⟩ := Q
        simp only at CP2
        by_cases he : e2 = 0
        · subst he
          clear hI hkc hB hdr hb3 r1 r2 hI3 hx hcap3 hQ hks
          go_wp2_with (go_at_call 53; refine CP2.out.mono ?_; rintro e w4 ⟨A4, n4, c4, rfl, hI4, hk4, hB4⟩; have HI4 := Lib.hid hI4; have HK4 := Lib.hid hk4; have HB4 := Lib.hid (below_then HBr.out hB4); clear hI4 hB4 hk4)
          go_roundw
          case rel => exact ⟨k + 1, A4, n4, c4, t2, by omega, by omega, by go_num, rfl, HI4.out, HK4.out, HB4.out, HF⟩
          case measure => simp [intOf]; omega
        · have hne : (e2 != 0) = true := by simpa using he
          have HE := Lib.hid (show R = ([], e2) by rw [← HF.out]; exact foldZ_err he (HNIL.out he) _)
          clear hI hkc hB hdr hb3 r1 r2 hI3 hx hcap3 hks HF he hQ HNIL
          go_wp2_with (go_at_call 53; refine CP2.out.mono ?_; rintro e w4 ⟨A4, n4, c4, rfl, hI4, hk4, hB4⟩; have HB4 := Lib.hid (below_then HBr.out hB4); clear hI4 hB4 hk4)
          go_ret2
          rw [HE.out]
          exact ⟨none, 0, 0, rfl, IntsAt.nil _ _ 0, HB4.out⟩
      · have hlt' : ¬ (k : Int) < (n : Int) := by omega
        have HE := Lib.hid (show (t, 0) = R by rw [← HF.out, List.drop_of_length_le (by have := HRL.out; omega)]; rfl)
        clear hI hkc hB HF hlt
        go_wp2
        go_ret2
        rw [← HE.out]
        exact ⟨A', n', c', rfl, HI.out, HBr.out⟩
  · have hz : allZ (joZ ss) ss tt = ([], lstE ss tt) := by
      unfold lstE at he ⊢
      unfold allZ
      by_cases hv : (tt.all (valOk ss) && sigOk ss) = false
      · rw [if_pos hv, if_pos hv]
      · rw [if_neg hv] at he
        rw [if_neg hv, if_neg hv]
        by_cases hl : tt.length < 1 ∨ 60 < tt.length
        · rw [if_pos hl, if_pos hl]
        · rw [if_neg hl] at he
          exact absurd rfl he
    rw [hz]
    obtain ⟨er, her⟩ : ∃ er, lstE ss tt = er := ⟨_, rfl⟩
    rw [her] at CL he ⊢
    have hne : (er != 0) = true := by simpa using he
    clear hs ht hcap hlen hz her he
    go_enter Try.func57, Try.ntmps57
    go_wp2_with (go_at_call 89; refine CL.out.mono ?_; rintro e w1 ⟨rfl, hB1⟩; have HB1 := Lib.hid hB1; clear hB1)
    go_ret2
    exact ⟨none, 0, 0, rfl, IntsAt.nil _ _ 0, HB1.out⟩

end Go.Proofs.Ytohhgghjpokdiaa
