/- The program's unification and the reference's solver find the same: the plain mathematics. -/
import Derived.Test.YtojofbmpknpggaaN23g
import Derived.Test.YtojofbmpknpggaaN33g
import Derived.Test.YtojofbmpknpggaaN35g
import Derived.Test.YtojofbmpknpggaaL0g
import Derived.Test.YtojofbmpknpggaaQ6g
/- Words: the terms that a solver has put for variables, in memory. -/
namespace Go.Proofs.Ytojofbmpknpggaa
open Go.RowKit

/-- No number lies in the block. -/
def NoInt (w : World) (d : Nat) : Prop := ∀ (o : Nat) (z : Int), w.cell? ⟨d, o, none⟩ ≠ some (.int .i64 z)
theorem IntsAt.keepN {w w' : World} {d n : Nat} {A : Option Addr} {zs : List Int} (h : IntsAt w w.heap.size A n zs) (k : KeepE (fun b => b < w.heap.size ∧ b ≠ d) w w') (hn : NoInt w d) : IntsAt w' w'.heap.size A n zs := by
  refine ⟨h.len, h.max, fun h0 => ?_⟩
  obtain ⟨b, off, e, hb, hc⟩ := h.mem h0
  have hl : 0 < zs.length := by rw [← h.len]; exact h0
  have hne : b ≠ d := fun e => hn (off + 0) zs[0] (by rw [← e]; exact hc 0 hl)
  exact ⟨b, off, e, Nat.lt_of_lt_of_le hb k.size, fun j hj => (k.cell (p := ⟨b, off + j, none⟩) ⟨hb, hne⟩).trans (hc j hj)⟩
theorem SigAt.keepN {w w' : World} {d n : Nat} {A : Option Addr} {ss : Sg} (h : SigAt w w.heap.size A n ss) (k : KeepE (fun b => b < w.heap.size ∧ b ≠ d) w w') (hn : NoInt w d) : SigAt w' w'.heap.size A n ss := by
  refine ⟨h.len, h.fit, h.max, fun h0 => ?_⟩
  obtain ⟨b, off, e, hb, hs⟩ := h.mem h0
  have hl : 0 < ss.length := by rw [← h.len]; exact h0
  have hne : b ≠ d := fun e => hn (off + 0 * 2 + 1) ss[0].2 (by rw [← e]; exact hs.ar 0 hl)
  exact ⟨b, off, e, Nat.lt_of_lt_of_le hb k.size, hs.keep fun o => k.cell (p := ⟨b, o, none⟩) ⟨hb, hne⟩⟩
section
variable {W W' : World} {d v ns cs : Nat} {As : Option Addr} {T : List (List Int)}
end

/-- All heads of the terms are numbers of terms. -/
def TosOk (T : List (List Int)) : Prop := ∀ t ∈ T, ∀ z ∈ t, -24 ≤ z
theorem TosOk.getD {T : List (List Int)} (h : TosOk T) (v : Nat) : ∀ z ∈ T.getD v [], -24 ≤ z := by
  intro z hz
  rw [List.getD_eq_getElem?_getD] at hz
  cases e : T[v]? with
  | none => rw [e] at hz; simp at hz
  | some t => rw [e] at hz; exact h t (List.mem_of_getElem? e) z hz
attribute [local go_sem] eql_nil0 eql_nil1 neq_nil0 neq_nil1

end Go.Proofs.Ytojofbmpknpggaa

/- Contract: the solver's occurs. -/
namespace Go.Proofs.Ytojofbmpknpggaa
open Go.RowKit
attribute [local go_sem] eql_nil0 eql_nil1 neq_nil0 neq_nil1

end Go.Proofs.Ytojofbmpknpggaa

/- Contract: Apart. -/
namespace Go.Proofs.Ytojofbmpknpggaa
open Go.RowKit

end Go.Proofs.Ytojofbmpknpggaa

/- Contract: the solver's Solve. -/
namespace Go.Proofs.Ytojofbmpknpggaa
open Go.RowKit
attribute [local go_sem] eql_nil0 eql_nil1 neq_nil0 neq_nil1

/-- A term whose variables may be of two terms. -/
structure GoodS (ss : Sg) (t : List Int) : Prop where
  scn : scan ss 1 t = some []
  hd : HeadsOk ss t
  lo : ∀ z ∈ t, -24 ≤ z
  le : t.length ≤ 60
/-- Nothing, or such a term, for each variable. -/
def TGood (ss : Sg) (T : List (List Int)) : Prop := ∀ t ∈ T, t = [] ∨ GoodS ss t
theorem TGood.getD {ss : Sg} {T : List (List Int)} (h : TGood ss T) (v : Nat) (hv : T.getD v [] ≠ []) : GoodS ss (T.getD v []) := by
  rw [List.getD_eq_getElem?_getD] at hv ⊢
  cases e : T[v]? with
  | none => rw [e] at hv; exact absurd rfl hv
  | some t =>
    rw [e] at hv
    rcases h t (List.mem_of_getElem? e) with rfl | g
    · exact absurd rfl hv
    · exact g
theorem TGood.set {ss : Sg} {T : List (List Int)} {t : List Int} (h : TGood ss T) (v : Nat) (ht : GoodS ss t) : TGood ss (T.set v t) := fun u hu => by
  rcases List.mem_or_eq_of_mem_set hu with hu | rfl
  · exact h u hu
  · exact .inr ht
theorem GoodS.pos {ss : Sg} {t : List Int} (h : GoodS ss t) : 1 ≤ t.length := by
  cases t with
  | nil => have := h.scn; cases this
  | cons z t => simp
/-- A term in memory, with its capacity. -/
def TermK (w : World) (A : Option Addr) (n c : Nat) (t : List Int) : Prop := IntsAt w w.heap.size A n t ∧ n ≤ c ∧ c ≤ 9223372036854775807
theorem TermK.below {w w' : World} {A : Option Addr} {n c : Nat} {t : List Int} (h : TermK w A n c t) (hb : Below w.heap.size w w') : TermK w' A n c t := ⟨h.1.up hb, h.2⟩
theorem TermK.keep {w w' : World} {d : Nat} {A : Option Addr} {n c : Nat} {t : List Int} (h : TermK w A n c t) (k : KeepE (fun b => b < w.heap.size ∧ b ≠ d) w w') (hn : NoInt w d) : TermK w' A n c t := ⟨h.1.keepN k hn, h.2⟩
section
variable {g : Nat}
end

end Go.Proofs.Ytojofbmpknpggaa

/- Contracts: the solver's size and whole. -/
namespace Go.Proofs.Ytojofbmpknpggaa
open Go.RowKit
attribute [local go_sem] eql_nil0 eql_nil1 neq_nil0 neq_nil1

/-- The size of what stands for a list; the sizes that are known. -/
def szL (g : List Int → List Nat → Option (Nat × List Nat)) (T : List (List Int)) : List Int → Nat → List Nat → Option (Nat × List Nat)
  | [], n, K => some (n, K)
  | z :: t, n, K => if 60 < n then some (n, K)
    else if 0 ≤ z ∨ T.getD (-z - 1).toNat [] = [] then szL g T t (n + 1) K
    else if K.getD (-z - 1).toNat 0 = 0 then match g (T.getD (-z - 1).toNat []) K with
      | none => none
      | some (s, K') => szL g T t (n + s) (K'.set (-z - 1).toNat s)
    else szL g T t (n + K.getD (-z - 1).toNat 0) K
def szF (T : List (List Int)) : Nat → List Int → List Nat → Option (Nat × List Nat)
  | 0, _, _ => none
  | m + 1, t, K => match szL (szF T m) T t 0 K with
    | none => none
    | some (n, K') => some (if 60 < n then 61 else n, K')
def KnOk (K : List Nat) : Prop := K.length = 24 ∧ ∀ k ∈ K, k ≤ 61
theorem KnOk.getD {K : List Nat} (h : KnOk K) (v : Nat) : K.getD v 0 ≤ 61 := by
  rw [List.getD_eq_getElem?_getD]
  cases e : K[v]? with
  | none => simp
  | some k => exact h.2 k (List.mem_of_getElem? e)
theorem KnOk.set {K : List Nat} (h : KnOk K) (v : Nat) {s : Nat} (hs : s ≤ 61) : KnOk (K.set v s) := ⟨by simpa using h.1, fun k hk => by
  rcases List.mem_or_eq_of_mem_set hk with hk | rfl
  · exact h.2 k hk
  · exact hs⟩
/-- What stands for a list, all variables that have a term replaced. -/
def whL (g : List Int → Option (List Int)) (T : List (List Int)) : List Int → Option (List Int)
  | [] => some []
  | z :: t => match (if z < 0 ∧ T.getD (-z - 1).toNat [] ≠ [] then g (T.getD (-z - 1).toNat []) else some [z]) with
    | none => none
    | some u => match whL g T t with
      | none => none
      | some r => some (u ++ r)
def whF (T : List (List Int)) : Nat → List Int → Option (List Int)
  | 0, _ => none
  | m + 1, t => whL (whF T m) T t
end Go.Proofs.Ytojofbmpknpggaa

/- The terms that are put for variables, and what stands for a term: the plain mathematics. -/
namespace Go.Proofs.Ytojofbmpknpggaa
open Go.RowKit

/-- No variable comes in what stands for it. -/
def Acy (T : List (List Int)) (ρ : Nat → Nat) : Prop :=
  ∀ v, T.getD v [] ≠ [] → ∀ z ∈ T.getD v [], z < 0 → T.getD (-z - 1).toNat [] ≠ [] → ρ (-z - 1).toNat < ρ v
section
variable {ss : Sg} {T : List (List Int)} {ρ : Nat → Nat} {σ : Int → List Int}
/-- The variables below a rank are among those of a list. -/
def Few' (T : List (List Int)) (ρ : Nat → Nat) (k c : Nat) : Prop := ∃ L : List Nat, (∀ v, T.getD v [] ≠ [] → ρ v < k → v ∈ L) ∧ L.length ≤ c
theorem Few'.next {k c v : Nat} (h : Few' T ρ k c) (hv : T.getD v [] ≠ []) (hk : ρ v < k) : 1 ≤ c ∧ Few' T ρ (ρ v) (c - 1) := by
  obtain ⟨L, h1, h2⟩ := h
  have hm := h1 v hv hk
  have hl := List.length_erase_of_mem hm
  have hp := List.length_pos_of_mem hm
  refine ⟨by omega, L.erase v, fun u hu hr => ?_, by omega⟩
  exact (List.mem_erase_of_ne (fun e => by rw [e] at hr; omega)).2 (h1 u hu (by omega))
/-- All variables of a list are below a rank. -/
def Low (T : List (List Int)) (ρ : Nat → Nat) (k : Nat) (t : List Int) : Prop := ∀ z ∈ t, z < 0 → T.getD (-z - 1).toNat [] ≠ [] → ρ (-z - 1).toNat < k
theorem Low.tail {k : Nat} {z : Int} {t : List Int} (h : Low T ρ k (z :: t)) : Low T ρ k t := fun x hx => h x (List.mem_cons_of_mem _ hx)
/-- The variables become what their terms become. -/
def Resp (σ : Int → List Int) (T : List (List Int)) : Prop := ∀ v : Nat, T.getD v [] ≠ [] → σ (-(v : Int) - 1) = apV σ (T.getD v [])
theorem apV_flat (σ τ : Int → List Int) : ∀ t, apV τ (apV σ t) = apV (fun z => apV τ (σ z)) t
  | [] => rfl
  | z :: t => by
    rw [show z :: t = [z] ++ t from rfl, apV_append, apV_append, apV_append, apV_flat σ τ t, apV_one, apV_one]
    by_cases hn : z < 0
    · rw [if_pos hn, if_pos hn]
    · rw [if_neg hn, if_neg hn, apV_one, if_neg hn]
/-- Terms for variables. -/
def GoodV (ss : Sg) (σ : Int → List Int) : Prop := ∀ z, z < 0 → scan ss 1 (σ z) = some []
theorem scan_apV (hσ : GoodV ss σ) : ∀ (p : List Int) (n : Nat) (r : List Int), scan ss n p = some r → scan ss n (apV σ p) = some (apV σ r)
  | p, 0, r, h => by rw [scan_zero] at h ⊢; cases h; rfl
  | [], n + 1, r, h => by cases h
  | z :: p, n + 1, r, h => by
    simp only [scan] at h
    rw [show z :: p = [z] ++ p from rfl, apV_append, apV_one]
    by_cases hn : z < 0
    · rw [arOf_neg ss hn, Nat.add_zero] at h
      rw [if_pos hn, show n + 1 = 1 + n by omega, scan_add, scan_append ss _ _ _ _ (hσ z hn)]
      exact scan_apV hσ p n r h
    · rw [if_neg hn]
      simp only [List.cons_append, List.nil_append, scan]
      exact scan_apV hσ p _ r h
end

end Go.Proofs.Ytojofbmpknpggaa

/- What the program's unification finds is a unifier: the plain mathematics. -/
namespace Go.Proofs.Ytojofbmpknpggaa
open Go.RowKit

section
variable {ss : Sg} {F : Fd} {R : Nat}
/-- A node becomes a term of finite depth. -/
def FinD (F : Fd) (R : Nat) : Nat → Nat → Prop
  | 0, _ => False
  | n + 1, k => ∃ r us, rootS F.prox R k = some r ∧ F.args[r]? = some us ∧ ∀ u ∈ us, FinD F R n u
/-- What it becomes. -/
def tmF (F : Fd) (R : Nat) : Nat → Nat → List Int
  | 0, _ => []
  | n + 1, k => match rootS F.prox R k with
    | none => []
    | some r => F.tops.getD r 0 :: (F.args.getD r []).flatMap (tmF F R n)
theorem FinD.mono : ∀ {n n' k : Nat}, n ≤ n' → FinD F R n k → FinD F R n' k
  | 0, n', k, _, h => h.elim
  | n + 1, 0, k, h, _ => by omega
  | n + 1, n' + 1, k, hn, h => by
    obtain ⟨r, us, h1, h2, h3⟩ := h
    exact ⟨r, us, h1, h2, fun u hu => FinD.mono (by omega) (h3 u hu)⟩
theorem flat_same {α : Type} {us : List α} {f g : α → List Int} (h : ∀ u ∈ us, f u = g u) : us.flatMap f = us.flatMap g := by
  induction us with
  | nil => rfl
  | cons u us ih => rw [List.flatMap_cons, List.flatMap_cons, h u (List.mem_cons_self ..), ih fun v hv => h v (List.mem_cons_of_mem _ hv)]
theorem tm_same : ∀ {n n' k : Nat}, n ≤ n' → FinD F R n k → tmF F R n' k = tmF F R n k
  | 0, n', k, _, h => h.elim
  | n + 1, 0, k, h, _ => by omega
  | n + 1, n' + 1, k, hn, h => by
    obtain ⟨r, us, h1, h2, h3⟩ := h
    unfold tmF
    rw [h1]
    simp only
    rw [show F.args.getD r [] = us by rw [List.getD_eq_getElem?_getD, h2]; rfl]
    congr 1
    exact flat_same fun u hu => tm_same (by omega) (h3 u hu)
open Classical in
/-- What a node becomes, if it becomes a term. -/
noncomputable def nuF (F : Fd) (R : Nat) (k : Nat) : List Int := if h : ∃ n, FinD F R n k then tmF F R h.choose k else [-1]
theorem nu_tm {n k : Nat} (h : FinD F R n k) : nuF F R k = tmF F R n k := by
  have h2 : ∃ n, FinD F R n k := ⟨n, h⟩
  unfold nuF
  rw [dif_pos h2]
  have hc := h2.choose_spec
  rcases Nat.le_total n h2.choose with hn | hn
  · exact tm_same hn h
  · exact (tm_same hn hc).symm
theorem nu_node {k r : Nat} {us : List Nat} {x : Int} (h : ∃ n, FinD F R n k) (hr : rootS F.prox R k = some r) (hu : F.args[r]? = some us) (hx : F.tops[r]? = some x) : nuF F R k = x :: us.flatMap (nuF F R) ∧ ∀ u ∈ us, ∃ n, FinD F R n u := by
  obtain ⟨n, h⟩ := h
  rw [nu_tm h]
  cases n with
  | zero => exact h.elim
  | succ n =>
    obtain ⟨r', us', h1, h2, h3⟩ := h
    rw [hr] at h1
    cases h1
    rw [hu] at h2
    cases h2
    refine ⟨?_, fun u hu => ⟨n, h3 u hu⟩⟩
    unfold tmF
    rw [hr]
    simp only
    rw [show F.args.getD r [] = us by rw [List.getD_eq_getElem?_getD, hu]; rfl, show F.tops.getD r 0 = x by rw [List.getD_eq_getElem?_getD, hx]; rfl]
    congr 1
    exact flat_same fun u hu => (nu_tm (h3 u hu)).symm
theorem fin_root {k j r : Nat} (h1 : rootS F.prox R k = some r) (h2 : rootS F.prox R j = some r) {n : Nat} (h : FinD F R n k) : FinD F R n j := by
  cases n with
  | zero => exact h.elim
  | succ n =>
    obtain ⟨r', us, h3, h4, h5⟩ := h
    rw [h1] at h3
    cases h3
    exact ⟨r, us, h2, h4, h5⟩
theorem tm_root {k j r : Nat} (h1 : rootS F.prox R k = some r) (h2 : rootS F.prox R j = some r) (n : Nat) : tmF F R n k = tmF F R n j := by
  cases n with
  | zero => rfl
  | succ n => unfold tmF; rw [h1, h2]
theorem nu_root {k j r : Nat} (h1 : rootS F.prox R k = some r) (h2 : rootS F.prox R j = some r) : nuF F R k = nuF F R j := by
  by_cases h : ∃ n, FinD F R n k
  · obtain ⟨n, h⟩ := h
    rw [nu_tm h, nu_tm (fin_root h1 h2 h), tm_root h1 h2]
  · have h' : ¬ ∃ n, FinD F R n j := fun ⟨n, hj⟩ => h ⟨n, fin_root h2 h1 hj⟩
    unfold nuF
    rw [dif_neg h, dif_neg h']
theorem fin_max : ∀ (us : List Nat), (∀ u ∈ us, ∃ n, FinD F R n u) → ∃ n, ∀ u ∈ us, FinD F R n u
  | [], _ => ⟨0, fun u hu => by simp at hu⟩
  | v :: us, h => by
    obtain ⟨n1, h1⟩ := h v (List.mem_cons_self ..)
    obtain ⟨n2, h2⟩ := fin_max us fun u hu => h u (List.mem_cons_of_mem _ hu)
    refine ⟨max n1 n2, fun u hu => ?_⟩
    rcases List.mem_cons.1 hu with rfl | hu
    · exact h1.mono (Nat.le_max_left ..)
    · exact (h2 u hu).mono (Nat.le_max_right ..)
/-- The root, by any rounds that are enough. -/
theorem root_by {prox : List Nat} (hR : RootsIn R prox) {m k r : Nat} (h : rootS prox m k = some r) : rootS prox R k = some r := by
  obtain ⟨hk, _, _⟩ := rootS_lt h
  obtain ⟨r2, h2⟩ := hR k hk
  have e1 := rootS_mono (Nat.le_max_left m R) h
  have e2 := rootS_mono (Nat.le_max_right m R) h2
  rw [e1] at e2
  cases e2
  exact h2
theorem root_self {prox : List Nat} (hR : RootsIn R prox) {m k r : Nat} (h : rootS prox m k = some r) : rootS prox R r = some r := by
  obtain ⟨_, hr, hp⟩ := rootS_lt h
  refine root_by hR (m := 1) ?_
  unfold rootS
  rw [hp]
  simp
/-- Where nothing comes again, all becomes terms. -/
theorem again_fin (hR : RootsIn R F.prox) : ∀ (m k : Nat) (i d i' d' : List Bool), againF F m k i d = some (false, i', d') → (∀ j : Nat, d[j]? = some true → ∃ n, FinD F R n j) → (∃ n, FinD F R n k) ∧ ∀ j : Nat, d'[j]? = some true → ∃ n, FinD F R n j
  | 0, k, i, d, i', d', h, _ => by cases h
  | m + 1, k, i, d, i', d', h, hd => by
    unfold againF at h
    cases hr : rootS F.prox m k with
    | none => rw [hr] at h; cases h
    | some r =>
    rw [hr] at h
    simp only at h
    have hk := root_by hR hr
    have hrr := root_self hR hr
    cases h1 : i[r]? with
    | none => rw [h1] at h; simp at h
    | some bi =>
    cases h2 : d[r]? with
    | none => rw [h1, h2] at h; simp at h
    | some bd =>
    cases h3 : F.args[r]? with
    | none => rw [h1, h2, h3] at h; simp at h
    | some us =>
    rw [h1, h2, h3] at h
    simp only at h
    split at h
    · rename_i hb
      cases h
      have hbd : bd = true := by simpa using hb
      subst hbd
      obtain ⟨n, hn⟩ := hd r h2
      exact ⟨⟨n, fin_root hrr hk hn⟩, hd⟩
    · have key : ∀ (us : List Nat) (i0 d0 i1 d1 : List Bool), (∀ j : Nat, d0[j]? = some true → ∃ n, FinD F R n j) → loopA (againF F m) us i0 d0 = some (false, i1, d1) → (∀ u ∈ us, ∃ n, FinD F R n u) ∧ ∀ j : Nat, d1[j]? = some true → ∃ n, FinD F R n j := by
        intro us
        induction us with
        | nil => intro i0 d0 i1 d1 h0 e; cases e; exact ⟨fun u hu => by simp at hu, h0⟩
        | cons u us ih =>
          intro i0 d0 i1 d1 h0 e
          unfold loopA at e
          cases e1 : againF F m u i0 d0 with
          | none => rw [e1] at e; cases e
          | some q =>
            obtain ⟨bq, iq, dq⟩ := q
            rw [e1] at e
            cases bq with
            | true => cases e
            | false =>
              obtain ⟨k1, k2⟩ := again_fin hR m u i0 d0 iq dq e1 h0
              obtain ⟨k3, k4⟩ := ih iq dq i1 d1 k2 e
              refine ⟨fun v hv => ?_, k4⟩
              rcases List.mem_cons.1 hv with rfl | hv
              · exact k1
              · exact k3 v hv
      cases e : loopA (againF F m) us (i.set r true) d with
      | none => rw [e] at h; simp at h
      | some q =>
        obtain ⟨bq, iq, dq⟩ := q
        rw [e] at h
        cases bq with
        | true => cases h
        | false =>
          cases h
          obtain ⟨k1, k2⟩ := key us _ _ _ _ hd e
          obtain ⟨n, hn⟩ := fin_max us k1
          have hfr : FinD F R (n + 1) r := ⟨r, us, hrr, h3, hn⟩
          refine ⟨⟨n + 1, fin_root hrr hk hfr⟩, fun j hj => ?_⟩
          rcases set_get? hj with ⟨rfl, _, _⟩ | ⟨_, hj⟩
          · exact ⟨n + 1, hfr⟩
          · exact k2 j hj
theorem endless_fin (hR : RootsIn R F.prox) {m k : Nat} (h : endlessF F m k = some false) : ∃ n, FinD F R n k := by
  unfold endlessF at h
  rw [Option.map_eq_some_iff] at h
  obtain ⟨⟨b, i', d'⟩, h1, h2⟩ := h
  simp only at h2
  subst h2
  refine (again_fin hR m k _ _ i' d' h1 fun j hj => ?_).1
  rw [List.getElem?_replicate] at hj
  split at hj <;> simp at hj
/-- What stands for each other: roots have the tops and the arguments of those for which they stand, as far as a naming q tells them apart; the pairs of S are one. -/
def Cgr (S st : List (Nat × Nat)) (F : Fd) : Prop := ∀ q : Nat → Nat, (∀ k p, F.prox[k]? = some p → q k = q p) → (∀ e ∈ st, q e.1 = q e.2) →
  (∀ e ∈ S, q e.1 = q e.2) ∧ ∀ (j : Nat) (x : Int) (us : List Nat), F.tops[j]? = some x → 0 ≤ x → F.args[j]? = some us → ∀ M r, rootS F.prox M j = some r → F.tops[r]? = some x ∧ ∃ us', F.args[r]? = some us' ∧ us'.map q = us.map q
theorem root_q {prox : List Nat} {q : Nat → Nat} (hq : ∀ k p, prox[k]? = some p → q k = q p) : ∀ {m k r : Nat}, rootS prox m k = some r → q k = q r
  | 0, k, r, h => by cases h
  | m + 1, k, r, h => by
    unfold rootS at h
    cases e : prox[k]? with
    | none => rw [e] at h; cases h
    | some p =>
      rw [e] at h
      simp only at h
      split at h
      · cases h; rfl
      · rw [hq k p e]; exact root_q hq h
theorem q_setp {prox : List Nat} {q : Nat → Nat} {x y : Nat} (hx : prox[x]? = some x) (hq : ∀ k p, (prox.set x y)[k]? = some p → q k = q p) : (∀ k p, prox[k]? = some p → q k = q p) ∧ q x = q y := by
  have hxl := (List.getElem?_eq_some_iff.1 hx).1
  refine ⟨fun k p hk => ?_, hq x y (by rw [List.getElem?_set, if_pos rfl, if_pos hxl])⟩
  by_cases e : k = x
  · subst e
    rw [hx] at hk
    cases hk
    rfl
  · exact hq k p (by rw [List.getElem?_set, if_neg (Ne.symm e)]; exact hk)
theorem root_setp {prox : List Nat} {x y : Nat} (hR : ∃ R, RootsIn R prox) (hx : prox[x]? = some x) (hy : prox[y]? = some y) (hxy : x ≠ y) {M j r : Nat} (h : rootS (prox.set x y) M j = some r) : ∃ M0 r0, rootS prox M0 j = some r0 ∧ r = if r0 = x then y else r0 := by
  obtain ⟨R, hR⟩ := hR
  obtain ⟨hj, _, _⟩ := rootS_lt h
  rw [List.length_set] at hj
  obtain ⟨r0, h0⟩ := hR j hj
  refine ⟨R, r0, h0, ?_⟩
  have e1 := rootS_mono (Nat.le_max_left (R + 1) M) (rootS_setp hx hy hxy h0)
  have e2 := rootS_mono (Nat.le_max_right (R + 1) M) h
  rw [e1] at e2
  exact (Option.some.inj e2).symm
theorem solve_cgr (S : List (Nat × Nat)) : ∀ (m : Nat) (st : List (Nat × Nat)) (F G : Fd), F.Ok → ArN ss F → (∃ R, RootsIn R F.prox) → solveF m st F = some (true, G) → Cgr S st F → Cgr S [] G ∧ SameG F G ∧ (∃ R, RootsIn R G.prox)
  | 0, st, F, G, _, _, _, h, _ => by cases h
  | m + 1, st, F, G, hF, hA, hR, h, hC => by
    unfold solveF at h
    cases hl : st.getLast? with
    | none =>
      rw [hl] at h
      cases h
      have : st = [] := List.getLast?_eq_none_iff.1 hl
      subst this
      exact ⟨hC, SameG.refl _, hR⟩
    | some lr =>
      obtain ⟨l, r⟩ := lr
      rw [hl] at h
      simp only at h
      have hsplit : ∀ e ∈ st, e ∈ st.dropLast ∨ e = (l, r) := fun e he => by
        have hne : st ≠ [] := List.ne_nil_of_mem he
        have h1 := List.dropLast_concat_getLast hne
        rw [List.getLast?_eq_some_getLast hne] at hl
        rw [Option.some.inj hl] at h1
        rw [← h1] at he
        rcases List.mem_append.1 he with he | he
        · exact .inl he
        · exact .inr (List.mem_singleton.1 he)
      cases h1 : rootS F.prox m l with
      | none => rw [h1] at h; cases h
      | some x =>
      cases h2 : rootS F.prox m r with
      | none => rw [h1, h2] at h; cases h
      | some y =>
      rw [h1, h2] at h
      simp only at h
      obtain ⟨_, hx, ex⟩ := rootS_lt h1
      obtain ⟨_, hy, ey⟩ := rootS_lt h2
      rw [hF.pl] at hx hy
      split at h
      · rename_i hxy
        subst hxy
        refine solve_cgr S m _ F G hF hA hR h fun q hq hs => hC q hq fun e he => ?_
        rcases hsplit e he with he | rfl
        · exact hs e he
        · show q l = q r
          rw [root_q hq h1, root_q hq h2]
      · rename_i hxy
        rw [List.getElem?_eq_getElem hx, List.getElem?_eq_getElem hy] at h
        simp only at h
        have step : ∀ (x y : Nat) (st2 : List (Nat × Nat)), x < F.tops.length → y < F.tops.length → F.prox[x]? = some x → F.prox[y]? = some y → x ≠ y → (∀ q : Nat → Nat, (∀ k p, F.prox[k]? = some p → q k = q p) → q x = q y → q l = q r) →
            (∀ q : Nat → Nat, (∀ e ∈ st2, q e.1 = q e.2) → ∀ e ∈ st.dropLast, q e.1 = q e.2) → (∀ q : Nat → Nat, (∀ e ∈ st2, q e.1 = q e.2) → ∀ (x1 : Int) (us : List Nat), F.tops[x]? = some x1 → 0 ≤ x1 → F.args[x]? = some us → F.tops[y]? = some x1 ∧ ∃ us', F.args[y]? = some us' ∧ us'.map q = us.map q) →
            solveF m st2 { F with prox := F.prox.set x y } = some (true, G) → Cgr S [] G ∧ SameG F G ∧ (∃ R, RootsIn R G.prox) := by
          intro x y st2 hx hy ex ey hne hlr hst2 hargs h
          obtain ⟨R0, hR0⟩ := hR
          obtain ⟨g1, g2, g3⟩ := solve_cgr S m st2 { F with prox := F.prox.set x y } G (hF.setp hy) hA ⟨R0 + 1, hR0.setp ex ey hne⟩ h (fun q hq hs => by
            obtain ⟨hq0, hqxy⟩ := q_setp ex hq
            have hlr' := hlr q hq0 hqxy
            obtain ⟨c1, c2⟩ := hC q hq0 (fun e he => by
              rcases hsplit e he with he | rfl
              · exact hst2 q hs e he
              · exact hlr')
            refine ⟨c1, fun j x1 us hj h0 hu M r1 hr => ?_⟩
            obtain ⟨M0, r0, hr0, rfl⟩ := root_setp ⟨R0, hR0⟩ ex ey hne hr
            obtain ⟨d1, us', d2, d3⟩ := c2 j x1 us hj h0 hu M0 r0 hr0
            split
            · rename_i e
              subst e
              obtain ⟨e1, us2, e2, e3⟩ := hargs q hs x1 us' d1 h0 d2
              exact ⟨e1, us2, e2, e3.trans d3⟩
            · exact ⟨d1, us', d2, d3⟩)
          exact ⟨g1, g2.set, g3⟩
        by_cases hty : F.tops[y] < 0
        · simp only [hty, if_true] at h
          refine step y x _ hy hx ey ex (Ne.symm hxy) (fun q hq he => by rw [root_q hq h1, root_q hq h2, he]) (fun q hs => hs) (fun q _ x1 us hj h0 _ => ?_) h
          rw [List.getElem?_eq_getElem hy] at hj
          cases hj
          omega
        · simp only [hty, if_false] at h
          split at h
          · rename_i htx
            refine step x y _ hx hy ex ey hxy (fun q hq he => by rw [root_q hq h1, root_q hq h2, he]) (fun q hs => hs) (fun q _ x1 us hj h0 _ => ?_) h
            rw [List.getElem?_eq_getElem hx] at hj
            cases hj
            omega
          · rename_i htx
            have hxa : x < F.args.length := by rw [hF.al]; exact hx
            have hya : y < F.args.length := by rw [hF.al]; exact hy
            split at h
            · rename_i e1
              rw [List.getElem?_eq_getElem hxa, List.getElem?_eq_getElem hya] at h
              simp only at h
              obtain ⟨s1, _⟩ := hA x _ _ (List.getElem?_eq_getElem hx) (List.getElem?_eq_getElem hxa)
              obtain ⟨t1, _⟩ := hA y _ _ (List.getElem?_eq_getElem hy) (List.getElem?_eq_getElem hya)
              split at h
              · refine step x y _ hx hy ex ey hxy (fun q hq he => by rw [root_q hq h1, root_q hq h2, he]) (fun q hs e he => hs e (List.mem_append_left _ he)) (fun q hs x1 us hj h0 hu => ?_) h
                rw [List.getElem?_eq_getElem hx] at hj
                cases hj
                rw [List.getElem?_eq_getElem hxa] at hu
                cases hu
                refine ⟨by rw [List.getElem?_eq_getElem hy, e1], _, List.getElem?_eq_getElem hya, ?_⟩
                have hlen : F.args[x].length = F.args[y].length := by rw [s1, t1, e1]
                have hz : ∀ e ∈ F.args[x].zip F.args[y], q e.1 = q e.2 := fun e he => hs e (List.mem_append_right _ he)
                have zipq : ∀ (a b : List Nat), a.length = b.length → (∀ e ∈ a.zip b, q e.1 = q e.2) → b.map q = a.map q := by
                  intro a
                  induction a with
                  | nil => intro b hb _; cases b with
                    | nil => rfl
                    | cons _ _ => simp at hb
                  | cons u a ih => intro b hb hz; cases b with
                    | nil => simp at hb
                    | cons v b =>
                      rw [List.map_cons, List.map_cons, ih b (by simpa using hb) (fun e he => hz e (by rw [List.zip_cons_cons]; exact List.mem_cons_of_mem _ he)), hz (u, v) (by rw [List.zip_cons_cons]; exact List.mem_cons_self ..)]
                exact zipq _ _ hlen hz
              · cases h
            · cases h
end
end Go.Proofs.Ytojofbmpknpggaa

/- What the program's unification finds is the most general one: the plain mathematics. -/
namespace Go.Proofs.Ytojofbmpknpggaa
open Go.RowKit

section
variable {ss : Sg} {G : Fd} {R : Nat}
theorem flat_scan {f : Nat → List Int} : ∀ (us : List Nat), (∀ u ∈ us, scan ss 1 (f u) = some []) → scan ss us.length (us.flatMap f) = some []
  | [], _ => by rw [List.length_nil, scan_zero]; rfl
  | u :: us, h => by
    rw [List.flatMap_cons, List.length_cons, Nat.add_comm, scan_add, scan_append ss _ _ _ _ (h u (List.mem_cons_self ..))]
    exact flat_scan us fun v hv => h v (List.mem_cons_of_mem _ hv)
theorem nu_scan (hA : ArN ss G) (hal : G.args.length = G.tops.length) (k : Nat) : scan ss 1 (nuF G R k) = some [] := by
  have key : ∀ n k, FinD G R n k → scan ss 1 (nuF G R k) = some [] := by
    intro n
    induction n with
    | zero => intro k h; exact h.elim
    | succ n ih =>
      intro k h
      obtain ⟨r, us, h1, h2, h3⟩ := id h
      have hr : r < G.tops.length := by rw [← hal]; exact (List.getElem?_eq_some_iff.1 h2).1
      have hx := List.getElem?_eq_getElem hr
      rw [(nu_node ⟨_, h⟩ h1 h2 hx).1]
      simp only [scan]
      rw [Nat.zero_add, ← (hA r _ us hx h2).1]
      exact flat_scan us fun u hu => ih u (h3 u hu)
  by_cases h : ∃ n, FinD G R n k
  · obtain ⟨n, h⟩ := h
    exact key n k h
  · unfold nuF
    rw [dif_neg h]
    exact scan_neg (by omega)
theorem nu_pos (hA : ArN ss G) (hal : G.args.length = G.tops.length) (k : Nat) : 1 ≤ (nuF G R k).length := scan_len (nu_scan hA hal k)
/-- What is written is what the node becomes. -/
theorem write_nu (hA : ArN ss G) (hal : G.args.length = G.tops.length) (hR : RootsIn R G.prox) : ∀ (m k : Nat) (t t' : List Int) (b : Bool), writeF G m k t = some (b, t') → t.length ≤ 60 → (∃ n, FinD G R n k) → (b = true → t' = t ++ nuF G R k) ∧ (b = false → 60 < t.length + (nuF G R k).length)
  | 0, k, t, t', b, h, _, _ => by cases h
  | m + 1, k, t, t', b, h, h60, hf => by
    unfold writeF at h
    cases hr : rootS G.prox m k with
    | none => rw [hr] at h; cases h
    | some r =>
    rw [hr] at h
    simp only at h
    have hk := root_by hR hr
    have hlen := nu_pos (R := R) hA hal k
    split at h
    · rename_i e60
      cases h
      exact ⟨fun hb => (by cases hb), fun _ => by omega⟩
    · rename_i e60
      cases h1 : G.tops[r]? with
      | none => rw [h1] at h; cases h
      | some x =>
      cases h2 : G.args[r]? with
      | none => rw [h1, h2] at h; cases h
      | some us =>
      rw [h1, h2] at h
      simp only at h
      obtain ⟨n1, n2⟩ := nu_node hf hk h2 h1
      have key : ∀ (us : List Nat) (t0 t1 : List Int) (b1 : Bool), (∀ u ∈ us, ∃ n, FinD G R n u) → t0.length ≤ 60 → loopW (writeF G m) us t0 = some (b1, t1) → (b1 = true → t1 = t0 ++ us.flatMap (nuF G R)) ∧ (b1 = false → 60 < t0.length + (us.flatMap (nuF G R)).length) := by
        intro us
        induction us with
        | nil => intro t0 t1 b1 _ _ e; cases e; exact ⟨fun _ => by simp, fun hb => (by cases hb)⟩
        | cons u us ih =>
          intro t0 t1 b1 hu hl0 e
          unfold loopW at e
          cases e1 : writeF G m u t0 with
          | none => rw [e1] at e; cases e
          | some q =>
            obtain ⟨bq, tq⟩ := q
            obtain ⟨k1, k2⟩ := write_nu hA hal hR m u t0 tq bq e1 hl0 (hu u (List.mem_cons_self ..))
            rw [e1] at e
            rw [List.flatMap_cons, List.length_append]
            cases bq with
            | false =>
              cases e
              exact ⟨fun hb => (by cases hb), fun _ => by have := k2 rfl; omega⟩
            | true =>
              have htq := writeF_len m u t0 true _ e1 hl0
              obtain rfl := k1 rfl
              obtain ⟨j1, j2⟩ := ih _ t1 b1 (fun v hv => hu v (List.mem_cons_of_mem _ hv)) htq e
              refine ⟨fun hb => by rw [j1 hb, List.append_assoc], fun hb => ?_⟩
              have h3 := j2 hb
              rw [List.length_append] at h3
              omega
      have ht1 : (t ++ [x]).length ≤ 60 := by rw [List.length_append, List.length_singleton]; omega
      obtain ⟨k1, k2⟩ := key us _ _ _ n2 ht1 h
      rw [n1]
      refine ⟨fun hb => by rw [k1 hb, List.append_assoc]; rfl, fun hb => ?_⟩
      have := k2 hb
      rw [List.length_append, List.length_singleton] at this
      rw [List.length_cons]
      omega
/-- What is found is the most general. -/
theorem nu_gen {ν : Nat → List Int} {τ : Int → List Int} (hV : Val ss G ν) (hal : G.args.length = G.tops.length) (hτ : ∀ (j : Nat) (x : Int), G.tops[j]? = some x → x < 0 → τ x = ν j) : ∀ n k, FinD G R n k → apV τ (nuF G R k) = ν k := by
  intro n
  induction n with
  | zero => intro k h; exact h.elim
  | succ n ih =>
    intro k h
    obtain ⟨r, us, h1, h2, h3⟩ := id h
    have hr : r < G.tops.length := by rw [← hal]; exact (List.getElem?_eq_some_iff.1 h2).1
    have hx := List.getElem?_eq_getElem hr
    rw [(nu_node ⟨_, h⟩ h1 h2 hx).1, rootS_val hV.prx h1, show G.tops[r] :: us.flatMap (nuF G R) = [G.tops[r]] ++ us.flatMap (nuF G R) from rfl, apV_append, apV_one]
    have hfl : ∀ us : List Nat, (∀ u ∈ us, FinD G R n u) → apV τ (us.flatMap (nuF G R)) = us.flatMap ν := by
      intro us
      induction us with
      | nil => intro _; rfl
      | cons u us ihu =>
        intro hu
        rw [List.flatMap_cons, List.flatMap_cons, apV_append, ih u (hu u (List.mem_cons_self ..)), ihu fun v hv => hu v (List.mem_cons_of_mem _ hv)]
    by_cases h0 : 0 ≤ G.tops[r]
    · rw [if_neg (by omega), hfl us h3, (hV.sym r _ us hx h2 h0).1]
      rfl
    · have hu := hV.var r _ us hx h2 (by omega)
      subst hu
      rw [if_pos (by omega), hτ r _ hx (by omega)]
      simp [apV]
theorem root_pid {prox : List Nat} (hp : ∀ k p : Nat, prox[k]? = some p → p = k) {M j r : Nat} (h : rootS prox M j = some r) : r = j := by
  cases M with
  | zero => cases h
  | succ M =>
    unfold rootS at h
    cases e : prox[j]? with
    | none => rw [e] at h; cases h
    | some p =>
      rw [e] at h
      simp only at h
      rw [if_pos (hp j p e)] at h
      exact (Option.some.inj h).symm
/-- What becomes of each variable. -/
noncomputable def sgG (G : Fd) (R : Nat) (z : Int) : List Int := match vget G.vars z with | some k => nuF G R k | none => [z]
/-- All that is known where the program's unification says yes. -/
structure UniIs (ss : Sg) (sh : Int) (za zb : List Int) (k : Nat) (G : Fd) (R : Nat) : Prop where
  rts : RootsIn R G.prox
  al : G.args.length = G.tops.length
  arn : ArN ss G
  fin : ∃ n, FinD G R n k
  good : GoodV ss (sgG G R)
  one : apV (sft (sgG G R) 0) za = nuF G R k
  two : apV (sft (sgG G R) sh) zb = nuF G R k
  vt : ∀ (z : Int) (j : Nat), vget G.vars z = some j → G.tops[j]? = some z ∧ j < G.prox.length
  tv : ∀ (j : Nat) (z : Int), G.tops[j]? = some z → z < 0 → vget G.vars z = some j ∧ G.args[j]? = some []
  ina : ∀ z ∈ za, z < 0 → ∃ j, vget G.vars z = some j ∧ ∃ n, FinD G R n j
  inb : ∀ z ∈ zb, z < 0 → ∃ j, vget G.vars (z - sh) = some j ∧ ∃ n, FinD G R n j
/-- The program's unification, where it says yes: what both terms become. -/
theorem unite_all {sh : Int} {za zb : List Int} {k : Nat} (hsh : 0 ≤ sh) (ha : valOk ss za = true) (hb : valOk ss zb = true) (h : uniteF ss sh 10000 za zb Fd.none = some (k, true, G)) :
    ∃ R, UniIs ss sh za zb k G R := by
  have har := sigOk_ar (valOk_sig ha)
  obtain ⟨ν, h1, h2, h3, h4, hk1, hk2, hlen⟩ := both_val (σ := fun z => if z < 0 then [z] else [-1]) hsh ha hb (fun z hz => by
    show scan ss 1 (if z < 0 then [z] else [-1]) = some []
    rw [if_pos hz]; exact scan_neg hz)
  have hV := h1.val
  unfold uniteF at h
  obtain ⟨F, hFF⟩ : ∃ F, (addT ss sh zb (addT ss 0 za Fd.none).2.2).2.2 = F := ⟨_, rfl⟩
  obtain ⟨k1, hkk1⟩ : ∃ k1, (addT ss 0 za Fd.none).1 = k1 := ⟨_, rfl⟩
  obtain ⟨k2, hkk2⟩ : ∃ k2, (addT ss sh zb (addT ss 0 za Fd.none).2.2).1 = k2 := ⟨_, rfl⟩
  rw [hFF, hkk1, hkk2] at h
  rw [hFF] at h1 h2 hk1 hk2 hlen hV
  rw [hkk1] at h3 hk1
  rw [hkk2] at h4 hk2
  clear hFF hkk1 hkk2
  have hA : ArN ss F := by
    intro k x us hx hu
    by_cases h0 : 0 ≤ x
    · obtain ⟨_, e⟩ := hV.sym k x us hx hu h0
      exact ⟨e, by rw [e]; exact arOf_le har x⟩
    · have e := hV.var k x us hx hu (by omega)
      subst e
      rw [arOf_neg ss (by omega)]
      exact ⟨rfl, by simp⟩
  have hR0 : RootsIn 1 F.prox := fun k hk => by
    refine ⟨k, ?_⟩
    unfold rootS
    rw [List.getElem?_eq_getElem hk]
    simp only
    rw [if_pos (h1.pid k _ (List.getElem?_eq_getElem hk))]
  cases hs : solveF 10000 [(k1, k2)] F with
  | none => rw [hs] at h; cases h
  | some q =>
  obtain ⟨b, G1⟩ := q
  rw [hs] at h
  cases b with
  | false => simp at h
  | true =>
  simp only at h
  cases he : endlessF G1 10000 k1 with
  | none => rw [he] at h; cases h
  | some en =>
  rw [he] at h
  simp only [Option.some.injEq, Prod.mk.injEq] at h
  obtain ⟨rfl, hen, rfl⟩ := h
  have hen' : en = false := by simpa using hen
  subst hen'
  obtain ⟨hC, hG, R, hR⟩ := solve_cgr [(k1, k2)] 10000 _ F G1 h2 hA ⟨1, hR0⟩ hs (fun q _ hs => ⟨hs, fun j x us hj h0 hu M r hr => by
    obtain rfl := root_pid h1.pid hr
    exact ⟨hj, us, hu, rfl⟩⟩)
  have hal : G1.args.length = G1.tops.length := by rw [hG.args, hG.tops]; exact h2.al
  have hAG := hA.same hG
  have hfin := endless_fin hR he
  have hlt : ∀ k, k < F.tops.length → ∃ r, rootS G1.prox R k = some r := fun k hk => hR k (by rw [hG.plen, h2.pl]; exact hk)
  obtain ⟨hpair, hcg⟩ := hC (fun k => (rootS G1.prox R k).getD k) (fun k p hk => by
    show (rootS G1.prox R k).getD k = (rootS G1.prox R p).getD p
    by_cases e : p = k
    · rw [e]
    · obtain ⟨r, hr⟩ := hR k (List.getElem?_eq_some_iff.1 hk).1
      have hr2 := rootS_mono (m' := R + 1) (by omega) hr
      unfold rootS at hr2
      rw [hk] at hr2
      simp only at hr2
      rw [if_neg e] at hr2
      rw [hr, hr2]
      rfl) (fun e he => by simp at he)
  have hkk := hpair (k1, k2) (List.mem_singleton.2 rfl)
  obtain ⟨r1, hr1⟩ := hlt k1 hk1
  obtain ⟨r2, hr2⟩ := hlt k2 hk2
  simp only [hr1, hr2, Option.getD_some] at hkk
  subst hkk
  have hfin2 : ∃ n, FinD G1 R n k2 := by
    obtain ⟨n, hn⟩ := hfin
    exact ⟨n, fin_root hr1 hr2 hn⟩
  have hgd : GoodV ss (sgG G1 R) := fun z hz => by
    unfold sgG
    split
    · exact nu_scan hAG hal _
    · exact scan_neg hz
  obtain ⟨σ, hσ⟩ : ∃ σ : Int → List Int, sgG G1 R = σ := ⟨_, rfl⟩
  have hσv : ∀ (z : Int) (k : Nat), vget F.vars z = some k → σ z = nuF G1 R k := fun z k hk => by rw [← hσ]; unfold sgG; rw [hG.vars, hk]
  have hfin2 := hfin2
  have fin : (apV (sft σ 0) za = nuF G1 R k1 ∧ apV (sft σ sh) zb = nuF G1 R k1) ∧ (∀ z ∈ za, z < 0 → ∃ j, vget F.vars z = some j ∧ ∃ n, FinD G1 R n j) ∧ (∀ z ∈ zb, z < 0 → ∃ j, vget F.vars (z - sh) = some j ∧ ∃ n, FinD G1 R n j) := by
    have main : ∀ (L j : Nat), j < F.tops.length → (ν j).length ≤ L → (∃ n, FinD G1 R n j) → apV σ (ν j) = nuF G1 R j ∧ ∀ z ∈ ν j, z < 0 → ∃ i, vget F.vars z = some i ∧ ∃ n, FinD G1 R n i := by
      intro L
      induction L with
      | zero => intro j hj hL; have := scan_len (h1.trm j hj); omega
      | succ L ih =>
        intro j hj hL hf
        have hx := List.getElem?_eq_getElem hj
        have hja : j < F.args.length := by rw [h2.al]; exact hj
        have hu := List.getElem?_eq_getElem hja
        by_cases h0 : 0 ≤ F.tops[j]
        · obtain ⟨s1, s2⟩ := h1.sym j _ _ hx hu h0 (fun h => h)
          obtain ⟨r, hr⟩ := hlt j hj
          obtain ⟨d1, us', d2, d3⟩ := hcg j _ _ (by rw [hG.tops]; exact hx) h0 (by rw [hG.args]; exact hu) R r hr
          obtain ⟨n1, n2⟩ := nu_node hf hr d2 d1
          have hub : ∀ u ∈ F.args[j], u < F.tops.length := fun u hu => h2.ab _ (List.getElem_mem hja) u hu
          have hub' : ∀ u ∈ us', u < F.tops.length := fun u hu => h2.ab us' (by rw [← hG.args]; exact List.mem_of_getElem? d2) u hu
          have hgq : ∀ u, u < F.tops.length → nuF G1 R ((rootS G1.prox R u).getD u) = nuF G1 R u := fun u hu => by
            obtain ⟨r, hr⟩ := hlt u hu
            rw [hr, Option.getD_some]
            exact nu_root (root_self hR hr) hr
          have hfl : ∀ us : List Nat, (∀ u ∈ us, u < F.tops.length) → us.flatMap (nuF G1 R) = (us.map fun k => (rootS G1.prox R k).getD k).flatMap (nuF G1 R) := fun us hus => by
            rw [List.flatMap_map]
            exact flat_same fun u hu => (hgq u (hus u hu)).symm
          have hfu : ∀ u ∈ F.args[j], ∃ n, FinD G1 R n u := fun u hu => by
            have hm : (rootS G1.prox R u).getD u ∈ F.args[j].map fun k => (rootS G1.prox R k).getD k := List.mem_map_of_mem hu
            rw [← d3] at hm
            obtain ⟨u', hu', e⟩ := List.mem_map.1 hm
            obtain ⟨ru, hru⟩ := hlt u (hub u hu)
            obtain ⟨ru', hru'⟩ := hlt u' (hub' u' hu')
            simp only [hru, hru', Option.getD_some] at e
            subst e
            obtain ⟨n, hn⟩ := n2 u' hu'
            exact ⟨n, fin_root hru' hru hn⟩
          rw [s1] at hL ⊢
          rw [n1, hfl us' hub', d3, ← hfl _ hub, show F.tops[j] :: F.args[j].flatMap ν = [F.tops[j]] ++ F.args[j].flatMap ν from rfl, apV_append, apV_one, if_neg (by omega)]
          rw [List.length_cons] at hL
          have hap : ∀ us : List Nat, (∀ u ∈ us, apV σ (ν u) = nuF G1 R u) → apV σ (us.flatMap ν) = us.flatMap (nuF G1 R) := by
            intro us
            induction us with
            | nil => intro _; rfl
            | cons u us ihu =>
              intro hh
              rw [List.flatMap_cons, List.flatMap_cons, apV_append, hh u (List.mem_cons_self ..), ihu fun v hv => hh v (List.mem_cons_of_mem _ hv)]
          refine ⟨by
            rw [hap _ fun u hu => (ih u (hub u hu) (by have := flat_lt (ν := ν) u hu; omega) (hfu u hu)).1]
            rfl, fun z hz hn => ?_⟩
          rcases List.mem_cons.1 hz with rfl | hz
          · omega
          · obtain ⟨u, hu, hz⟩ := List.mem_flatMap.1 hz
            exact (ih u (hub u hu) (by have := flat_lt (ν := ν) u hu; omega) (hfu u hu)).2 z hz hn
        · obtain ⟨t1, t2⟩ := h1.tv j _ hx (by omega)
          rw [t2, if_pos (by omega), apV_one, if_pos (by omega)]
          refine ⟨hσv _ _ t1, fun z hz _ => ?_⟩
          rw [List.mem_singleton] at hz
          subst hz
          exact ⟨j, t1, hf⟩
    obtain ⟨m1, i1⟩ := main _ k1 hk1 (Nat.le_refl _) hfin
    obtain ⟨m2, i2⟩ := main _ k2 hk2 (Nat.le_refl _) hfin2
    rw [h3] at m1 i1
    rw [h4] at m2 i2
    have hin : ∀ (sh : Int), 0 ≤ sh → ∀ t : List Int, ∀ z ∈ t, z < 0 → z - sh ∈ apV (sft (fun z => if z < 0 then [z] else [-1]) sh) t := fun sh h0 t z hz hn => by
      unfold apV
      rw [List.mem_flatMap]
      refine ⟨z, hz, ?_⟩
      rw [if_pos hn]
      show z - sh ∈ (if z - sh < 0 then [z - sh] else [-1])
      rw [if_pos (by omega), List.mem_singleton]
    have hsft : ∀ (sh : Int), 0 ≤ sh → ∀ t, apV σ (apV (sft (fun z => if z < 0 then [z] else [-1]) sh) t) = apV (sft σ sh) t := fun sh h0 t => by
      rw [apV_flat]
      unfold apV
      refine flat_same fun z _ => ?_
      by_cases hz : z < 0
      · rw [if_pos hz, if_pos hz]
        show apV σ (if z - sh < 0 then [z - sh] else [-1]) = σ (z - sh)
        rw [if_pos (by omega), apV_one, if_pos (by omega)]
      · rw [if_neg hz, if_neg hz]
    rw [hsft 0 (by omega)] at m1
    rw [hsft sh hsh] at m2
    refine ⟨⟨m1, by rw [m2]; exact (nu_root hr1 hr2).symm⟩, fun z hz hn => ?_, fun z hz hn => i2 _ (hin sh hsh zb z hz hn) (by omega)⟩
    have := hin 0 (by omega) za z hz hn
    rw [Int.sub_zero] at this
    exact i1 z this hn
  obtain ⟨⟨f1, f2⟩, f3, f4⟩ := fin
  rw [← hσ] at f1 f2
  refine ⟨R, hR, hal, hAG, hfin, hgd, f1, f2, fun z j hj => ?_, fun j z hj hz => ?_, ?_, ?_⟩
  · rw [hG.vars] at hj
    have := h1.vt z j hj
    rw [hG.tops, hG.plen, h2.pl]
    exact ⟨this, (List.getElem?_eq_some_iff.1 this).1⟩
  · rw [hG.tops] at hj
    rw [hG.vars, hG.args]
    have hja : j < F.args.length := by rw [h2.al]; exact (List.getElem?_eq_some_iff.1 hj).1
    have hu := List.getElem?_eq_getElem hja
    refine ⟨(h1.tv j z hj hz).1, ?_⟩
    have e := h1.var j z _ hj hu hz
    rw [hu, e]
  · rw [hG.vars]; exact f3
  · rw [hG.vars]; exact f4
theorem unite_nu {sh : Int} {za zb : List Int} {k : Nat} (hsh : 0 ≤ sh) (ha : valOk ss za = true) (hb : valOk ss zb = true) (h : uniteF ss sh 10000 za zb Fd.none = some (k, true, G)) :
    ∃ R, RootsIn R G.prox ∧ G.args.length = G.tops.length ∧ ArN ss G ∧ (∃ n, FinD G R n k) ∧ ∃ σ, GoodV ss σ ∧ apV (sft σ 0) za = nuF G R k ∧ apV (sft σ sh) zb = nuF G R k := by
  obtain ⟨R, u⟩ := unite_all hsh ha hb h
  exact ⟨R, u.rts, u.al, u.arn, u.fin, _, u.good, u.one, u.two⟩

theorem fold_map {f : Int → Int} {S : List Int} (hneg : ∀ z ∈ S, z < 0 → f z < 0) (hpos : ∀ z ∈ S, 0 ≤ z → f z = z) (hinj : ∀ x ∈ S, ∀ z ∈ S, f x = f z → x = z) : ∀ (a l : List Int), (∀ z ∈ a, z ∈ S) → (∀ x ∈ l, x ∈ S) → (a.map f).foldl addSeen (l.map f) = (a.foldl addSeen l).map f
  | [], _, _, _ => rfl
  | z :: a, l, ha, hl => by
    have hz := ha z (List.mem_cons_self ..)
    have e1 := addSeen_map (l := l) (hneg z hz) (hpos z hz) (fun x hx _ e => hinj x (hl x hx) z hz e)
    have hl2 : ∀ x ∈ addSeen l z, x ∈ S := fun x hx => by
      unfold addSeen at hx
      split at hx
      · exact hl x hx
      · split at hx
        · exact hl x hx
        · rcases List.mem_append.1 hx with h | h
          · exact hl x h
          · obtain rfl := List.mem_singleton.1 h; exact hz
    rw [List.map_cons, List.foldl_cons, List.foldl_cons, e1, fold_map hneg hpos hinj a _ (fun x hx => ha x (List.mem_cons_of_mem _ hx)) hl2]
theorem apV_sizes {σ : Int → List Int} : ∀ {a : List Int}, (∀ z ∈ a, z < 0 → 1 ≤ (σ z).length) → a.length ≤ (apV σ a).length ∧ ((apV σ a).length = a.length → ∀ z ∈ a, z < 0 → (σ z).length = 1)
  | [], _ => ⟨Nat.le_refl _, fun _ z hz => by simp at hz⟩
  | x :: a, h => by
    obtain ⟨h1, h2⟩ := apV_sizes (a := a) fun z hz => h z (List.mem_cons_of_mem _ hz)
    rw [show x :: a = [x] ++ a from rfl, apV_append, apV_one, List.length_append, List.length_append, List.length_singleton]
    by_cases hx : x < 0
    · have h3 := h x (List.mem_cons_self ..) hx
      rw [if_pos hx]
      refine ⟨by omega, fun e z hz hn => ?_⟩
      rcases List.mem_cons.1 hz with rfl | hz
      · omega
      · exact h2 (by omega) z hz hn
    · rw [if_neg hx, List.length_singleton]
      refine ⟨by omega, fun e z hz hn => ?_⟩
      rcases List.mem_cons.1 hz with rfl | hz
      · exact absurd hn hx
      · exact h2 (by omega) z hz hn
theorem apV_map {σ : Int → List Int} {f : Int → Int} : ∀ {p : List Int}, (∀ z ∈ p, (if z < 0 then σ z else [z]) = [f z]) → apV σ p = p.map f
  | [], _ => rfl
  | z :: p, h => by
    rw [show z :: p = [z] ++ p from rfl, apV_append, apV_one, h z (List.mem_cons_self ..), apV_map fun x hx => h x (List.mem_cons_of_mem _ hx)]
    rfl
/-- Terms that become each other are alike, however long. -/
theorem alike_of {σ τ : Int → List Int} {U V : List Int} (hσ : GoodV ss σ) (hτ : GoodV ss τ) (h1 : apV τ U = V) (h2 : apV σ V = U) : V.length = U.length ∧ canon U = canon V ∧ (seenTo U U.length).length = (seenTo V V.length).length := by
  have l1 := (apV_sizes (σ := τ) (a := U) fun z _ hn => scan_len (hτ z hn)).1
  have l2 := (apV_sizes (σ := σ) (a := V) fun z _ hn => scan_len (hσ z hn)).1
  rw [h1] at l1
  rw [h2] at l2
  have hl : V.length = U.length := by omega
  have mk : ∀ {σ : Int → List Int} {a b : List Int}, GoodV ss σ → apV σ a = b → b.length = a.length → ∃ f : Int → Int, a.map f = b ∧ ∀ z ∈ a, 0 ≤ z → f z = z := fun {σ a b} hσ h hl => by
    have hh := (apV_sizes (σ := σ) (a := a) fun z _ hn => scan_len (hσ z hn)).2 (by rw [h, hl])
    refine ⟨fun z => if z < 0 then (σ z).headD 0 else z, ?_, fun z _ hp => by show (if z < 0 then _ else z) = z; rw [if_neg (by omega)]⟩
    rw [← h]
    refine (apV_map fun z hz => ?_).symm
    by_cases hn : z < 0
    · rw [if_pos hn, if_pos hn]
      have := hh z hz hn
      match hq : σ z, this with
      | [y], _ => rfl
    · rw [if_neg hn, if_neg hn]
  obtain ⟨f, f1, f2⟩ := mk hτ h1 hl
  obtain ⟨g, g1, g2⟩ := mk hσ h2 hl.symm
  have hgf : ∀ z ∈ U, g (f z) = z := by
    have : U.map (g ∘ f) = U.map id := by rw [List.map_id, ← List.map_map, f1, g1]
    intro z hz
    exact (List.map_inj_left.1 this) z hz
  have hfb : ∀ z ∈ U, f z ∈ V := fun z hz => by rw [← f1]; exact List.mem_map_of_mem hz
  have hneg : ∀ z ∈ U, z < 0 → f z < 0 := fun z hz hn => by
    rcases Int.lt_or_le (f z) 0 with h | h
    · exact h
    · have := hgf z hz
      rw [g2 _ (hfb z hz) h] at this
      omega
  have hinj : ∀ x ∈ U, ∀ z ∈ U, f x = f z → x = z := fun x hx z hz e => by rw [← hgf x hx, ← hgf z hz, e]
  have k1 := canonL_map (S := U) hneg f2 hinj U [] (fun _ h => h) (fun x hx => by simp at hx)
  have k2 := fold_map (S := U) hneg f2 hinj U [] (fun _ h => h) (fun x hx => by simp at hx)
  rw [List.map_nil, f1] at k1 k2
  refine ⟨hl, k1.symm, ?_⟩
  unfold seenTo
  rw [List.take_length, List.take_length, k2, List.length_map]
theorem form_alike {U V : List Int} (h : V.length = U.length ∧ canon U = canon V ∧ (seenTo U U.length).length = (seenTo V V.length).length) : formZ true U = formZ true V := by
  unfold formZ
  rw [h.2.1, h.2.2]
theorem apV_sft0 (τ : Int → List Int) (t : List Int) : apV (sft τ 0) t = apV τ t := by
  unfold apV
  refine flat_same fun z _ => ?_
  unfold sft
  rw [Int.sub_zero]
theorem solve_tops : ∀ (m : Nat) (st : List (Nat × Nat)) (F G : Fd) (b : Bool), solveF m st F = some (b, G) → G.tops = F.tops
  | 0, st, F, G, b, h => by cases h
  | m + 1, st, F, G, b, h => by
    unfold solveF at h
    split at h
    · cases h; rfl
    · split at h
      · split at h
        · exact solve_tops m _ F G b h
        · split at h
          · simp only at h
            repeat' split at h
            all_goals first
              | (cases h; done)
              | (cases h; rfl)
              | (have := solve_tops m _ _ G b h; exact this)
          · cases h
      · cases h
theorem nu_heads {n : Nat} {H : Int} (hH : ∀ z ∈ G.tops, z < H) (hal : G.args.length = G.tops.length) : ∀ k, FinD G R n k → ∀ z ∈ nuF G R k, z < H := by
  induction n with
  | zero => intro k h; exact h.elim
  | succ n ih =>
    intro k h z hz
    obtain ⟨r, us, h1, h2, h3⟩ := id h
    have hr : r < G.tops.length := by rw [← hal]; exact (List.getElem?_eq_some_iff.1 h2).1
    rw [(nu_node ⟨_, h⟩ h1 h2 (List.getElem?_eq_getElem hr)).1] at hz
    rcases List.mem_cons.1 hz with rfl | hz
    · exact hH _ (List.getElem_mem hr)
    · obtain ⟨u, hu, hz⟩ := List.mem_flatMap.1 hz
      exact ih u (h3 u hu) z hz
/-- What the program finds: nothing, where there is nothing; otherwise the most general one, whole. -/
theorem com_is {sh : Int} {za zb : List Int} (hsh : 0 ≤ sh ∧ sh ≤ 1000) (ha : valOk ss za = true) (hb : valOk ss zb = true) :
    (hasZ ss sh za zb = false ∧ comZ ss sh za zb = ([], 8) ∧ ∀ τ, GoodV ss τ → apV (sft τ 0) za ≠ apV (sft τ sh) zb) ∨
    (hasZ ss sh za zb = true ∧ ∃ (U : List Int) (σ : Int → List Int), GoodV ss σ ∧ apV (sft σ 0) za = U ∧ apV (sft σ sh) zb = U ∧ comZ ss sh za zb = formZ (decide (U.length ≤ 60)) U ∧ scan ss 1 U = some [] ∧ HeadsOk ss U ∧
      ∀ τ, GoodV ss τ → apV (sft τ 0) za = apV (sft τ sh) zb → apV τ U = apV (sft τ 0) za) := by
  have hcg := comZ_good hsh ha hb
  obtain ⟨⟨k, b, G, hu, hGok⟩, har, _⟩ := common_some hsh ha hb
  have hz := hasZ_good ha hb hu
  unfold commonF at hcg
  rw [if_pos (by simpa [List.all_eq_true] using har), hu] at hcg
  cases b with
  | false =>
    simp only [Option.some.injEq] at hcg
    refine .inl ⟨hz, hcg.symm, fun τ hτ he => ?_⟩
    have := (unite_val hsh.1 ha hb hτ he hu).1
    cases this
  | true =>
    obtain ⟨R, hR, hal, hAr, hfin, σ, s1, s2, s3⟩ := unite_nu hsh.1 ha hb hu
    refine .inr ⟨hz, nuF G R k, σ, s1, s2, s3, ?_, nu_scan hAr hal k, ?_, fun τ hτ he => ?_⟩
    · simp only at hcg
      cases hw : writeF G 10000 k [] with
      | none => rw [hw] at hcg; cases hcg
      | some p =>
        obtain ⟨ok2, t⟩ := p
        rw [hw] at hcg
        simp only at hcg
        obtain ⟨w1, w2⟩ := write_nu hAr hal hR 10000 k [] t ok2 hw (by simp) hfin
        split at hcg
        · rw [← Option.some.inj hcg]
          cases ok2 with
          | true =>
            have e := w1 rfl
            rw [List.nil_append] at e
            subst e
            have h60 := writeF_len 10000 k [] true _ hw (by simp)
            rw [decide_eq_true h60]
          | false =>
            have h60 := w2 rfl
            simp only [List.length_nil, Nat.zero_add] at h60
            rw [decide_eq_false (by omega)]
            unfold formZ
            rw [if_neg (fun h => by cases h.1), if_neg (fun h => by cases h.1)]
        · cases hcg
    · have hns := sigOk_len (valOk_sig ha)
      have htops : ∀ z ∈ G.tops, z < (ss.length : Int) := by
        have hG : G.tops = (addT ss sh zb (addT ss 0 za Fd.none).2.2).2.2.tops := by
          obtain ⟨ν, h1, h2, h3, h4, hk1, hk2, hlen⟩ := both_val (σ := fun _ => [-1]) hsh.1 ha hb (fun z hz => scan_neg (by omega))
          unfold uniteF at hu
          cases hs : solveF 10000 [((addT ss 0 za Fd.none).1, (addT ss sh zb (addT ss 0 za Fd.none).2.2).1)] (addT ss sh zb (addT ss 0 za Fd.none).2.2).2.2 with
          | none => rw [hs] at hu; cases hu
          | some q =>
            obtain ⟨bq, G1⟩ := q
            have ht := solve_tops _ _ _ _ _ hs
            rw [hs] at hu
            cases bq with
            | false => simp at hu
            | true =>
              simp only at hu
              cases he : endlessF G1 10000 (addT ss 0 za Fd.none).1 with
              | none => rw [he] at hu; cases hu
              | some en =>
                rw [he] at hu
                simp only [Option.some.injEq, Prod.mk.injEq] at hu
                rw [← hu.2.2]
                exact ht
        rw [hG]
        unfold addT
        refine (addF_mem (Q := fun z => z < (ss.length : Int)) _ zb _ (fun z hz => ?_) (addF_mem (Q := fun z => z < (ss.length : Int)) _ za _ (fun z hz => ?_) (fun z hz => by simp [Fd.none] at hz)).2).2
        · have := (valOk_term hb).2.2.1 z hz; exact ⟨this.2, by omega⟩
        · have := (valOk_term ha).2.2.1 z hz; exact ⟨this.2, by omega⟩
      obtain ⟨n, hn⟩ := hfin
      exact nu_heads htops hal k hn
    · obtain ⟨_, ν, v1, v2, v3, v4⟩ := unite_val hsh.1 ha hb hτ he hu
      obtain ⟨n, hn⟩ := hfin
      rw [nu_gen v1 hal (fun j x hj hx => v4 j x hj hx) n k hn, v3]
end

end Go.Proofs.Ytojofbmpknpggaa

/- Meets: the plain mathematics. -/
namespace Go.Proofs.Ytojofbmpknpggaa
open Go.RowKit

section
variable {ss : Sg} {za zb : List Int} {σ : Int → List Int}
theorem canon_valid {U : List Int} (hsg : sigOk ss = true) (hs : scan ss 1 U = some []) (hh : HeadsOk ss U) (h60 : U.length ≤ 60) (h12 : (seenTo U U.length).length ≤ 12) : valOk ss (canon U) = true := by
  have hsc := canon_scan hs
  simp only [valOk, termOk, Bool.and_eq_true, decide_eq_true_eq, List.all_eq_true, numOk]
  refine ⟨hsg, scan_len hsc, by rw [canon_length]; omega, fun z hz => ?_, hsc⟩
  rw [canon_map] at hz
  obtain ⟨y, hy, rfl⟩ := List.mem_map.1 hz
  by_cases hn : y < 0
  · rw [if_pos hn]
    have h1 := List.idxOf_lt_length_of_mem (seen_all hy hn)
    have h2 := (sigOk_len hsg).1
    unfold cnum
    omega
  · rw [if_neg hn]
    have := hh y hy
    omega
/-- The canonical form is what a renaming makes. -/
theorem canon_apV (U : List Int) : canon U = apV (fun z => [cnum (seenTo U U.length) z]) U := by
  rw [canon_map]
  refine (apV_map fun z _ => ?_).symm
  by_cases hn : z < 0
  · rw [if_pos hn, if_pos hn]
  · rw [if_neg hn, if_neg hn]
theorem goodV_comp {τ : Int → List Int} (hσ : GoodV ss σ) (hτ : GoodV ss τ) : GoodV ss (fun z => apV τ (σ z)) := fun z hz => scan_apV hτ _ 1 [] (hσ z hz)
/-- Where there is a meet, it is valid, and an instance of both. -/
theorem com_ok {sh : Int} (hsh : 0 ≤ sh ∧ sh ≤ 1000) (ha : valOk ss za = true) (hb : valOk ss zb = true) (h0 : (comZ ss sh za zb).2 = 0) : ∃ U σ, GoodV ss σ ∧ apV (sft σ 0) za = U ∧ apV (sft σ sh) zb = U ∧ (comZ ss sh za zb).1 = canon U ∧ valOk ss (canon U) = true ∧
    ∀ τ, GoodV ss τ → apV (sft τ 0) za = apV (sft τ sh) zb → apV τ U = apV (sft τ 0) za := by
  rcases com_is hsh ha hb with ⟨_, h2, _⟩ | ⟨_, U, σ, s1, s2, s3, s4, s5, s6, s7⟩
  · rw [h2] at h0; cases h0
  · rw [s4] at h0
    unfold formZ at h0
    split at h0
    · rename_i hc
      refine ⟨U, σ, s1, s2, s3, ?_, canon_valid (valOk_sig ha) s5 s6 (of_decide_eq_true hc.1) hc.2, s7⟩
      rw [s4]
      unfold formZ
      rw [if_pos hc]
    · cases h0
theorem sft_good {sh : Int} (h0 : 0 ≤ sh) (h : GoodV ss σ) : GoodV ss (sft σ sh) := fun z hz => h _ (by omega)
/-- What is an instance is alike the meet. -/
theorem meet_inst (h : insB ss za zb = true) : (comZ ss 12 za zb).2 = 0 ∧ (comZ ss 12 za zb).1 = canon zb := by
  obtain ⟨ha, hb⟩ := ins_valid h
  obtain ⟨τ, t1, t2, t3⟩ := ins_apart h (by rw [ins_refl]; exact hb)
  rcases com_is (sh := 12) (by omega) ha hb with ⟨_, _, h3⟩ | ⟨_, U, σ, s1, s2, s3, s4, s5, s6, s7⟩
  · exact absurd (t2.trans t3.symm) (h3 τ t1)
  · have e := s7 τ t1 (t2.trans t3.symm)
    rw [t2] at e
    have hal := alike_of (sft_good (sh := 12) (by omega) s1) t1 e s3
    have h60 := (valOk_term hb).2.1
    have h12 := seen_few fun z hz => ((valOk_term hb).2.2.1 z hz).1
    rw [s4, decide_eq_true (by omega), form_alike hal]
    unfold formZ
    rw [if_pos ⟨rfl, h12⟩]
    exact ⟨rfl, rfl⟩
end

end Go.Proofs.Ytojofbmpknpggaa

/- Contracts: the solver's Whole and Few. -/
namespace Go.Proofs.Ytojofbmpknpggaa
open Go.RowKit

/-- The size s and, if it is not too great, all that stands for a list. -/
structure WholeIs (T : List (List Int)) (t : List Int) (s : Nat) (r : List Int) : Prop where
  sz : ∃ K, szF T 30 t (List.replicate 24 0) = some (s, K)
  le : s ≤ 61
  wh : s ≤ 60 → whF T 30 t = some r ∧ r.length = s
  pos : 1 ≤ r.length
  bd : ∀ z ∈ r, -1000000 ≤ z ∧ z ≤ 1000000
end Go.Proofs.Ytojofbmpknpggaa

/- Looking, occurring, sizes: the plain mathematics. -/
namespace Go.Proofs.Ytojofbmpknpggaa
open Go.RowKit

section
variable {ss : Sg} {T : List (List Int)} {ρ : Nat → Nat} {σ : Int → List Int}
/-- A number is another variable, and has no term or was looked into. -/
def VOk (T : List (List Int)) (v : Nat) (d : List Bool) (z : Int) : Prop := z < 0 → (-z - 1).toNat ≠ v ∧ (T.getD (-z - 1).toNat [] = [] ∨ d.getD (-z - 1).toNat false = true)
structure Cl (T : List (List Int)) (v : Nat) (t : List Int) (d d' : List Bool) : Prop where
  el : ∀ z ∈ t, VOk T v d' z
  up : ∀ w, d.getD w false = true → d'.getD w false = true
  cl : ∀ w, d'.getD w false = true → d.getD w false = true ∨ ∀ z ∈ T.getD w [], VOk T v d' z
  ln : d'.length = d.length
theorem VOk.mono {v : Nat} {d d' : List Bool} {z : Int} (h : VOk T v d z) (hu : ∀ w, d.getD w false = true → d'.getD w false = true) : VOk T v d' z := fun hn => ⟨(h hn).1, (h hn).2.imp id (hu _)⟩
theorem getD_set {α : Type} (l : List α) (i j : Nat) (x e : α) : (l.set i x).getD j e = if i = j ∧ i < l.length then x else l.getD j e := by
  rw [List.getD_eq_getElem?_getD, List.getD_eq_getElem?_getD, List.getElem?_set]
  by_cases h : i = j
  · subst h
    by_cases h2 : i < l.length
    · rw [if_pos rfl, if_pos h2, if_pos ⟨rfl, h2⟩]; rfl
    · rw [if_pos rfl, if_neg h2, if_neg (fun h => h2 h.2), List.getElem?_eq_none (by omega)]
  · rw [if_neg h, if_neg (fun h2 => h h2.1)]
end

end Go.Proofs.Ytojofbmpknpggaa

/- The reference's solver finds the most general one: the plain mathematics. -/
namespace Go.Proofs.Ytojofbmpknpggaa
open Go.RowKit

section
variable {ss : Sg} {T : List (List Int)} {ρ : Nat → Nat}
/-- The variables without a term are in a list of c. -/
def Unb (T : List (List Int)) (c : Nat) : Prop := ∃ L : List Nat, (∀ v, v < 24 → T.getD v [] = [] → v ∈ L) ∧ L.length ≤ c
theorem Unb.mono {c c' : Nat} (h : Unb T c) (hc : c ≤ c') : Unb T c' := by
  obtain ⟨L, h1, h2⟩ := h
  exact ⟨L, h1, by omega⟩
theorem Unb.set {c v : Nat} {t : List Int} (h : Unb T c) (hl : T.length = 24) (hv : v < 24) (hb : T.getD v [] = []) (ht : t ≠ []) : 1 ≤ c ∧ Unb (T.set v t) (c - 1) := by
  obtain ⟨L, h1, h2⟩ := h
  have hm := h1 v hv hb
  have hle := List.length_erase_of_mem hm
  have hp := List.length_pos_of_mem hm
  refine ⟨by omega, L.erase v, fun u hu hb' => ?_, by omega⟩
  rw [getD_set] at hb'
  split at hb'
  · exact absurd hb' ht
  · rename_i hne
    exact (List.mem_erase_of_ne (fun e => hne ⟨e.symm, by omega⟩)).2 (h1 u hu hb')
/-- What the solver finds where E is asked of what the variables become. -/
structure SolIs (ss : Sg) (T : List (List Int)) (c : Nat) (E : (Int → List Int) → Prop) (bo : Bool) (T' : List (List Int)) : Prop where
  acy : ∃ ρ', Acy T' ρ'
  unb : T' = T ∨ (1 ≤ c ∧ Unb T' (c - 1))
  yes : bo = true → ∀ σ, GoodV ss σ → (Resp σ T' ↔ Resp σ T ∧ E σ)
  no : bo = false → ∀ σ, GoodV ss σ → Resp σ T → ¬ E σ
theorem SolIs.cong {c : Nat} {E E' : (Int → List Int) → Prop} {bo : Bool} {T' : List (List Int)} (h : SolIs ss T c E bo T') (he : ∀ σ, Resp σ T → (E σ ↔ E' σ)) : SolIs ss T c E' bo T' :=
  ⟨h.acy, h.unb, fun hb σ hσ => by
    rw [h.yes hb σ hσ]
    exact ⟨fun k => ⟨k.1, (he σ k.1).1 k.2⟩, fun k => ⟨k.1, (he σ k.1).2 k.2⟩⟩, fun hb σ hσ hR hE => h.no hb σ hσ hR ((he σ hR).2 hE)⟩
end

end Go.Proofs.Ytojofbmpknpggaa

namespace Go.Proofs.Ytojofbmpknpggaa
open Go.RowKit

section
variable {ss : Sg}
end

end Go.Proofs.Ytojofbmpknpggaa
