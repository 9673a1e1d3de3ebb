/- Unification ends: enough rounds exist. The plain mathematics. -/
import Derived.Test.YtojofbmpknpggaaN29g
/- What a unification finds, told of what its nodes may become: the plain mathematics. -/
namespace Go.Proofs.Ytojofbmpknpggaa
open Go.RowKit

/-- What each node may become. -/
structure Val (ss : Sg) (F : Fd) (ν : Nat → List Int) : Prop where
  trm : ∀ k, k < F.tops.length → scan ss 1 (ν k) = some []
  sym : ∀ (k : Nat) (x : Int) (us : List Nat), F.tops[k]? = some x → F.args[k]? = some us → 0 ≤ x → ν k = x :: us.flatMap ν ∧ us.length = arOf ss x
  var : ∀ (k : Nat) (x : Int) (us : List Nat), F.tops[k]? = some x → F.args[k]? = some us → x < 0 → us = []
  prx : ∀ k p, F.prox[k]? = some p → ν k = ν p
section
variable {ss : Sg} {ν : Nat → List Int}
theorem rootS_val {prox : List Nat} (hp : ∀ k p, prox[k]? = some p → ν k = ν p) : ∀ {m k r : Nat}, rootS prox m k = some r → ν k = ν r
  | 0, k, r, h => by cases h
  | m + 1, k, r, h => by
    unfold rootS at h
    cases e : prox[k]? with
    | none => rw [e] at h; cases h
    | some p =>
      rw [e] at h
      simp only at h
      split at h
      · cases h; rfl
      · rw [hp k p e]; exact rootS_val hp h
theorem scan_cancel {p q A B : List Int} (hp : scan ss 1 p = some []) (hq : scan ss 1 q = some []) (h : p ++ A = q ++ B) : p = q ∧ A = B := by
  have h1 := prt_front A hp
  have h2 := prt_front B hq
  rw [h, h2] at h1
  subst h1
  exact ⟨rfl, List.append_cancel_left h⟩
theorem flat_zip : ∀ (us vs : List Nat), us.length = vs.length → (∀ k ∈ us, scan ss 1 (ν k) = some []) → (∀ k ∈ vs, scan ss 1 (ν k) = some []) → us.flatMap ν = vs.flatMap ν → ∀ e ∈ us.zip vs, ν e.1 = ν e.2
  | [], _, _, _, _, _ => fun e he => by simp at he
  | u :: us, [], h, _, _, _ => by simp at h
  | u :: us, v :: vs, h, h1, h2, h3 => by
    rw [List.flatMap_cons, List.flatMap_cons] at h3
    obtain ⟨e1, e2⟩ := scan_cancel (h1 u (List.mem_cons_self ..)) (h2 v (List.mem_cons_self ..)) h3
    intro e he
    rcases List.mem_cons.1 he with rfl | he
    · exact e1
    · exact flat_zip us vs (by simpa using h) (fun k hk => h1 k (List.mem_cons_of_mem _ hk)) (fun k hk => h2 k (List.mem_cons_of_mem _ hk)) e2 e he
theorem mem_set_prx {l : List Nat} {x y : Nat} (hp : ∀ k p, l[k]? = some p → ν k = ν p) (h : ν x = ν y) : ∀ k p, (l.set x y)[k]? = some p → ν k = ν p := by
  intro k p hk
  rcases set_get? hk with ⟨rfl, rfl, _⟩ | ⟨_, h2⟩
  · exact h
  · exact hp k p h2
/-- The same graph, but for its proxies. -/
structure SameG (F G : Fd) : Prop where
  tops : G.tops = F.tops
  args : G.args = F.args
  plen : G.prox.length = F.prox.length
  vars : G.vars = F.vars
theorem SameG.refl (F : Fd) : SameG F F := ⟨rfl, rfl, rfl, rfl⟩
theorem SameG.set {F G : Fd} {x y : Nat} (h : SameG { F with prox := F.prox.set x y } G) : SameG F G :=
  ⟨h.tops, h.args, by rw [h.plen]; simp, h.vars⟩
theorem Fd.Ok.setp {F : Fd} (h : F.Ok) {x y : Nat} (hy : y < F.tops.length) : ({ F with prox := F.prox.set x y } : Fd).Ok :=
  ⟨by simp [h.pl], h.al, fun p hp => by
    rcases List.mem_or_eq_of_mem_set hp with hp | rfl
    · exact h.pb p hp
    · exact hy, h.ab, h.vb, h.vl⟩
theorem solve_val : ∀ (m : Nat) (st : List (Nat × Nat)) (F G : Fd) (b : Bool), F.Ok → Val ss F ν → (∀ e ∈ st, ν e.1 = ν e.2) → solveF m st F = some (b, G) → b = true ∧ Val ss G ν ∧ SameG F G ∧ G.Ok
  | 0, st, F, G, b, _, _, _, h => by cases h
  | m + 1, st, F, G, b, hF, hV, hst, h => by
    unfold solveF at h
    cases hl : st.getLast? with
    | none =>
      rw [hl] at h
      cases h
      exact ⟨rfl, hV, SameG.refl _, hF⟩
    | some lr =>
      obtain ⟨l, r⟩ := lr
      rw [hl] at h
      simp only at h
      have hmem : (l, r) ∈ st := List.mem_of_getLast? hl
      have hd : ∀ e ∈ st.dropLast, ν e.1 = ν e.2 := fun e he => hst e (List.dropLast_subset _ he)
      have hlr : ν l = ν r := hst _ hmem
      cases h1 : rootS F.prox m l with
      | none => rw [h1] at h; cases h
      | some x =>
      cases h2 : rootS F.prox m r with
      | none => rw [h1, h2] at h; cases h
      | some y =>
      rw [h1, h2] at h
      simp only at h
      have ex := rootS_val hV.prx h1
      have ey := rootS_val hV.prx h2
      have exy : ν x = ν y := by rw [← ex, ← ey, hlr]
      obtain ⟨_, hx, _⟩ := rootS_lt h1
      obtain ⟨_, hy, _⟩ := rootS_lt h2
      rw [hF.pl] at hx hy
      split at h
      · exact solve_val m _ F G b hF hV hd h
      · rename_i hne
        rw [List.getElem?_eq_getElem hx, List.getElem?_eq_getElem hy] at h
        simp only at h
        by_cases hty : F.tops[y] < 0
        · simp only [hty, if_true] at h
          have hF1 := hF.setp (x := y) hx
          have hV1 : Val ss { F with prox := F.prox.set y x } ν := ⟨hV.trm, hV.sym, hV.var, mem_set_prx hV.prx exy.symm⟩
          obtain ⟨k1, k2, k3, k4⟩ := solve_val m _ _ G b hF1 hV1 hd h
          exact ⟨k1, k2, k3.set, k4⟩
        · simp only [hty, if_false] at h
          have hF1 := hF.setp (x := x) hy
          have hV1 : Val ss { F with prox := F.prox.set x y } ν := ⟨hV.trm, hV.sym, hV.var, mem_set_prx hV.prx exy⟩
          split at h
          · obtain ⟨k1, k2, k3, k4⟩ := solve_val m _ _ G b hF1 hV1 hd h
            exact ⟨k1, k2, k3.set, k4⟩
          · rename_i htx
            have hxa : x < F.args.length := by rw [hF.al]; exact hx
            have hya : y < F.args.length := by rw [hF.al]; exact hy
            obtain ⟨s1, s2⟩ := hV.sym x _ _ (List.getElem?_eq_getElem hx) (List.getElem?_eq_getElem hxa) (by omega)
            obtain ⟨t1, t2⟩ := hV.sym y _ _ (List.getElem?_eq_getElem hy) (List.getElem?_eq_getElem hya) (by omega)
            rw [s1, t1] at exy
            have e1 : F.tops[x] = F.tops[y] := (List.cons.inj exy).1
            have e2 := (List.cons.inj exy).2
            rw [if_pos e1, List.getElem?_eq_getElem hxa, List.getElem?_eq_getElem hya] at h
            simp only at h
            split at h
            · have hz := flat_zip (ss := ss) F.args[x] F.args[y] (by rw [s2, t2, e1]) (fun k hk => hV.trm k (hF.ab _ (List.getElem_mem hxa) k hk)) (fun k hk => hV.trm k (hF.ab _ (List.getElem_mem hya) k hk)) e2
              obtain ⟨k1, k2, k3, k4⟩ := solve_val m _ _ G b hF1 hV1 (fun e he => by
                rcases List.mem_append.1 he with he | he
                · exact hd e he
                · exact hz e he) h
              exact ⟨k1, k2, k3.set, k4⟩
            · cases h
theorem flat_lt {us : List Nat} (k : Nat) (h : k ∈ us) : (ν k).length ≤ (us.flatMap ν).length := by
  induction us with
  | nil => simp at h
  | cons u us ih =>
    rw [List.flatMap_cons, List.length_append]
    rcases List.mem_cons.1 h with rfl | h
    · omega
    · have := ih h; omega
theorem again_val {F : Fd} (hF : F.Ok) (hV : Val ss F ν) : ∀ (m k : Nat) (i d i' d' : List Bool) (b : Bool), againF F m k i d = some (b, i', d') → (∀ j : Nat, i[j]? = some true → (ν k).length < (ν j).length) → b = false ∧ ∀ j : Nat, i'[j]? = some true → i[j]? = some true
  | 0, k, i, d, i', d', b, h, _ => by cases h
  | m + 1, k, i, d, i', d', b, h, hi => by
    unfold againF at h
    cases hr : rootS F.prox m k with
    | none => rw [hr] at h; cases h
    | some r =>
    rw [hr] at h
    simp only at h
    have er := rootS_val hV.prx hr
    obtain ⟨_, hrl, _⟩ := rootS_lt hr
    rw [hF.pl] at hrl
    cases h1 : i[r]? with
    | none => rw [h1] at h; simp at h
    | some bi =>
    cases h2 : d[r]? with
    | none => rw [h1, h2] at h; simp at h
    | some bd =>
    have hra : r < F.args.length := by rw [hF.al]; exact hrl
    rw [h1, h2, List.getElem?_eq_getElem hra] at h
    simp only at h
    have hbi : bi = false := by
      cases bi with
      | false => rfl
      | true => have := hi r h1; rw [er] at this; omega
    subst hbi
    split at h
    · cases h
      exact ⟨rfl, fun j hj => hj⟩
    · have key : ∀ (us : List Nat) (i0 d0 i1 d1 : List Bool) (b1 : Bool), (∀ u ∈ us, (ν u).length < (ν r).length) → (∀ j : Nat, i0[j]? = some true → j = r ∨ i[j]? = some true) → loopA (againF F m) us i0 d0 = some (b1, i1, d1) → b1 = false ∧ ∀ j : Nat, i1[j]? = some true → j = r ∨ i[j]? = some true := by
        intro us
        induction us with
        | nil => intro i0 d0 i1 d1 b1 _ hi0 e; cases e; exact ⟨rfl, hi0⟩
        | cons u us ih =>
          intro i0 d0 i1 d1 b1 hu hi0 e
          unfold loopA at e
          cases e1 : againF F m u i0 d0 with
          | none => rw [e1] at e; cases e
          | some q =>
            obtain ⟨bq, iq, dq⟩ := q
            have hul := hu u (List.mem_cons_self ..)
            obtain ⟨k1, k2⟩ := again_val hF hV m u i0 d0 iq dq bq e1 (fun j hj => by
              rcases hi0 j hj with rfl | hj
              · exact hul
              · have := hi j hj; rw [er] at this; omega)
            subst k1
            rw [e1] at e
            exact ih iq dq i1 d1 b1 (fun v hv => hu v (List.mem_cons_of_mem _ hv)) (fun j hj => hi0 j (k2 j hj)) e
      have hus : ∀ u ∈ F.args[r], (ν u).length < (ν r).length := fun u hu => by
        by_cases hx : 0 ≤ F.tops[r]
        · obtain ⟨s1, _⟩ := hV.sym r _ _ (List.getElem?_eq_getElem hrl) (List.getElem?_eq_getElem hra) hx
          rw [s1, List.length_cons]
          have := flat_lt (ν := ν) u hu
          omega
        · have := hV.var r _ _ (List.getElem?_eq_getElem hrl) (List.getElem?_eq_getElem hra) (by omega)
          rw [this] at hu
          simp at hu
      cases e : loopA (againF F m) F.args[r] (i.set r true) d with
      | none => rw [e] at h; simp at h
      | some q =>
        obtain ⟨bq, iq, dq⟩ := q
        obtain ⟨k1, k2⟩ := key _ _ _ _ _ _ hus (fun j hj => by
          rcases set_get? hj with ⟨rfl, _, _⟩ | ⟨_, hj⟩
          · exact .inl rfl
          · exact .inr hj) e
        subst k1
        rw [e] at h
        cases h
        refine ⟨rfl, fun j hj => ?_⟩
        rcases set_get? hj with ⟨rfl, hb, _⟩ | ⟨hne, hj⟩
        · cases hb
        · rcases k2 j hj with h3 | h3
          · exact absurd h3 hne
          · exact h3
theorem endless_val {F : Fd} (hF : F.Ok) (hV : Val ss F ν) {m k : Nat} {b : Bool} (h : endlessF F m k = some b) : b = false := by
  unfold endlessF at h
  cases e : againF F m k (List.replicate F.tops.length false) (List.replicate F.tops.length false) with
  | none => rw [e] at h; cases h
  | some q =>
    obtain ⟨bq, iq, dq⟩ := q
    rw [e] at h
    have := (again_val hF hV m k _ _ iq dq bq e (fun j hj => by
      rw [List.getElem?_replicate] at hj
      split at hj
      · cases hj
      · cases hj)).1
    subst this
    simpa using h.symm
/-- What a list of numbers becomes, each variable being told by its number. -/
def apV (ρ : Int → List Int) (t : List Int) : List Int := t.flatMap fun z => if z < 0 then ρ z else [z]
theorem apV_append (ρ : Int → List Int) (p q : List Int) : apV ρ (p ++ q) = apV ρ p ++ apV ρ q := List.flatMap_append ..
theorem apV_one (ρ : Int → List Int) (z : Int) : apV ρ [z] = if z < 0 then ρ z else [z] := by simp [apV]
theorem apV_len {ρ : Int → List Int} : ∀ {u : List Int}, (∀ z ∈ u, z < 0 → 1 ≤ (ρ z).length) → u.length ≤ (apV ρ u).length
  | [], _ => Nat.le_refl _
  | z :: u, h => by
    have ih := apV_len (u := u) fun x hx => h x (List.mem_cons_of_mem _ hx)
    rw [show z :: u = [z] ++ u from rfl, apV_append, apV_one, List.length_append, List.length_append]
    by_cases hz : z < 0
    · rw [if_pos hz]
      have := h z (List.mem_cons_self ..) hz
      simp only [List.length_cons, List.length_nil]
      omega
    · rw [if_neg hz]
      simp only [List.length_cons, List.length_nil]
      omega
/-- The variables of a list are tops. -/
def TopsIn (F : Fd) (u : List Int) : Prop := ∀ z ∈ u, z < 0 → ∃ j : Nat, F.tops[j]? = some z
theorem TopsIn.len {F : Fd} {ρ : Int → List Int} {u : List Int} (h : TopsIn F u) (hV : Val ss F ν) (hρ : ∀ (k : Nat) (x : Int), F.tops[k]? = some x → x < 0 → ρ x = ν k) : u.length ≤ (apV ρ u).length :=
  apV_len fun z hz hn => by
    obtain ⟨j, hj⟩ := h z hz hn
    rw [hρ j z hj hn]
    exact scan_len (hV.trm j (List.getElem?_eq_some_iff.1 hj).1)
theorem write_val {F : Fd} {ρ : Int → List Int} (hF : F.Ok) (hV : Val ss F ν) (hρ : ∀ (k : Nat) (x : Int), F.tops[k]? = some x → x < 0 → ρ x = ν k) : ∀ (m k : Nat) (t t' : List Int) (b : Bool), writeF F m k t = some (b, t') → t.length ≤ 60 →
    (b = true → ∃ u, t' = t ++ u ∧ apV ρ u = ν k ∧ scan ss 1 u = some [] ∧ TopsIn F u) ∧ (b = false → 60 < t.length + (ν k).length)
  | 0, k, t, t', b, h, _ => by cases h
  | m + 1, k, t, t', b, h, h60 => by
    unfold writeF at h
    cases hr : rootS F.prox m k with
    | none => rw [hr] at h; cases h
    | some r =>
    rw [hr] at h
    simp only at h
    have er := rootS_val hV.prx hr
    obtain ⟨hkl, hrl, _⟩ := rootS_lt hr
    rw [hF.pl] at hrl hkl
    have hra : r < F.args.length := by rw [hF.al]; exact hrl
    have hlen := scan_len (hV.trm r hrl)
    split at h
    · rename_i e60
      cases h
      exact ⟨fun hb => (by cases hb), fun _ => by rw [er]; omega⟩
    · rename_i e60
      rw [List.getElem?_eq_getElem hrl, List.getElem?_eq_getElem hra] at h
      simp only at h
      have key : ∀ (us : List Nat) (t0 t1 : List Int) (b1 : Bool), t0.length ≤ 60 → loopW (writeF F m) us t0 = some (b1, t1) →
          (b1 = true → ∃ u, t1 = t0 ++ u ∧ apV ρ u = us.flatMap ν ∧ scan ss us.length u = some [] ∧ TopsIn F u) ∧ (b1 = false → 60 < t0.length + (us.flatMap ν).length) := by
        intro us
        induction us with
        | nil => intro t0 t1 b1 _ e; cases e; exact ⟨fun _ => ⟨[], by simp, rfl, by rw [List.length_nil, scan_zero], fun z hz => by simp at hz⟩, fun hb => (by cases hb)⟩
        | cons u us ih =>
          intro t0 t1 b1 hl0 e
          unfold loopW at e
          cases e1 : writeF F m u t0 with
          | none => rw [e1] at e; cases e
          | some q =>
            obtain ⟨bq, tq⟩ := q
            obtain ⟨k1, k2⟩ := write_val hF hV hρ m u t0 tq bq e1 hl0
            rw [e1] at e
            rw [List.flatMap_cons, List.length_append]
            cases bq with
            | false =>
              cases e
              exact ⟨fun hb => (by cases hb), fun _ => by have := k2 rfl; omega⟩
            | true =>
              obtain ⟨v, rfl, hv, hsv, htv⟩ := k1 rfl
              have htq : (t0 ++ v).length ≤ 60 := writeF_len m u t0 true _ e1 hl0
              obtain ⟨j1, j2⟩ := ih (t0 ++ v) t1 b1 htq e
              refine ⟨fun hb => ?_, fun hb => ?_⟩
              · obtain ⟨v2, rfl, hv2, hsv2, htv2⟩ := j1 hb
                refine ⟨v ++ v2, by rw [List.append_assoc], by rw [apV_append, hv, hv2], ?_, fun z hz hn => ?_⟩
                · rw [List.length_cons, Nat.add_comm, scan_add, scan_append ss _ _ _ _ hsv]
                  exact hsv2
                · rcases List.mem_append.1 hz with hz | hz
                  · exact htv z hz hn
                  · exact htv2 z hz hn
              · have h3 := j2 hb
                rw [List.length_append] at h3
                have h4 := htv.len hV hρ
                rw [hv] at h4
                omega
      have ht1 : (t ++ [F.tops[r]]).length ≤ 60 := by rw [List.length_append, List.length_singleton]; omega
      obtain ⟨k1, k2⟩ := key _ _ _ _ ht1 h
      by_cases hx : 0 ≤ F.tops[r]
      · obtain ⟨s1, s2⟩ := hV.sym r _ _ (List.getElem?_eq_getElem hrl) (List.getElem?_eq_getElem hra) hx
        refine ⟨fun hb => ?_, fun hb => ?_⟩
        · obtain ⟨u, rfl, hu, hsu, htu⟩ := k1 hb
          refine ⟨F.tops[r] :: u, by simp, ?_, ?_, fun z hz hn => ?_⟩
          · rw [show F.tops[r] :: u = [F.tops[r]] ++ u from rfl, apV_append, apV_one, if_neg (by omega), hu, er, s1]; rfl
          · simp only [scan]
            rw [Nat.zero_add, ← s2]
            exact hsu
          · rcases List.mem_cons.1 hz with rfl | hz
            · omega
            · exact htu z hz hn
        · have := k2 hb
          rw [er, s1, List.length_cons]
          rw [List.length_append, List.length_singleton] at this
          omega
      · have hus := hV.var r _ _ (List.getElem?_eq_getElem hrl) (List.getElem?_eq_getElem hra) (by omega)
        rw [hus] at h
        unfold loopW at h
        cases h
        refine ⟨fun _ => ⟨[F.tops[r]], rfl, ?_, scan_neg (by omega), fun z hz hn => ?_⟩, fun hb => (by cases hb)⟩
        · rw [apV_one, if_pos (by omega), er]
          exact hρ r _ (List.getElem?_eq_getElem hrl) (by omega)
        · obtain rfl := List.mem_singleton.1 hz
          exact ⟨r, List.getElem?_eq_getElem hrl⟩
end

end Go.Proofs.Ytojofbmpknpggaa

/- What add makes has what the terms become: the plain mathematics. -/
namespace Go.Proofs.Ytojofbmpknpggaa
open Go.RowKit

/-- What each node may become, while the nodes of O are not whole; no node stands for another one; σ tells what the variables become. -/
structure ValO (ss : Sg) (F : Fd) (ν : Nat → List Int) (σ : Int → List Int) (O : Nat → Prop) : Prop where
  trm : ∀ k, k < F.tops.length → scan ss 1 (ν k) = some []
  sym : ∀ (k : Nat) (x : Int) (us : List Nat), F.tops[k]? = some x → F.args[k]? = some us → 0 ≤ x → ¬ O k → ν k = x :: us.flatMap ν ∧ us.length = arOf ss x
  var : ∀ (k : Nat) (x : Int) (us : List Nat), F.tops[k]? = some x → F.args[k]? = some us → x < 0 → us = []
  pid : ∀ (k p : Nat), F.prox[k]? = some p → p = k
  vt : ∀ (z : Int) (k : Nat), vget F.vars z = some k → F.tops[k]? = some z
  tv : ∀ (k : Nat) (x : Int), F.tops[k]? = some x → x < 0 → vget F.vars x = some k ∧ ν k = σ x
  op : ∀ k, O k → ∃ x, F.tops[k]? = some x ∧ 0 ≤ x
section
variable {ss : Sg} {ν : Nat → List Int} {σ : Int → List Int} {O : Nat → Prop} {F : Fd}
theorem ValO.val (h : ValO ss F ν σ (fun _ => False)) : Val ss F ν :=
  ⟨h.trm, fun k x us a b c => h.sym k x us a b c (fun h => h), h.var, fun k p hp => by rw [h.pid k p hp]⟩
theorem flat_congr {us : List Nat} {ν ν' : Nat → List Int} (h : ∀ k ∈ us, ν' k = ν k) : us.flatMap ν' = us.flatMap ν := by
  induction us with
  | nil => rfl
  | cons u us ih => rw [List.flatMap_cons, List.flatMap_cons, h u (List.mem_cons_self ..), ih fun k hk => h k (List.mem_cons_of_mem _ hk)]
/-- What the nodes become when one is put behind them. -/
def upd (ν : Nat → List Int) (n : Nat) (u : List Int) : Nat → List Int := fun k => if k = n then u else ν k
theorem upd_old {ν : Nat → List Int} {n k : Nat} {u : List Int} (h : k < n) : upd ν n u k = ν k := by unfold upd; rw [if_neg (by omega)]
theorem upd_new {ν : Nat → List Int} {n : Nat} {u : List Int} : upd ν n u n = u := by unfold upd; rw [if_pos rfl]
theorem ValO.push (h : ValO ss F ν σ O) (hF : F.Ok) {t : Int} {u : List Int} (ht : 0 ≤ t) (hu : scan ss 1 u = some []) : ValO ss (F.push t) (upd ν F.tops.length u) σ (fun k => O k ∨ k = F.tops.length) := by
  have hget : ∀ {k : Nat} {x : Int}, (F.push t).tops[k]? = some x → (k < F.tops.length ∧ F.tops[k]? = some x) ∨ (k = F.tops.length ∧ x = t) := fun {k x} hk => by
    simp only [Fd.push, List.getElem?_append] at hk
    split at hk
    · rename_i hl; exact .inl ⟨hl, hk⟩
    · rename_i hl
      have hl2 := (List.getElem?_eq_some_iff.1 hk).1
      simp only [List.length_cons, List.length_nil] at hl2
      have e : k - F.tops.length = 0 := by omega
      rw [e] at hk
      simp at hk
      exact .inr ⟨by omega, hk.symm⟩
  have hargs : ∀ {k : Nat} {us : List Nat}, k < F.tops.length → (F.push t).args[k]? = some us → F.args[k]? = some us := fun {k us} hk e => by
    rw [Fd.push_old hF hk] at e; exact e
  refine ⟨fun k hk => ?_, fun k x us hx ha h0 hO => ?_, fun k x us hx ha hn => ?_, fun k p hp => ?_, fun z k hk => ?_, fun k x hx hn => ?_, fun k hk => ?_⟩
  · simp only [Fd.push, List.length_append, List.length_singleton] at hk
    by_cases e : k = F.tops.length
    · subst e; rw [upd_new]; exact hu
    · rw [upd_old (by omega)]; exact h.trm k (by omega)
  · rcases hget hx with ⟨hl, hx⟩ | ⟨e, _⟩
    · obtain ⟨s1, s2⟩ := h.sym k x us hx (hargs hl ha) h0 (fun ho => hO (.inl ho))
      refine ⟨?_, s2⟩
      rw [upd_old hl, s1]
      congr 1
      refine (flat_congr fun j hj => upd_old ?_).symm
      exact hF.ab _ (List.mem_of_getElem? (hargs hl ha)) j hj
    · exact absurd (.inr e) hO
  · rcases hget hx with ⟨hl, hx⟩ | ⟨_, e⟩
    · exact h.var k x us hx (hargs hl ha) hn
    · omega
  · simp only [Fd.push, List.getElem?_append] at hp
    split at hp
    · exact h.pid k p hp
    · rename_i hl
      have hl2 := (List.getElem?_eq_some_iff.1 hp).1
      simp only [List.length_cons, List.length_nil] at hl2
      have e : k - F.prox.length = 0 := by omega
      rw [e] at hp
      simp at hp
      rw [hF.pl] at hl e
      omega
  · have h1 : vget F.vars z = some k := hk
    have h2 := h.vt z k h1
    simp only [Fd.push]
    rw [List.getElem?_append_left (hF.vb z k h1)]
    exact h2
  · rcases hget hx with ⟨hl, hx⟩ | ⟨_, e⟩
    · rw [upd_old hl]
      exact h.tv k x hx hn
    · omega
  · rcases hk with hk | hk
    · obtain ⟨x, h1, h2⟩ := h.op k hk
      exact ⟨x, by simp only [Fd.push]; rw [List.getElem?_append_left (List.getElem?_eq_some_iff.1 h1).1]; exact h1, h2⟩
    · subst hk
      exact ⟨t, by simp [Fd.push], ht⟩
theorem ValO.vnode (h : ValO ss F ν σ O) (hF : F.Ok) {z : Int} (hz : z < 0) (hσ : scan ss 1 (σ z) = some []) : ∃ ν', ValO ss (F.vnode z).2 ν' σ O ∧ (∀ k, k < F.tops.length → ν' k = ν k) ∧ ν' (F.vnode z).1 = σ z := by
  unfold Fd.vnode
  cases e : vget F.vars z with
  | some k => exact ⟨ν, h, fun _ _ => rfl, (h.tv k z (h.vt z k e) hz).2⟩
  | none =>
    simp only
    have hget : ∀ {k : Nat} {x : Int}, (F.push z).tops[k]? = some x → (k < F.tops.length ∧ F.tops[k]? = some x) ∨ (k = F.tops.length ∧ x = z) := fun {k x} hk => by
      simp only [Fd.push, List.getElem?_append] at hk
      split at hk
      · rename_i hl; exact .inl ⟨hl, hk⟩
      · rename_i hl
        have hl2 := (List.getElem?_eq_some_iff.1 hk).1
        simp only [List.length_cons, List.length_nil] at hl2
        have e : k - F.tops.length = 0 := by omega
        rw [e] at hk
        simp at hk
        exact .inr ⟨by omega, hk.symm⟩
    refine ⟨upd ν F.tops.length (σ z), ⟨fun k hk => ?_, fun k x us hx ha h0 hO => ?_, fun k x us hx ha hn => ?_, fun k p hp => ?_, fun y k hk => ?_, fun k x hx hn => ?_, fun k hk => ?_⟩, fun k hk => upd_old hk, upd_new⟩
    · simp only [Fd.push, List.length_append, List.length_singleton] at hk
      by_cases e : k = F.tops.length
      · subst e; rw [upd_new]; exact hσ
      · rw [upd_old (by omega)]; exact h.trm k (by omega)
    · rcases hget hx with ⟨hl, hx⟩ | ⟨_, e⟩
      · have ha' : F.args[k]? = some us := by rw [← Fd.push_old (t := z) hF hl]; exact ha
        obtain ⟨s1, s2⟩ := h.sym k x us hx ha' h0 hO
        refine ⟨?_, s2⟩
        rw [upd_old hl, s1]
        congr 1
        exact (flat_congr fun j hj => upd_old (hF.ab _ (List.mem_of_getElem? ha') j hj)).symm
      · omega
    · rcases hget hx with ⟨hl, hx⟩ | ⟨e, _⟩
      · have ha' : F.args[k]? = some us := by rw [← Fd.push_old (t := z) hF hl]; exact ha
        exact h.var k x us hx ha' hn
      · subst e
        simp only [Fd.push] at ha
        rw [← hF.al] at ha
        simpa using ha.symm
    · simp only [Fd.push, List.getElem?_append] at hp
      split at hp
      · exact h.pid k p hp
      · rename_i hl
        have hl2 := (List.getElem?_eq_some_iff.1 hp).1
        simp only [List.length_cons, List.length_nil] at hl2
        have e : k - F.prox.length = 0 := by omega
        rw [e] at hp
        simp at hp
        rw [hF.pl] at hl e
        omega
    · simp only at hk
      rw [vget_push e] at hk
      simp only [Fd.push]
      split at hk
      · rename_i ey
        cases hk
        subst ey
        simp
      · rw [List.getElem?_append_left (hF.vb y k hk)]
        exact h.vt y k hk
    · rcases hget hx with ⟨hl, hx⟩ | ⟨ek, ex⟩
      · obtain ⟨t1, t2⟩ := h.tv k x hx hn
        refine ⟨?_, by rw [upd_old hl]; exact t2⟩
        simp only
        rw [vget_push e, if_neg (fun ey => by rw [ey, e] at t1; cases t1)]
        exact t1
      · subst ek
        subst ex
        refine ⟨?_, upd_new⟩
        simp only
        rw [vget_push e, if_pos rfl]
    · obtain ⟨x, h1, h2⟩ := h.op k hk
      exact ⟨x, by simp only [Fd.push]; rw [List.getElem?_append_left (List.getElem?_eq_some_iff.1 h1).1]; exact h1, h2⟩
theorem ValO.arg (h : ValO ss F ν σ O) {node a : Nat} (hn : O node) : ValO ss (F.arg node a) ν σ O := by
  have hne : ∀ k, ¬ O k → k ≠ node := fun k hk e => hk (e ▸ hn)
  have hat : ∀ {k : Nat} {us : List Nat}, k ≠ node → (F.arg node a).args[k]? = some us → F.args[k]? = some us := fun {k us} hk e => by
    simp only [Fd.arg, List.getElem?_set, if_neg (Ne.symm hk)] at e
    exact e
  refine ⟨h.trm, fun k x us hx ha h0 hO => h.sym k x us hx (hat (hne k hO) ha) h0 hO, fun k x us hx ha hn' => ?_, h.pid, h.vt, h.tv, h.op⟩
  by_cases e : k = node
  · subst e
    obtain ⟨y, h1, h2⟩ := h.op k hn
    have hx' : F.tops[k]? = some x := hx
    rw [h1] at hx'
    cases hx'
    omega
  · exact h.var k x us hx (hat e ha) hn'
theorem loopK_tops {ss : Sg} {sh : Int} {f node : Nat} (hold : ∀ (l : List Int) (F : Fd) (i : Nat) (x : Int), F.tops[i]? = some x → (addF ss sh f l F).2.2.tops[i]? = some x) (l : List Int) (F : Fd) : ∀ (c i : Nat) (x : Int), F.tops[i]? = some x → (loopK (addF ss sh f) node l F c).2.tops[i]? = some x
  | 0, i, x, h => h
  | c + 1, i, x, h => by
    show ((addF ss sh f _ _).2.2.arg node _).tops[i]? = some x
    exact hold _ _ _ _ (loopK_tops hold l F c i x h)
theorem addF_tops (ss : Sg) (sh : Int) : ∀ (f : Nat) (l : List Int) (F : Fd) (i : Nat) (x : Int), F.tops[i]? = some x → (addF ss sh f l F).2.2.tops[i]? = some x
  | 0, l, F, i, x, h => h
  | f + 1, [], F, i, x, h => h
  | f + 1, t :: l, F, i, x, h => by
    have hpush : ∀ y, (F.push y).tops[i]? = some x := fun y => by
      simp only [Fd.push]; rw [List.getElem?_append_left (List.getElem?_eq_some_iff.1 h).1]; exact h
    unfold addF
    by_cases ht : t < 0
    · rw [if_pos ht]
      unfold Fd.vnode
      cases vget F.vars (t - sh) with
      | some k => exact h
      | none => exact hpush _
    · rw [if_neg ht]
      exact loopK_tops (addF_tops ss sh f) _ _ _ i x (hpush t)
end
/-- The terms that the variables of a list become. -/
def sft (σ : Int → List Int) (sh : Int) (z : Int) : List Int := σ (z - sh)
theorem add_val {ss : Sg} {sh : Int} {σ : Int → List Int} (hsh : 0 ≤ sh) : ∀ (f : Nat) (l r : List Int) (F : Fd) (ν : Nat → List Int) (O : Nat → Prop), l.length < f → scan ss 1 l = some r → F.Ok → ValO ss F ν σ O → (∀ z ∈ l, z < 0 → scan ss 1 (sft σ sh z) = some []) →
    ∃ ν' P, l = P ++ r ∧ ValO ss (addF ss sh f l F).2.2 ν' σ O ∧ (∀ k, k < F.tops.length → ν' k = ν k) ∧ ν' (addF ss sh f l F).1 = apV (sft σ sh) P ∧ scan ss 1 (apV (sft σ sh) P) = some []
  | 0, l, r, F, ν, O, h, _, _, _, _ => by omega
  | f + 1, [], r, F, ν, O, _, h, _, _, _ => by cases h
  | f + 1, t :: l, r, F, ν, O, hf, h, hF, hV, hσ => by
    have h' : scan ss (arOf ss t) l = some r := by
      have := h
      rw [scan, Nat.zero_add] at this
      exact this
    unfold addF
    by_cases ht : t < 0
    · rw [if_pos ht]
      rw [arOf, if_pos ht, scan_zero] at h'
      cases h'
      have h1 := hσ t (List.mem_cons_self ..) ht
      obtain ⟨ν', k1, k2, k3⟩ := hV.vnode hF (z := t - sh) (by omega) h1
      refine ⟨ν', [t], rfl, k1, k2, ?_, ?_⟩
      · rw [apV_one, if_pos ht]; exact k3
      · rw [apV_one, if_pos ht]; exact h1
    · rw [if_neg ht]
      simp only [List.length_cons] at hf
      obtain ⟨q, hq1, hq2, rfl⟩ := scan_suffix ss _ _ _ h'
      -- what the arguments become
      have hσl : ∀ z ∈ l, z < 0 → scan ss 1 (sft σ sh z) = some [] := fun z hz => hσ z (List.mem_cons_of_mem _ hz)
      have scan_ap : ∀ (p : List Int) (n : Nat) (r : List Int), (∀ z ∈ p, z < 0 → scan ss 1 (sft σ sh z) = some []) → scan ss n p = some r → scan ss n (apV (sft σ sh) p) = some (apV (sft σ sh) r) := by
        intro p
        induction p with
        | nil =>
          intro n r _ hs
          cases n with
          | zero => rw [scan_zero] at hs ⊢; cases hs; rfl
          | succ n => cases hs
        | cons z p ih =>
          intro n r hz hs
          cases n with
          | zero => rw [scan_zero] at hs ⊢; cases hs; rfl
          | succ n =>
            simp only [scan] at hs
            rw [show z :: p = [z] ++ p from rfl, apV_append, apV_one]
            by_cases hn : z < 0
            · rw [arOf_neg ss hn, Nat.add_zero] at hs
              rw [if_pos hn, show n + 1 = 1 + n by omega, scan_add, scan_append ss _ _ _ _ (hz z (List.mem_cons_self ..) hn)]
              exact ih n r (fun x hx => hz x (List.mem_cons_of_mem _ hx)) hs
            · rw [if_neg hn]
              simp only [List.cons_append, List.nil_append, scan]
              exact ih _ r (fun x hx => hz x (List.mem_cons_of_mem _ hx)) hs
      have hP : scan ss (arOf ss t) (l.take q) = some [] := scan_take ss _ _ _ hq1 h'
      have hσp : ∀ z ∈ l.take q, z < 0 → scan ss 1 (sft σ sh z) = some [] := fun z hz => hσl z (List.mem_of_mem_take hz)
      have hT : scan ss 1 (apV (sft σ sh) (t :: l.take q)) = some [] := by
        rw [show t :: l.take q = [t] ++ l.take q from rfl, apV_append, apV_one, if_neg ht]
        simp only [List.cons_append, List.nil_append, scan, Nat.zero_add]
        exact scan_ap _ _ _ hσp hP
      obtain ⟨T, hTT⟩ : ∃ T, apV (sft σ sh) (t :: l.take q) = T := ⟨_, rfl⟩
      rw [hTT] at hT
      have hV1 := hV.push hF (t := t) (by omega) hT
      have hp : (F.push t).tops.length = F.tops.length + 1 := by simp [Fd.push]
      have hu0 : (F.push t).args[F.tops.length]? = some [] := by simp only [Fd.push]; rw [← hF.al]; simp
      have hF1 := hF.push t
      -- the loop over the arguments
      have key : ∀ (c : Nat) (m : List Int), scan ss c l = some m → ∃ ν' Pc us, l = Pc ++ m ∧ ValO ss (loopK (addF ss sh f) F.tops.length l (F.push t) c).2 ν' σ (fun k => O k ∨ k = F.tops.length) ∧ (∀ k, k < (F.push t).tops.length → ν' k = upd ν F.tops.length T k) ∧
          (loopK (addF ss sh f) F.tops.length l (F.push t) c).2.args[F.tops.length]? = some us ∧ us.length = c ∧ us.flatMap ν' = apV (sft σ sh) Pc := by
        intro c
        induction c with
        | zero =>
          intro m hm
          rw [scan_zero] at hm
          cases hm
          exact ⟨_, [], [], rfl, hV1, fun _ _ => rfl, hu0, rfl, rfl⟩
        | succ c ih =>
          intro m hm
          rw [scan_add] at hm
          cases hc : scan ss c l with
          | none => rw [hc] at hm; cases hm
          | some m0 =>
            rw [hc] at hm
            obtain ⟨ν1, Pc, us, e1, e2, e3, e4, e5, e6⟩ := ih m0 hc
            obtain ⟨h1, h2, h3, h4, h5, us', h6, h7⟩ := loopK_ok (node := F.tops.length) (addF_ok ss sh f) (l := l) (F := F.push t) (by omega) hF1 (by omega) hu0 c m0 hc
            rw [e4] at h6
            cases h6
            have hml := scan_le ss l c m0 hc
            have hx := addF_ok ss sh f m0 m (loopK (addF ss sh f) F.tops.length l (F.push t) c).2 (by omega) hm h2
            obtain ⟨ν2, P2, g1, g2, g3, g4, g5⟩ := add_val hsh f m0 m (loopK (addF ss sh f) F.tops.length l (F.push t) c).2 ν1 _ (by omega) hm h2 e2 (fun z hz => hσl z (by rw [e1]; exact List.mem_append_right _ hz))
            rw [← h1] at hx g2 g4
            have hab := h2.ab
            have hus : ∀ k ∈ us, k < (loopK (addF ss sh f) F.tops.length l (F.push t) c).2.tops.length := fun k hk => hab _ (List.mem_of_getElem? e4) k hk
            refine ⟨ν2, Pc ++ P2, us ++ [(addF ss sh f (loopK (addF ss sh f) F.tops.length l (F.push t) c).1 (loopK (addF ss sh f) F.tops.length l (F.push t) c).2).1], by rw [List.append_assoc, ← g1]; exact e1, g2.arg (.inr rfl), fun k hk => ?_, ?_, by rw [List.length_append, e5]; rfl, ?_⟩
            · rw [g3 k (by omega)]; exact e3 k hk
            · show ((addF ss sh f _ _).2.2.arg F.tops.length _).args[F.tops.length]? = _
              rw [Fd.arg_at (by rw [hx.ok.al]; have := hx.up; omega), if_pos rfl, hx.old _ (by omega), e4]
              rfl
            · rw [List.flatMap_append, flat_congr (fun k hk => g3 k (hus k hk)), e6, apV_append]
              simp only [List.flatMap_cons, List.flatMap_nil, List.append_nil]
              rw [g4]
      obtain ⟨ν', Pc, us, e1, e2, e3, e4, e5, e6⟩ := key (arOf ss t) _ h'
      have ePc : Pc = l.take q := by
        have h1 : Pc ++ l.drop q = l.take q ++ l.drop q := by rw [List.take_append_drop]; exact e1.symm
        exact List.append_cancel_right h1
      subst ePc
      have hnode : ν' F.tops.length = T := by rw [e3 _ (by omega), upd_new]
      have hTeq : T = t :: us.flatMap ν' := by
        rw [e6, ← hTT, show t :: l.take q = [t] ++ l.take q from rfl, apV_append, apV_one, if_neg ht]; rfl
      have htop : (loopK (addF ss sh f) F.tops.length l (F.push t) (arOf ss t)).2.tops[F.tops.length]? = some t := loopK_tops (addF_tops ss sh f) l (F.push t) _ _ _ (by simp [Fd.push])
      refine ⟨ν', t :: l.take q, by rw [List.cons_append, List.take_append_drop], ⟨e2.trm, fun k x us2 hx ha h0 hO => ?_, e2.var, e2.pid, e2.vt, e2.tv, fun k hk => e2.op k (.inl hk)⟩, fun k hk => ?_, by rw [hTT]; exact hnode, by rw [hTT]; exact hT⟩
      · by_cases ek : k = F.tops.length
        · subst ek
          have hx' : (loopK (addF ss sh f) F.tops.length l (F.push t) (arOf ss t)).2.tops[F.tops.length]? = some x := hx
          have ha' : (loopK (addF ss sh f) F.tops.length l (F.push t) (arOf ss t)).2.args[F.tops.length]? = some us2 := ha
          rw [htop] at hx'
          rw [e4] at ha'
          cases hx'
          cases ha'
          exact ⟨by rw [hnode]; exact hTeq, e5⟩
        · exact e2.sym k x us2 hx ha h0 (fun h => h.elim hO ek)
      · rw [e3 k (by omega), upd_old hk]

end Go.Proofs.Ytojofbmpknpggaa

/- What two terms become in common is the most general one: the plain mathematics. -/
namespace Go.Proofs.Ytojofbmpknpggaa
open Go.RowKit

section
variable {ss : Sg} {σ : Int → List Int}
theorem valO_none (σ : Int → List Int) : ValO ss Fd.none (fun _ => [-1]) σ (fun _ => False) :=
  ⟨fun k hk => absurd hk (Nat.not_lt_zero k), fun k x us h => by simp [Fd.none] at h, fun k x us h => by simp [Fd.none] at h, fun k p h => by simp [Fd.none] at h, fun z k h => by simp [Fd.none, vget] at h, fun k x h => by simp [Fd.none] at h, fun k h => h.elim⟩
/-- Both terms are added. -/
theorem both_val {sh : Int} {za zb : List Int} (hsh : 0 ≤ sh) (ha : valOk ss za = true) (hb : valOk ss zb = true) (hσ : ∀ z, z < 0 → scan ss 1 (σ z) = some []) :
    ∃ ν, ValO ss (addT ss sh zb (addT ss 0 za Fd.none).2.2).2.2 ν σ (fun _ => False) ∧ (addT ss sh zb (addT ss 0 za Fd.none).2.2).2.2.Ok ∧ ν (addT ss 0 za Fd.none).1 = apV (sft σ 0) za ∧ ν (addT ss sh zb (addT ss 0 za Fd.none).2.2).1 = apV (sft σ sh) zb ∧
      (addT ss 0 za Fd.none).1 < (addT ss sh zb (addT ss 0 za Fd.none).2.2).2.2.tops.length ∧ (addT ss sh zb (addT ss 0 za Fd.none).2.2).1 < (addT ss sh zb (addT ss 0 za Fd.none).2.2).2.2.tops.length ∧ (addT ss sh zb (addT ss 0 za Fd.none).2.2).2.2.tops.length ≤ za.length + zb.length := by
  have sa := (valOk_term ha).2.2.2
  have sb := (valOk_term hb).2.2.2
  unfold addT
  obtain ⟨ν1, P1, e1, k1, _, k3, _⟩ := add_val (ss := ss) (sh := 0) (σ := σ) (by omega) (za.length + 1) za [] Fd.none _ _ (by omega) sa Fd.none_ok (valO_none σ) (fun z _ hz => hσ _ (by omega))
  have o1 := addF_ok ss 0 (za.length + 1) za [] Fd.none (by omega) sa Fd.none_ok
  obtain ⟨ν2, P2, e2, m1, m2, m3, _⟩ := add_val (ss := ss) (sh := sh) (σ := σ) hsh (zb.length + 1) zb [] _ ν1 _ (by omega) sb o1.ok k1 (fun z _ hz => hσ _ (by omega))
  have o2 := addF_ok ss sh (zb.length + 1) zb [] _ (by omega) sb o1.ok
  rw [List.append_nil] at e1 e2
  subst e1
  subst e2
  have h1 := o1.lt
  have h2 := o2.up
  have h3 := o1.le
  have h4 := o2.le
  simp only [List.length_nil, Nat.add_zero, Fd.none, Nat.zero_add] at h3 h4
  refine ⟨ν2, m1, o2.ok, by rw [m2 _ h1]; exact k3, m3, Nat.lt_of_lt_of_le h1 h2, o2.lt, ?_⟩
  simp only [Fd.none]
  omega
/-- Where there is a term that both become, it is found: what is found has it. -/
theorem unite_val {sh : Int} {za zb : List Int} {m k : Nat} {ok : Bool} {G : Fd} (hsh : 0 ≤ sh) (ha : valOk ss za = true) (hb : valOk ss zb = true) (hσ : ∀ z, z < 0 → scan ss 1 (σ z) = some []) (heq : apV (sft σ 0) za = apV (sft σ sh) zb)
    (h : uniteF ss sh m za zb Fd.none = some (k, ok, G)) : ok = true ∧ ∃ ν, Val ss G ν ∧ G.Ok ∧ ν k = apV (sft σ 0) za ∧ ∀ (j : Nat) (x : Int), G.tops[j]? = some x → x < 0 → σ x = ν j := by
  obtain ⟨ν, h1, h2, h3, h4, _⟩ := both_val hsh ha hb hσ
  unfold uniteF at h
  cases hs : solveF m [((addT ss 0 za Fd.none).1, (addT ss sh zb (addT ss 0 za Fd.none).2.2).1)] (addT ss sh zb (addT ss 0 za Fd.none).2.2).2.2 with
  | none => rw [hs] at h; cases h
  | some q =>
    obtain ⟨b, G1⟩ := q
    obtain ⟨v1, v2, v3, v4⟩ := solve_val m _ _ G1 b h2 h1.val (fun e he => by
      obtain rfl := List.mem_singleton.1 he
      show ν _ = ν _
      rw [h3, h4, heq]) hs
    subst v1
    rw [hs] at h
    simp only at h
    cases he : endlessF G1 m (addT ss 0 za Fd.none).1 with
    | none => rw [he] at h; cases h
    | some en =>
      have := endless_val v4 v2 he
      subst this
      rw [he] at h
      cases h
      refine ⟨rfl, ν, v2, v4, h3, fun j x hj hx => ?_⟩
      rw [v3.tops] at hj
      exact (h1.tv j x hj hx).2.symm
/-- The canonical form, told by what becomes of each number. -/
theorem canon_map (t : List Int) : canon t = t.map fun z => if z < 0 then cnum (seenTo t t.length) z else z := by
  apply List.ext_getElem?
  intro i
  by_cases hi : i < t.length
  · rw [cval_all t hi, List.getElem?_map, List.getElem?_eq_getElem hi, Option.map_some]
    congr 1
    unfold cval cnum
    by_cases hn : t[i] < 0
    · have hm := mem_addSeen (l := seenTo t i) hn
      obtain ⟨r, hr⟩ := seenTo_ext t (t.length - (i + 1)) (i + 1) (by omega)
      rw [show i + 1 + (t.length - (i + 1)) = t.length from by omega, seenTo_succ hi] at hr
      have hlt : (seenTo t t.length).idxOf t[i] < (seenTo t t.length).length := List.idxOf_lt_length_of_mem (by rw [hr]; exact List.mem_append_left _ hm)
      rw [if_pos ⟨hn, hlt⟩, if_pos hn]
    · rw [if_neg (fun h => hn h.1), if_neg hn]
  · rw [List.getElem?_eq_none (by rw [canon_length]; omega), List.getElem?_eq_none (by rw [List.length_map]; omega)]
theorem seen_all {t : List Int} {z : Int} (hz : z ∈ t) (hn : z < 0) : z ∈ seenTo t t.length := by
  obtain ⟨i, hi, rfl⟩ := List.mem_iff_getElem.1 hz
  have hm := mem_addSeen (l := seenTo t i) hn
  obtain ⟨r, hr⟩ := seenTo_ext t (t.length - (i + 1)) (i + 1) (by omega)
  rw [show i + 1 + (t.length - (i + 1)) = t.length from by omega, seenTo_succ hi] at hr
  rw [hr]
  exact List.mem_append_left _ hm
theorem scan_map {f : Int → Int} (hf : ∀ z, arOf ss (f z) = arOf ss z) : ∀ (l : List Int) (n : Nat) (r : List Int), scan ss n l = some r → scan ss n (l.map f) = some (r.map f)
  | l, 0, r, h => by rw [scan_zero] at h ⊢; cases h; rfl
  | [], n + 1, r, h => by cases h
  | z :: l, n + 1, r, h => by
    simp only [List.map_cons, scan] at h ⊢
    rw [hf]
    exact scan_map hf l _ r h
theorem cnum_neg (l : List Int) (z : Int) : cnum l z < 0 := by unfold cnum; omega
theorem canon_scan {t : List Int} (h : scan ss 1 t = some []) : scan ss 1 (canon t) = some [] := by
  rw [canon_map]
  exact scan_map (ss := ss) (f := fun z => if z < 0 then cnum (seenTo t t.length) z else z) (fun z => by
    show arOf ss (if z < 0 then cnum (seenTo t t.length) z else z) = arOf ss z
    split
    · rename_i hn; rw [arOf_neg ss hn, arOf_neg ss (cnum_neg _ _)]
    · rfl) t 1 [] h
/-- A term that becomes a valid one has a valid canonical form, of which that is an instance. -/
theorem canon_ins_of {t c : List Int} (hc : valOk ss c = true) (hs : scan ss 1 t = some []) (hσ : ∀ z, z < 0 → scan ss 1 (σ z) = some []) (he : apV σ t = c) (h12 : (seenTo t t.length).length ≤ 12) : valOk ss (canon t) = true ∧ insB ss (canon t) c = true := by
  obtain ⟨c1, c2, c3, c4⟩ := valOk_term hc
  have hlen := apV_len (ρ := σ) (u := t) fun z _ hn => scan_len (hσ z hn)
  rw [he] at hlen
  have hin : ∀ z ∈ t, 0 ≤ z → z ∈ c := fun z hz h0 => by
    rw [← he]
    unfold apV
    rw [List.mem_flatMap]
    exact ⟨z, hz, by rw [if_neg (by omega)]; simp⟩
  have hv : valOk ss (canon t) = true := by
    have hsc := canon_scan hs
    simp only [valOk, termOk, Bool.and_eq_true, decide_eq_true_eq, List.all_eq_true, numOk]
    refine ⟨valOk_sig hc, scan_len hsc, by rw [canon_length]; omega, fun z hz => ?_, hsc⟩
    rw [canon_map] at hz
    obtain ⟨y, hy, rfl⟩ := List.mem_map.1 hz
    by_cases hn : y < 0
    · rw [if_pos hn]
      have h1 := List.idxOf_lt_length_of_mem (seen_all hy hn)
      have h2 := (sigOk_len (valOk_sig hc)).1
      unfold cnum
      omega
    · rw [if_neg hn]
      have := c3 y (hin y hy (by omega))
      omega
  refine ⟨hv, ins_in (σ := fun v => σ (if (seenTo t t.length).getD v (-1) < 0 then (seenTo t t.length).getD v (-1) else -1)) hv hc (fun v _ => hσ _ (by split <;> omega)) ?_⟩
  rw [← he, canon_map]
  unfold apN apV
  rw [List.flatMap_map]
  have key : ∀ (l : List Int), (∀ z ∈ l, z ∈ t) → l.flatMap (fun a => if (if a < 0 then cnum (seenTo t t.length) a else a) < 0 then σ (if (seenTo t t.length).getD (-(if a < 0 then cnum (seenTo t t.length) a else a) - 1).toNat (-1) < 0 then (seenTo t t.length).getD (-(if a < 0 then cnum (seenTo t t.length) a else a) - 1).toNat (-1) else -1) else [if a < 0 then cnum (seenTo t t.length) a else a]) = l.flatMap fun z => if z < 0 then σ z else [z] := by
    intro l
    induction l with
    | nil => intro _; rfl
    | cons z l ih =>
      intro hl
      rw [List.flatMap_cons, List.flatMap_cons, ih fun x hx => hl x (List.mem_cons_of_mem _ hx)]
      congr 1
      have hz := hl z (List.mem_cons_self ..)
      by_cases hn : z < 0
      · have hi := List.idxOf_lt_length_of_mem (seen_all hz hn)
        have e1 : (-(cnum (seenTo t t.length) z) - 1).toNat = (seenTo t t.length).idxOf z := by unfold cnum; omega
        have e2 : (seenTo t t.length).getD ((seenTo t t.length).idxOf z) (-1) = z := by
          rw [List.getD_eq_getElem?_getD, List.getElem?_eq_getElem hi]
          simp
        simp only [hn, if_true, cnum_neg, e1, e2]
      · simp only [hn, if_false]
  exact key t (fun z h => h)
/-- Whatever both terms become is an instance of what is found. -/
theorem common_val {sh : Int} {za zb c : List Int} {m : Nat} {r : List Int × Int} (hsh : 0 ≤ sh) (ha : valOk ss za = true) (hb : valOk ss zb = true) (hσ : ∀ z, z < 0 → scan ss 1 (σ z) = some []) (h1 : apV (sft σ 0) za = c) (h2 : apV (sft σ sh) zb = c) (hc : valOk ss c = true)
    (h : commonF ss sh m za zb = some r) : (r = ([], 4) ∨ r.2 = 0 ∧ insB ss r.1 c = true) ∧ ∃ t : List Int, ∃ G : Fd, r = formZ true t ∧ apV σ t = c ∧ TopsIn G t ∧ G.tops = (addT ss sh zb (addT ss 0 za Fd.none).2.2).2.2.tops := by
  unfold commonF at h
  split at h
  · cases hu : uniteF ss sh m za zb Fd.none with
    | none => rw [hu] at h; cases h
    | some q =>
      obtain ⟨k, ok, G⟩ := q
      obtain ⟨e1, ν, v1, v2, v3, v4⟩ := unite_val hsh ha hb hσ (h1.trans h2.symm) hu
      subst e1
      rw [hu] at h
      simp only at h
      cases hw : writeF G m k [] with
      | none => rw [hw] at h; cases h
      | some p =>
        obtain ⟨ok2, t⟩ := p
        rw [hw] at h
        simp only at h
        split at h
        · cases h
          obtain ⟨w1, w2⟩ := write_val v2 v1 v4 m k [] t ok2 hw (by simp)
          have h60 := (valOk_term hc).2.1
          cases ok2 with
          | false =>
            have := w2 rfl
            rw [v3, h1] at this
            simp at this
            omega
          | true =>
            obtain ⟨u, e, w3, w4, w5⟩ := w1 rfl
            rw [List.nil_append] at e
            subst e
            rw [v3, h1] at w3
            refine ⟨?_, t, G, rfl, w3, w5, ?_⟩
            · unfold formZ
              by_cases h12 : (seenTo t t.length).length ≤ 12
              · rw [if_pos ⟨rfl, h12⟩]
                exact .inr ⟨rfl, (canon_ins_of hc w4 hσ w3 h12).2⟩
              · rw [if_neg (fun hh => h12 hh.2)]
                exact .inl rfl
            · have : SameG (addT ss sh zb (addT ss 0 za Fd.none).2.2).2.2 G := by
                unfold uniteF at hu
                cases hs : solveF m [((addT ss 0 za Fd.none).1, (addT ss sh zb (addT ss 0 za Fd.none).2.2).1)] (addT ss sh zb (addT ss 0 za Fd.none).2.2).2.2 with
                | none => rw [hs] at hu; cases hu
                | some q =>
                  obtain ⟨b, G1⟩ := q
                  obtain ⟨ν2, k1, k2, k3, k4, _⟩ := both_val hsh ha hb hσ
                  obtain ⟨x1, x2, x3, x4⟩ := solve_val m _ _ G1 b k2 k1.val (fun e he => by
                    obtain rfl := List.mem_singleton.1 he
                    show ν2 _ = ν2 _
                    rw [k3, k4, h1, h2]) hs
                  subst x1
                  rw [hs] at hu
                  simp only at hu
                  cases he : endlessF G1 m (addT ss 0 za Fd.none).1 with
                  | none => rw [he] at hu; cases hu
                  | some en =>
                    rw [he] at hu
                    simp only [Option.some.injEq, Prod.mk.injEq] at hu
                    obtain ⟨_, _, rfl⟩ := hu
                    exact x3
              exact this.tops
        · cases h
  · cases h
end

end Go.Proofs.Ytojofbmpknpggaa

namespace Go.Proofs.Ytojofbmpknpggaa
open Go.RowKit

theorem rootS_mono {prox : List Nat} : ∀ {m m' k r : Nat}, m ≤ m' → rootS prox m k = some r → rootS prox m' k = some r
  | 0, m', k, r, _, h => by cases h
  | m + 1, 0, k, r, hm, h => by omega
  | m + 1, m' + 1, k, r, hm, h => by
    unfold rootS at h ⊢
    cases e : prox[k]? with
    | none => rw [e] at h; cases h
    | some p =>
      rw [e] at h
      simp only at h ⊢
      split at h
      · rename_i hp; rw [if_pos hp]; exact h
      · rename_i hp; rw [if_neg hp]; exact rootS_mono (by omega) h
/-- Where x, that stood for itself, now has y stand for it. -/
theorem rootS_setp {prox : List Nat} {x y : Nat} (hx : prox[x]? = some x) (hy : prox[y]? = some y) (hxy : x ≠ y) : ∀ {m k r : Nat}, rootS prox m k = some r → rootS (prox.set x y) (m + 1) k = some (if r = x then y else r)
  | 0, k, r, h => by cases h
  | m + 1, k, r, h => by
    have hxl := (List.getElem?_eq_some_iff.1 hx).1
    unfold rootS at h
    cases e : prox[k]? with
    | none => rw [e] at h; cases h
    | some p =>
      rw [e] at h
      simp only at h
      have ey : (prox.set x y)[y]? = some y := by rw [List.getElem?_set, if_neg hxy]; exact hy
      by_cases hkx : k = x
      · subst hkx
        rw [hx] at e
        cases e
        rw [if_pos rfl] at h
        cases h
        rw [if_pos rfl]
        unfold rootS
        rw [List.getElem?_set, if_pos rfl, if_pos hxl]
        simp only
        rw [if_neg (Ne.symm hxy)]
        unfold rootS
        rw [ey]
        simp
      · have e2 : (prox.set x y)[k]? = some p := by rw [List.getElem?_set, if_neg (Ne.symm hkx)]; exact e
        unfold rootS
        rw [e2]
        simp only
        by_cases hp : p = k
        · rw [if_pos hp] at h ⊢
          cases h
          rw [if_neg hkx]
        · rw [if_neg hp] at h ⊢
          exact rootS_setp hx hy hxy h
/-- Each node has one that stands for it, m steps away at the most. -/
def RootsIn (m : Nat) (prox : List Nat) : Prop := ∀ k, k < prox.length → ∃ r, rootS prox m k = some r
theorem RootsIn.mono {m m' : Nat} {prox : List Nat} (h : RootsIn m prox) (hm : m ≤ m') : RootsIn m' prox := fun k hk => by
  obtain ⟨r, hr⟩ := h k hk
  exact ⟨r, rootS_mono hm hr⟩
theorem RootsIn.setp {m x y : Nat} {prox : List Nat} (h : RootsIn m prox) (hx : prox[x]? = some x) (hy : prox[y]? = some y) (hxy : x ≠ y) : RootsIn (m + 1) (prox.set x y) := fun k hk => by
  obtain ⟨r, hr⟩ := h k (by simpa using hk)
  exact ⟨_, rootS_setp hx hy hxy hr⟩
/-- How many arguments a node has. -/
def ArN (ss : Sg) (F : Fd) : Prop := ∀ (k : Nat) (x : Int) (us : List Nat), F.tops[k]? = some x → F.args[k]? = some us → us.length = arOf ss x ∧ us.length ≤ 3
theorem ArN.same {ss : Sg} {F G : Fd} (h : ArN ss F) (g : SameG F G) : ArN ss G := fun k x us h1 h2 => h k x us (by rw [← g.tops]; exact h1) (by rw [← g.args]; exact h2)
/-- All nodes that stand for themselves are in a list of c. -/
def Heads (c : Nat) (prox : List Nat) : Prop := ∃ L : List Nat, (∀ k, prox[k]? = some k → k ∈ L) ∧ L.length ≤ c
theorem Heads.setp {c x y : Nat} {prox : List Nat} (h : Heads c prox) (hx : prox[x]? = some x) (hxy : x ≠ y) : 1 ≤ c ∧ Heads (c - 1) (prox.set x y) := by
  obtain ⟨L, h1, h2⟩ := h
  have hm := h1 x hx
  have hl := List.length_erase_of_mem hm
  have hp := List.length_pos_of_mem hm
  refine ⟨by omega, L.erase x, fun k hk => ?_, by omega⟩
  rcases set_get? hk with ⟨rfl, e, _⟩ | ⟨hne, hk⟩
  · exact absurd e hxy
  · exact (List.mem_erase_of_ne hne).2 (h1 k hk)
theorem solve_some {ss : Sg} {n : Nat} : ∀ (m : Nat) (st : List (Nat × Nat)) (F : Fd) (c : Nat), F.Ok → F.tops.length = n → ArN ss F → (∀ e ∈ st, e.1 < n ∧ e.2 < n) → Heads c F.prox → c ≤ n → RootsIn (n + 2 - c) F.prox → st.length + 4 * c + n + 3 ≤ m →
    ∃ b G, solveF m st F = some (b, G) ∧ RootsIn (n + 2) G.prox ∧ SameG F G ∧ G.Ok
  | 0, st, F, c, _, _, _, _, _, _, _, hm => by omega
  | m + 1, st, F, c, hF, hn, hA, hst, hH, hc, hR, hm => by
    unfold solveF
    cases hl : st.getLast? with
    | none => exact ⟨true, F, rfl, hR.mono (by omega), SameG.refl _, hF⟩
    | some lr =>
      obtain ⟨l, r⟩ := lr
      simp only
      have hmem : (l, r) ∈ st := List.mem_of_getLast? hl
      have hd : ∀ e ∈ st.dropLast, e.1 < n ∧ e.2 < n := fun e he => hst e (List.dropLast_subset _ he)
      have hpos : 0 < st.length := List.length_pos_of_mem hmem
      have hdl : st.dropLast.length = st.length - 1 := List.length_dropLast
      obtain ⟨hl1, hr1⟩ := hst _ hmem
      simp only at hl1 hr1
      obtain ⟨x, h1⟩ := hR l (by rw [hF.pl, hn]; exact hl1)
      obtain ⟨y, h2⟩ := hR r (by rw [hF.pl, hn]; exact hr1)
      rw [rootS_mono (m' := m) (by omega) h1, rootS_mono (m' := m) (by omega) h2]
      simp only
      obtain ⟨_, hx, ex⟩ := rootS_lt h1
      obtain ⟨_, hy, ey⟩ := rootS_lt h2
      rw [hF.pl] at hx hy
      by_cases hxy : x = y
      · rw [if_pos hxy]
        exact solve_some m _ F c hF hn hA hd hH hc hR (by omega)
      · rw [if_neg hxy, List.getElem?_eq_getElem hx, List.getElem?_eq_getElem hy]
        simp only
        have step : ∀ (x y : Nat) (st2 : List (Nat × Nat)), x < F.tops.length → y < F.tops.length → F.prox[x]? = some x → F.prox[y]? = some y → x ≠ y → (∀ e ∈ st2, e.1 < n ∧ e.2 < n) → st2.length ≤ st.length + 2 → ∃ b G, solveF m st2 { F with prox := F.prox.set x y } = some (b, G) ∧ RootsIn (n + 2) G.prox ∧ SameG F G ∧ G.Ok := by
          intro x y st2 hx hy ex ey hne h2 h3
          obtain ⟨hc1, hH1⟩ := hH.setp ex hne
          have hR1 : RootsIn (n + 2 - (c - 1)) (F.prox.set x y) := by
            have := hR.setp ex ey hne
            exact this.mono (by omega)
          obtain ⟨b, G, g1, g2, g3, g4⟩ := solve_some m st2 { F with prox := F.prox.set x y } (c - 1) (hF.setp hy) hn hA h2 hH1 (by omega) hR1 (by omega)
          exact ⟨b, G, g1, g2, g3.set, g4⟩
        by_cases hty : F.tops[y] < 0
        · simp only [hty, if_true]
          exact step y x _ hy hx ey ex (Ne.symm hxy) hd (by omega)
        · simp only [hty, if_false]
          split
          · exact step x y _ hx hy ex ey hxy hd (by omega)
          · have hxa : x < F.args.length := by rw [hF.al]; exact hx
            have hya : y < F.args.length := by rw [hF.al]; exact hy
            split
            · rename_i htx
              rw [List.getElem?_eq_getElem hxa, List.getElem?_eq_getElem hya]
              simp only
              obtain ⟨s1, s2⟩ := hA x _ _ (List.getElem?_eq_getElem hx) (List.getElem?_eq_getElem hxa)
              obtain ⟨t1, t2⟩ := hA y _ _ (List.getElem?_eq_getElem hy) (List.getElem?_eq_getElem hya)
              rw [if_pos (by rw [s1, t1, htx]; exact Nat.le_refl _)]
              refine step x y _ hx hy ex ey hxy (fun e he => ?_) ?_
              · rcases List.mem_append.1 he with he | he
                · exact hd e he
                · obtain ⟨i1, i2⟩ := List.of_mem_zip he
                  rw [← hn]
                  exact ⟨hF.ab _ (List.getElem_mem hxa) _ i1, hF.ab _ (List.getElem_mem hya) _ i2⟩
              · rw [List.length_append, List.length_zip]
                omega
            · obtain ⟨hc1, hH1⟩ := hH.setp ex hxy
              exact ⟨false, _, rfl, (hR.setp ex ey hxy).mono (by omega), ⟨rfl, rfl, by simp, rfl⟩, hF.setp hy⟩
theorem set_back {l : List Bool} {r : Nat} (h : l[r]? = some false) : (l.set r true).set r false = l := by
  apply List.ext_getElem?
  intro j
  rw [List.getElem?_set]
  by_cases e : r = j
  · subst e
    rw [if_pos rfl, if_pos (by simpa using (List.getElem?_eq_some_iff.1 h).1), h]
  · rw [if_neg e, List.getElem?_set, if_neg e]
theorem again_some {F : Fd} (hF : F.Ok) {R : Nat} (hR : RootsIn R F.prox) : ∀ (u k : Nat) (i d : List Bool) (m : Nat), k < F.tops.length → i.length = F.tops.length → d.length = F.tops.length → (∃ L : List Nat, (∀ j : Nat, i[j]? = some false → j ∈ L) ∧ L.length ≤ u) → u + R + 1 ≤ m →
    ∃ b i' d', againF F m k i d = some (b, i', d') ∧ i'.length = F.tops.length ∧ d'.length = F.tops.length ∧ (b = false → i' = i) := by
  intro u
  induction u with
  | zero =>
    intro k i d m hk hi hd ⟨L, hL, hl⟩ hm
    obtain ⟨m, rfl⟩ : ∃ m', m = m' + 1 := ⟨m - 1, by omega⟩
    unfold againF
    obtain ⟨r, hr⟩ := hR k (by rw [hF.pl]; exact hk)
    obtain ⟨_, hrl, _⟩ := rootS_lt hr
    rw [hF.pl] at hrl
    have hra : r < F.args.length := by rw [hF.al]; exact hrl
    rw [rootS_mono (m' := m) (by omega) hr]
    simp only
    have hri : r < i.length := by omega
    have hrd : r < d.length := by omega
    rw [List.getElem?_eq_getElem hri, List.getElem?_eq_getElem hrd, List.getElem?_eq_getElem hra]
    simp only
    have hb : i[r] = true := by
      cases hb : i[r] with
      | true => rfl
      | false =>
        have := hL r (by rw [List.getElem?_eq_getElem hri, hb])
        have hp := List.length_pos_of_mem this
        omega
    rw [hb, if_pos (by simp)]
    exact ⟨true, i, d, rfl, hi, hd, fun _ => rfl⟩
  | succ u ih =>
    intro k i d m hk hi hd ⟨L, hL, hl⟩ hm
    obtain ⟨m, rfl⟩ : ∃ m', m = m' + 1 := ⟨m - 1, by omega⟩
    unfold againF
    obtain ⟨r, hr⟩ := hR k (by rw [hF.pl]; exact hk)
    obtain ⟨_, hrl, _⟩ := rootS_lt hr
    rw [hF.pl] at hrl
    have hra : r < F.args.length := by rw [hF.al]; exact hrl
    rw [rootS_mono (m' := m) (by omega) hr]
    simp only
    have hri : r < i.length := by omega
    have hrd : r < d.length := by omega
    rw [List.getElem?_eq_getElem hri, List.getElem?_eq_getElem hrd, List.getElem?_eq_getElem hra]
    simp only
    split
    · exact ⟨i[r], i, d, rfl, hi, hd, fun _ => rfl⟩
    · rename_i hbd
      have hb : i[r] = false := by
        cases hb : i[r] with
        | false => rfl
        | true => rw [hb] at hbd; simp at hbd
      have hir : i[r]? = some false := by rw [List.getElem?_eq_getElem hri, hb]
      have hrL := hL r hir
      have hle := List.length_erase_of_mem hrL
      have hp := List.length_pos_of_mem hrL
      have hL2 : ∃ L : List Nat, (∀ j : Nat, (i.set r true)[j]? = some false → j ∈ L) ∧ L.length ≤ u := by
        refine ⟨L.erase r, fun j hj => ?_, by omega⟩
        rcases set_get? hj with ⟨_, e, _⟩ | ⟨hne, hj⟩
        · cases e
        · exact (List.mem_erase_of_ne hne).2 (hL j hj)
      have key : ∀ (us : List Nat) (d : List Bool), (∀ v ∈ us, v < F.tops.length) → d.length = F.tops.length → ∃ b i' d', loopA (againF F m) us (i.set r true) d = some (b, i', d') ∧ i'.length = F.tops.length ∧ d'.length = F.tops.length ∧ (b = false → i' = i.set r true) := by
        intro us
        induction us with
        | nil => intro d _ hd; exact ⟨false, _, d, rfl, by rw [List.length_set]; exact hi, hd, fun _ => rfl⟩
        | cons v us ihu =>
          intro d hv hd
          obtain ⟨b, i', d', e1, e2, e3, e4⟩ := ih v (i.set r true) d m (hv v (List.mem_cons_self ..)) (by rw [List.length_set]; exact hi) hd hL2 (by omega)
          unfold loopA
          rw [e1]
          cases b with
          | true => exact ⟨true, i', d', rfl, e2, e3, fun h => by cases h⟩
          | false =>
            simp only
            rw [e4 rfl]
            exact ihu d' (fun w hw => hv w (List.mem_cons_of_mem _ hw)) e3
      obtain ⟨b, i', d', e1, e2, e3, e4⟩ := key F.args[r] d (fun v hv => hF.ab _ (List.getElem_mem hra) v hv) hd
      rw [e1]
      cases b with
      | true => exact ⟨true, i', d', rfl, e2, e3, fun h => by cases h⟩
      | false =>
        refine ⟨false, i'.set r false, d'.set r true, rfl, by rw [List.length_set]; exact e2, by rw [List.length_set]; exact e3, fun _ => ?_⟩
        rw [e4 rfl]
        exact set_back hir
theorem endless_some {F : Fd} (hF : F.Ok) {R m k : Nat} (hR : RootsIn R F.prox) (hk : k < F.tops.length) (hm : F.tops.length + R + 1 ≤ m) : ∃ b, endlessF F m k = some b := by
  obtain ⟨b, i, d, e, _⟩ := again_some hF hR F.tops.length k (List.replicate F.tops.length false) (List.replicate F.tops.length false) m hk (by simp) (by simp) ⟨List.range F.tops.length, fun j hj => by
    have := (List.getElem?_eq_some_iff.1 hj).1
    rw [List.mem_range]
    simpa using this, by simp⟩ hm
  exact ⟨b, by unfold endlessF; rw [e]; rfl⟩
theorem write_some {F : Fd} (hF : F.Ok) {R : Nat} (hR : RootsIn R F.prox) : ∀ (u k : Nat) (t : List Int) (m : Nat), t.length ≤ 60 → 61 - t.length ≤ u → k < F.tops.length → u + R + 1 ≤ m →
    ∃ b t', writeF F m k t = some (b, t') ∧ t.length ≤ t'.length ∧ ∀ z ∈ t', z ∈ t ∨ z ∈ F.tops := by
  intro u
  induction u with
  | zero => intro k t m h1 h2; omega
  | succ u ih =>
    intro k t m h1 h2 hk hm
    obtain ⟨m, rfl⟩ : ∃ m', m = m' + 1 := ⟨m - 1, by omega⟩
    unfold writeF
    obtain ⟨r, hr⟩ := hR k (by rw [hF.pl]; exact hk)
    obtain ⟨_, hrl, _⟩ := rootS_lt hr
    rw [hF.pl] at hrl
    have hra : r < F.args.length := by rw [hF.al]; exact hrl
    rw [rootS_mono (m' := m) (by omega) hr]
    simp only
    split
    · exact ⟨false, t, rfl, Nat.le_refl _, fun z hz => .inl hz⟩
    · rename_i h60
      rw [List.getElem?_eq_getElem hrl, List.getElem?_eq_getElem hra]
      simp only
      have key : ∀ (us : List Nat) (t1 : List Int), (∀ v ∈ us, v < F.tops.length) → t.length + 1 ≤ t1.length → t1.length ≤ 60 → ∃ b t', loopW (writeF F m) us t1 = some (b, t') ∧ t1.length ≤ t'.length ∧ ∀ z ∈ t', z ∈ t1 ∨ z ∈ F.tops := by
        intro us
        induction us with
        | nil => intro t1 _ _ _; exact ⟨true, t1, rfl, Nat.le_refl _, fun z hz => .inl hz⟩
        | cons v us ihu =>
          intro t1 hv ht h60
          obtain ⟨b, t', e1, e2, e3⟩ := ih v t1 m h60 (by omega) (hv v (List.mem_cons_self ..)) (by omega)
          unfold loopW
          rw [e1]
          cases b with
          | false => exact ⟨false, t', rfl, e2, e3⟩
          | true =>
            simp only
            obtain ⟨b2, t2, f1, f2, f3⟩ := ihu t' (fun w hw => hv w (List.mem_cons_of_mem _ hw)) (by omega) (writeF_len m v t1 true t' e1 h60)
            refine ⟨b2, t2, f1, by omega, fun z hz => ?_⟩
            rcases f3 z hz with h | h
            · exact e3 z h
            · exact .inr h
      obtain ⟨b, t', e1, e2, e3⟩ := key F.args[r] (t ++ [F.tops[r]]) (fun v hv => hF.ab _ (List.getElem_mem hra) v hv) (by simp) (by simp; omega)
      refine ⟨b, t', e1, by simp at e2; omega, fun z hz => ?_⟩
      rcases e3 z hz with h | h
      · rcases List.mem_append.1 h with h | h
        · exact .inl h
        · obtain rfl := List.mem_singleton.1 h
          exact .inr (List.getElem_mem hrl)
      · exact .inr h
/-- The tops that add makes. -/
theorem loopK_mem {ss : Sg} {sh : Int} {f node : Nat} {Q : Int → Prop} {l : List Int} {F : Fd} (ih : ∀ (l : List Int) (F : Fd), (∀ z ∈ l, Q z ∧ Q (z - sh)) → (∀ z ∈ F.tops, Q z) → (∀ z ∈ (addF ss sh f l F).2.1, Q z ∧ Q (z - sh)) ∧ ∀ z ∈ (addF ss sh f l F).2.2.tops, Q z) (hl : ∀ z ∈ l, Q z ∧ Q (z - sh)) (hF : ∀ z ∈ F.tops, Q z) :
    ∀ c, (∀ z ∈ (loopK (addF ss sh f) node l F c).1, Q z ∧ Q (z - sh)) ∧ ∀ z ∈ (loopK (addF ss sh f) node l F c).2.tops, Q z
  | 0 => ⟨hl, hF⟩
  | c + 1 => by
    obtain ⟨h1, h2⟩ := loopK_mem (node := node) ih hl hF c
    exact ih _ _ h1 h2
theorem addF_mem {ss : Sg} {sh : Int} {Q : Int → Prop} : ∀ (f : Nat) (l : List Int) (F : Fd), (∀ z ∈ l, Q z ∧ Q (z - sh)) → (∀ z ∈ F.tops, Q z) → (∀ z ∈ (addF ss sh f l F).2.1, Q z ∧ Q (z - sh)) ∧ ∀ z ∈ (addF ss sh f l F).2.2.tops, Q z
  | 0, l, F, hl, hF => ⟨hl, hF⟩
  | f + 1, [], F, hl, hF => ⟨hl, hF⟩
  | f + 1, t :: l, F, hl, hF => by
    have hpush : ∀ y, Q y → ∀ z ∈ (F.push y).tops, Q z := fun y hy z hz => by
      simp only [Fd.push] at hz
      rcases List.mem_append.1 hz with hz | hz
      · exact hF z hz
      · obtain rfl := List.mem_singleton.1 hz; exact hy
    have ht := hl t (List.mem_cons_self ..)
    have hl2 : ∀ z ∈ l, Q z ∧ Q (z - sh) := fun z hz => hl z (List.mem_cons_of_mem _ hz)
    unfold addF
    by_cases hn : t < 0
    · rw [if_pos hn]
      refine ⟨hl2, ?_⟩
      unfold Fd.vnode
      cases vget F.vars (t - sh) with
      | some k => exact hF
      | none => exact hpush _ ht.2
    · rw [if_neg hn]
      exact loopK_mem (addF_mem f) hl2 (hpush t ht.1) _
/-- Unification ends. -/
theorem common_some {ss : Sg} {sh : Int} {za zb : List Int} (hsh : 0 ≤ sh ∧ sh ≤ 1000) (ha : valOk ss za = true) (hb : valOk ss zb = true) :
    (∃ k b G, uniteF ss sh 10000 za zb Fd.none = some (k, b, G) ∧ G.Ok) ∧ (∀ l ∈ (addT ss sh zb (addT ss 0 za Fd.none).2.2).2.2.args, l.length ≤ 3) ∧ ∃ r, commonF ss sh 10000 za zb = some r := by
  have har := sigOk_ar (valOk_sig ha)
  have hns := (sigOk_len (valOk_sig ha)).2
  obtain ⟨ν, h1, h2, h3, h4, hk1, hk2, hlen⟩ := both_val (σ := fun _ => [-1]) hsh.1 ha hb (fun z hz => scan_neg (by omega))
  obtain ⟨_, a60, a12, _⟩ := valOk_term ha
  obtain ⟨_, b60, b12, _⟩ := valOk_term hb
  have hV := h1.val
  have hQ : ∀ z ∈ (addT ss sh zb (addT ss 0 za Fd.none).2.2).2.2.tops, -1012 ≤ z ∧ z ≤ 12 := by
    unfold addT
    refine (addF_mem (Q := fun z => -1012 ≤ z ∧ z ≤ 12) _ zb _ (fun z hz => ?_) (addF_mem (Q := fun z => -1012 ≤ z ∧ z ≤ 12) _ za _ (fun z hz => ?_) (fun z hz => by simp [Fd.none] at hz)).2).2
    · have := b12 z hz; omega
    · have := a12 z hz; omega
  obtain ⟨F, hFF⟩ : ∃ F, (addT ss sh zb (addT ss 0 za Fd.none).2.2).2.2 = F := ⟨_, rfl⟩
  have hA : ArN ss F := by
    rw [hFF] at hV
    intro k x us hx hu
    by_cases h0 : 0 ≤ x
    · obtain ⟨_, e⟩ := hV.sym k x us hx hu h0
      exact ⟨e, by rw [e]; exact arOf_le har x⟩
    · have e := hV.var k x us hx hu (by omega)
      subst e
      rw [arOf_neg ss (by omega)]
      exact ⟨rfl, by simp⟩
  have hR0 : RootsIn 1 F.prox := fun k hk => by
    rw [← hFF] at hk ⊢
    refine ⟨k, ?_⟩
    unfold rootS
    rw [List.getElem?_eq_getElem hk]
    simp only
    rw [if_pos (h1.pid k _ (List.getElem?_eq_getElem hk))]
  have h3' : ∀ l ∈ F.args, l.length ≤ 3 := fun l hl => by
    obtain ⟨i, hi, rfl⟩ := List.mem_iff_getElem.1 hl
    have hi2 : i < F.tops.length := by rw [← (hFF ▸ h2 : F.Ok).al]; exact hi
    exact (hA i _ _ (List.getElem?_eq_getElem hi2) (List.getElem?_eq_getElem hi)).2
  rw [hFF] at h2 hk1 hk2 hlen hQ
  obtain ⟨b, G, g1, g2, g3, g4⟩ := solve_some (ss := ss) (n := F.tops.length) 10000 [((addT ss 0 za Fd.none).1, (addT ss sh zb (addT ss 0 za Fd.none).2.2).1)] F F.tops.length h2 rfl hA (fun e he => by
    obtain rfl := List.mem_singleton.1 he
    exact ⟨hk1, hk2⟩) ⟨List.range F.prox.length, fun k hk => List.mem_range.2 (List.getElem?_eq_some_iff.1 hk).1, by rw [List.length_range, h2.pl]; exact Nat.le_refl _⟩ (Nat.le_refl _) (hR0.mono (by omega)) (by
      simp only [List.length_singleton]; omega)
  obtain ⟨en, hen⟩ := endless_some (m := 10000) (k := (addT ss 0 za Fd.none).1) g4 g2 (by rw [g3.tops]; exact hk1) (by rw [g3.tops]; omega)
  have hu : ∃ b2, uniteF ss sh 10000 za zb Fd.none = some ((addT ss 0 za Fd.none).1, b2, G) := by
    unfold uniteF
    rw [hFF, g1]
    cases b with
    | false => exact ⟨false, rfl⟩
    | true =>
      simp only
      rw [hen]
      exact ⟨_, rfl⟩
  obtain ⟨b2, hu⟩ := hu
  refine ⟨⟨_, b2, G, hu, g4⟩, by rw [hFF]; exact h3', ?_⟩
  unfold commonF
  rw [hFF, if_pos (by simpa [List.all_eq_true] using h3'), hu]
  cases b2 with
  | false => exact ⟨_, rfl⟩
  | true =>
    simp only
    obtain ⟨b3, t, w1, _, w2⟩ := write_some g4 g2 61 (addT ss 0 za Fd.none).1 [] 10000 (by simp) (by simp) (by rw [g3.tops]; exact hk1) (by omega)
    rw [w1]
    simp only
    rw [if_pos]
    · exact ⟨_, rfl⟩
    · unfold inB
      rw [List.all_eq_true]
      intro z hz
      rcases w2 z hz with h | h
      · simp at h
      · rw [g3.tops] at h
        have := hQ z h
        simp only [Bool.and_eq_true, decide_eq_true_eq]
        omega
end Go.Proofs.Ytojofbmpknpggaa
