/- The walk of UnifyOrders. -/
import Derived.Test.YtodcogngejgpfaaN21g
import Derived.Test.YtodcogngejgpfaaQ3g
import Derived.Test.YtodcogngejgpfaaQ5g
import Derived.Test.YtodcogngejgpfaaY21g
/- Instances: the plain mathematics. -/
namespace Go.Proofs.Ytodcogngejgpfaa
open Go.RowKit

theorem scan_apN {ss : Sg} {σ : Nat → List Int} (hσ : ∀ v, v < 12 → scan ss 1 (σ v) = some []) : ∀ (p : List Int) (n : Nat) (r : List Int), (∀ z ∈ p, -12 ≤ z) → scan ss n p = some r → scan ss n (apN σ p) = some (apN σ r)
  | p, 0, r, _, h => by rw [scan_zero] at h ⊢; cases h; rfl
  | [], n + 1, r, _, h => by cases h
  | z :: p, n + 1, r, hz, h => by
    have h12 := hz z (List.mem_cons_self ..)
    simp only [scan] at h
    rw [apN_cons]
    by_cases hn : z < 0
    · rw [arOf_neg ss hn, Nat.add_zero] at h
      rw [if_pos hn, show n + 1 = 1 + n by omega, scan_add, scan_append ss _ _ _ _ (hσ _ (by omega))]
      exact scan_apN hσ p n r (fun x hx => hz x (List.mem_cons_of_mem _ hx)) h
    · rw [if_neg hn]
      simp only [List.cons_append, List.nil_append, scan]
      exact scan_apN hσ p _ r (fun x hx => hz x (List.mem_cons_of_mem _ hx)) h
theorem apN_apN (σ τ : Nat → List Int) : ∀ (p : List Int), apN τ (apN σ p) = apN (fun v => apN τ (σ v)) p
  | [] => rfl
  | z :: p => by
    rw [apN_cons, apN_cons, apN_append, apN_apN σ τ p]
    congr 1
    by_cases hn : z < 0
    · rw [if_pos hn, if_pos hn]
    · rw [if_neg hn, if_neg hn]; simp [apN, hn]
theorem apN_map {σ : Nat → List Int} {f : Int → Int} : ∀ {p : List Int}, (∀ z ∈ p, (if z < 0 then σ (-z - 1).toNat else [z]) = [f z]) → apN σ p = p.map f
  | [], _ => rfl
  | z :: p, h => by
    rw [apN_cons, h z (List.mem_cons_self ..), apN_map fun x hx => h x (List.mem_cons_of_mem _ hx)]
    rfl
theorem appl_is (bb : List Bd) : ∀ (zs : List Int), appl bb zs = apN (fun v => ofB bb (v : Int)) zs
  | [] => rfl
  | z :: zs => by
    rw [appl_cons, apN_cons, appl_is bb zs]
    by_cases hn : z < 0
    · rw [if_pos hn, if_pos hn, show (((-z - 1).toNat : Nat) : Int) = -z - 1 by omega]
    · rw [if_neg hn, if_neg hn]
theorem ins_valid {ss : Sg} {za zb : List Int} (h : insB ss za zb = true) : valOk ss za = true ∧ valOk ss zb = true := by
  obtain ⟨h1, h2, _⟩ := mat_sound (of_decide_eq_true h)
  exact ⟨h1, h2⟩
theorem ins_out {ss : Sg} {za zb : List Int} (h : insB ss za zb = true) : ∃ σ : Nat → List Int, (∀ v, v < 12 → valOk ss (σ v) = true) ∧ apN σ za = zb := by
  obtain ⟨h1, h2, h3, h4⟩ := mat_sound (of_decide_eq_true h)
  have hz : ∀ z ∈ za, -12 ≤ z := fun z hz => ((valOk_term h1).2.2.1 z hz).1
  refine ⟨fun v => ofB (matZ ss za zb).1 (v : Int), fun v hv => ofB_ok h3 (by omega) (by omega), ?_⟩
  rw [← appl_is, h4]
theorem ins_in {ss : Sg} {za zb : List Int} {σ : Nat → List Int} (ha : valOk ss za = true) (hb : valOk ss zb = true) (hσ : ∀ v, v < 12 → scan ss 1 (σ v) = some []) (h : apN σ za = zb) : insB ss za zb = true := by
  have hz : ∀ z ∈ za, -12 ≤ z := fun z hz => ((valOk_term ha).2.2.1 z hz).1
  obtain ⟨im', hm⟩ := mtc_complete hσ [] za ini hz rfl (fun v hv => absurd (ini_at v) hv)
  rw [List.append_nil, h] at hm
  unfold insB
  rw [matZ_good (by simp [ha, hb]), hm]
  rfl
theorem ins_trans {ss : Sg} {a b c : List Int} (h1 : insB ss a b = true) (h2 : insB ss b c = true) : insB ss a c = true := by
  obtain ⟨σ, s1, s2⟩ := ins_out h1
  obtain ⟨τ, t1, t2⟩ := ins_out h2
  refine ins_in (σ := fun v => apN τ (σ v)) (ins_valid h1).1 (ins_valid h2).2 (fun v hv => ?_) (by rw [← apN_apN, s2, t2])
  obtain ⟨_, _, q3, q4⟩ := valOk_term (s1 v hv)
  exact scan_apN (fun u hu => (valOk_term (t1 u hu)).2.2.2) _ _ _ (fun z hz => (q3 z hz).1) q4
theorem scan_neg {ss : Sg} {z : Int} (h : z < 0) : scan ss 1 [z] = some [] := by
  simp [scan, arOf_neg ss h]
theorem ins_map {ss : Sg} {a b : List Int} {f : Int → Int} (ha : valOk ss a = true) (hb : valOk ss b = true) (hf : ∀ z ∈ a, z < 0 → f z < 0) (hf2 : ∀ z ∈ a, 0 ≤ z → f z = z) (h : a.map f = b) : insB ss a b = true := by
  refine ins_in (σ := fun v => if f (-(v : Int) - 1) < 0 then [f (-(v : Int) - 1)] else [-1]) ha hb (fun v _ => ?_) ?_
  · show scan ss 1 (if f (-(v : Int) - 1) < 0 then [f (-(v : Int) - 1)] else [-1]) = some []
    split
    · exact scan_neg (by assumption)
    · exact scan_neg (by omega)
  · rw [← h]
    refine apN_map fun z hz => ?_
    by_cases hn : z < 0
    · rw [if_pos hn, show -(((-z - 1).toNat : Nat) : Int) - 1 = z by omega, if_pos (hf z hz hn)]
    · rw [if_neg hn, hf2 z hz (by omega)]
theorem ins_refl {ss : Sg} {a : List Int} : insB ss a a = valOk ss a := by
  cases h : valOk ss a
  · unfold insB; rw [matZ_bad (by simp [h])]; rfl
  · exact ins_map (f := id) h h (fun _ _ h => h) (fun _ _ _ => rfl) (by simp)

/-- What a renaming makes of what was seen. -/
theorem addSeen_map {f : Int → Int} {l : List Int} {z : Int} (hneg : z < 0 → f z < 0) (hpos : 0 ≤ z → f z = z) (hinj : ∀ x ∈ l, z < 0 → f x = f z → x = z) : addSeen (l.map f) (f z) = (addSeen l z).map f := by
  unfold addSeen
  by_cases h : 0 ≤ z
  · rw [if_pos h, if_pos (by rw [hpos h]; exact h)]
  · have hz : z < 0 := by omega
    have := hneg hz
    rw [if_neg h, if_neg (by omega)]
    by_cases hc : z ∈ l
    · rw [if_pos (List.contains_iff_mem.2 hc), if_pos (List.contains_iff_mem.2 (List.mem_map_of_mem hc))]
    · have hc2 : ¬ f z ∈ l.map f := fun h => by
        obtain ⟨x, hx, e⟩ := List.mem_map.1 h
        exact hc (hinj x hx hz e ▸ hx)
      rw [if_neg (fun h => hc (List.contains_iff_mem.1 h)), if_neg (fun h => hc2 (List.contains_iff_mem.1 h))]
      simp
theorem idx_map {f : Int → Int} : ∀ {l : List Int} {z : Int}, (∀ x ∈ l, f x = f z → x = z) → (l.map f).idxOf (f z) = l.idxOf z
  | [], _, _ => rfl
  | x :: l, z, h => by
    rw [List.map_cons, List.idxOf_cons, List.idxOf_cons, idx_map fun y hy => h y (List.mem_cons_of_mem _ hy)]
    by_cases e : x = z
    · subst e; simp
    · have : f x ≠ f z := fun e2 => e (h x (List.mem_cons_self ..) e2)
      have b1 : (f x == f z) = false := beq_eq_false_iff_ne.2 this
      have b2 : (x == z) = false := beq_eq_false_iff_ne.2 e
      rw [b1, b2]
theorem canonL_map {f : Int → Int} {S : List Int} (hneg : ∀ z ∈ S, z < 0 → f z < 0) (hpos : ∀ z ∈ S, 0 ≤ z → f z = z) (hinj : ∀ x ∈ S, ∀ z ∈ S, f x = f z → x = z) : ∀ (a l : List Int), (∀ z ∈ a, z ∈ S) → (∀ x ∈ l, x ∈ S) → canonL (l.map f) (a.map f) = canonL l a
  | [], _, _, _ => rfl
  | z :: a, l, ha, hl => by
    have hz := ha z (List.mem_cons_self ..)
    have e1 := addSeen_map (l := l) (hneg z hz) (hpos z hz) (fun x hx _ e => hinj x (hl x hx) z hz e)
    have hl2 : ∀ x ∈ addSeen l z, x ∈ S := fun x hx => by
      unfold addSeen at hx
      split at hx
      · exact hl x hx
      · split at hx
        · exact hl x hx
        · rcases List.mem_append.1 hx with h | h
          · exact hl x h
          · obtain rfl := List.mem_singleton.1 h; exact hz
    simp only [List.map_cons, canonL]
    rw [e1, canonL_map hneg hpos hinj a _ (fun x hx => ha x (List.mem_cons_of_mem _ hx)) hl2]
    congr 1
    unfold ren1
    by_cases h : 0 ≤ z
    · rw [if_pos h, hpos z hz h, if_pos h]
    · have := hneg z hz (by omega)
      rw [if_neg h, if_neg (by omega)]
      unfold cnum
      rw [e1, idx_map fun x hx e => hinj x (hl2 x hx) z hz e]
theorem apN_len {σ : Nat → List Int} : ∀ {a : List Int}, (∀ z ∈ a, z < 0 → 1 ≤ (σ (-z - 1).toNat).length) → a.length ≤ (apN σ a).length ∧ ((apN σ a).length = a.length → ∀ z ∈ a, z < 0 → (σ (-z - 1).toNat).length = 1)
  | [], _ => ⟨Nat.le_refl _, fun _ z hz => by simp at hz⟩
  | x :: a, h => by
    obtain ⟨h1, h2⟩ := apN_len (a := a) fun z hz => h z (List.mem_cons_of_mem _ hz)
    rw [apN_cons]
    by_cases hx : x < 0
    · have h3 := h x (List.mem_cons_self ..) hx
      rw [if_pos hx, List.length_append, List.length_cons]
      refine ⟨by omega, fun e z hz hn => ?_⟩
      rcases List.mem_cons.1 hz with rfl | hz
      · omega
      · exact h2 (by omega) z hz hn
    · rw [if_neg hx, List.length_append, List.length_cons]
      simp only [List.length_cons, List.length_nil]
      refine ⟨by omega, fun e z hz hn => ?_⟩
      rcases List.mem_cons.1 hz with rfl | hz
      · exact absurd hn hx
      · exact h2 (by omega) z hz hn
/-- What is an instance and of the same length is renamed. -/
theorem ins_same {ss : Sg} {a b : List Int} (h : insB ss a b = true) (hl : b.length = a.length) : ∃ f : Int → Int, a.map f = b ∧ ∀ z ∈ a, 0 ≤ z → f z = z := by
  obtain ⟨σ, s1, s2⟩ := ins_out h
  have hz : ∀ z ∈ a, -12 ≤ z := fun z hz => ((valOk_term (ins_valid h).1).2.2.1 z hz).1
  have h1 := (apN_len (σ := σ) (a := a) fun z hz' hn => (valOk_term (s1 _ (by have := hz z hz'; omega))).1).2 (by rw [s2, hl])
  refine ⟨fun z => if z < 0 then (σ (-z - 1).toNat).headD 0 else z, ?_, fun z _ hp => by show (if z < 0 then _ else z) = z; rw [if_neg (by omega)]⟩
  rw [← s2]
  refine (apN_map fun z hz' => ?_).symm
  by_cases hn : z < 0
  · rw [if_pos hn, if_pos hn]
    have := h1 z hz' hn
    match hq : σ (-z - 1).toNat, this with
    | [y], _ => rfl
  · rw [if_neg hn, if_neg hn]
theorem ins_canon {ss : Sg} {a b : List Int} (h1 : insB ss a b = true) (h2 : insB ss b a = true) : canon a = canon b := by
  obtain ⟨σ, s1, s2⟩ := ins_out h1
  obtain ⟨τ, t1, t2⟩ := ins_out h2
  obtain ⟨va, vb⟩ := ins_valid h1
  have hza : ∀ z ∈ a, -12 ≤ z := fun z hz => ((valOk_term va).2.2.1 z hz).1
  have hzb : ∀ z ∈ b, -12 ≤ z := fun z hz => ((valOk_term vb).2.2.1 z hz).1
  have l1 := (apN_len (σ := σ) (a := a) fun z hz' hn => (valOk_term (s1 _ (by have := hza z hz'; omega))).1).1
  have l2 := (apN_len (σ := τ) (a := b) fun z hz' hn => (valOk_term (t1 _ (by have := hzb z hz'; omega))).1).1
  rw [s2] at l1
  rw [t2] at l2
  obtain ⟨f, f1, f2⟩ := ins_same h1 (by omega)
  obtain ⟨g, g1, g2⟩ := ins_same h2 (by omega)
  have hgf : ∀ z ∈ a, g (f z) = z := by
    have : a.map (g ∘ f) = a.map id := by rw [List.map_id, ← List.map_map, f1, g1]
    intro z hz
    exact (List.map_inj_left.1 this) z hz
  have hfb : ∀ z ∈ a, f z ∈ b := fun z hz => by rw [← f1]; exact List.mem_map_of_mem hz
  have hneg : ∀ z ∈ a, z < 0 → f z < 0 := fun z hz hn => by
    rcases Int.lt_or_le (f z) 0 with h | h
    · exact h
    · have := hgf z hz
      rw [g2 _ (hfb z hz) h] at this
      omega
  have := canonL_map (S := a) hneg f2 (fun x hx z hz e => by rw [← hgf x hx, ← hgf z hz, e]) a [] (fun _ h => h) (fun x hx => by simp at hx)
  rw [List.map_nil, f1] at this
  exact this.symm
theorem canon_ins {ss : Sg} {a b : List Int} (va : valOk ss a = true) (vb : valOk ss b = true) (h : canon a = canon b) : insB ss a b = true := by
  have hl : a.length = b.length := by rw [← canon_length a, ← canon_length b, h]
  have key : ∀ i (hi : i < a.length), (0 ≤ a[i] → b[i]'(by omega) = a[i]) ∧ (a[i] < 0 → b[i]'(by omega) < 0 ∧ (seenTo b b.length).getD ((seenTo a a.length).idxOf a[i]) 0 = b[i]'(by omega)) := by
    intro i hi
    have hi' : i < b.length := by omega
    have c1 := cval_all a hi
    have c2 := cval_all b hi'
    rw [h, c2] at c1
    have c3 := Option.some.inj c1
    have hin : ∀ (zs : List Int) (k : Nat) (hk : k < zs.length), zs[k] < 0 → (seenTo zs zs.length).idxOf zs[k] < (seenTo zs zs.length).length := fun zs k hk hn => by
      apply List.idxOf_lt_length_of_mem
      have hm := mem_addSeen (l := seenTo zs k) hn
      obtain ⟨r, hr⟩ := seenTo_ext zs (zs.length - (k + 1)) (k + 1) (by omega)
      rw [show k + 1 + (zs.length - (k + 1)) = zs.length from by omega, seenTo_succ hk] at hr
      rw [hr]
      exact List.mem_append_left _ hm
    unfold cval at c3
    refine ⟨fun hp => ?_, fun hn => ?_⟩
    · rw [if_neg (fun hh : a[i] < 0 ∧ _ => by have := hh.1; omega)] at c3
      split at c3
      · omega
      · exact c3
    · rw [if_pos (show a[i] < 0 ∧ _ from ⟨hn, hin a i hi hn⟩)] at c3
      by_cases hb : b[i] < 0
      · rw [if_pos (show b[i] < 0 ∧ _ from ⟨hb, hin b i hi' hb⟩)] at c3
        refine ⟨hb, ?_⟩
        have e : (seenTo a a.length).idxOf a[i] = (seenTo b b.length).idxOf b[i] := by omega
        rw [e, List.getD_eq_getElem?_getD, List.getElem?_eq_getElem (hin b i hi' hb)]
        simp
      · rw [if_neg (fun hh : b[i] < 0 ∧ _ => hb hh.1)] at c3
        omega
  refine ins_map (f := fun z => if z < 0 then (seenTo b b.length).getD ((seenTo a a.length).idxOf z) 0 else z) va vb (fun z hz hn => ?_) (fun z _ hp => by show (if z < 0 then _ else z) = z; rw [if_neg (by omega)]) ?_
  · show (if z < 0 then (seenTo b b.length).getD ((seenTo a a.length).idxOf z) 0 else z) < 0
    obtain ⟨i, hi, rfl⟩ := List.mem_iff_getElem.1 hz
    obtain ⟨k1, k2⟩ := (key i hi).2 hn
    rw [if_pos hn, k2]
    exact k1
  · apply List.ext_getElem
    · rw [List.length_map, hl]
    · intro i h1 h2
      rw [List.getElem_map]
      have hi : i < a.length := by simpa using h1
      by_cases hn : a[i] < 0
      · rw [if_pos hn]; exact ((key i hi).2 hn).2
      · rw [if_neg hn]; exact ((key i hi).1 (by omega)).symm
theorem ins_alike {ss : Sg} {a b : List Int} : (insB ss a b && insB ss b a) = alikeOk ss a b := by
  cases h : alikeOk ss a b
  · cases h1 : insB ss a b
    · rfl
    · cases h2 : insB ss b a
      · rfl
      · obtain ⟨va, vb⟩ := ins_valid h1
        have vt : termOk ss b = true := by
          have := vb
          simp only [valOk, Bool.and_eq_true] at this
          exact this.2
        rw [alikeOk, va, vt, ins_canon h1 h2] at h
        simp at h
  · simp only [alikeOk, Bool.and_eq_true, decide_eq_true_eq] at h
    obtain ⟨va, vt, hc⟩ := h
    have vb : valOk ss b = true := by simp [valOk, valOk_sig va, vt]
    rw [canon_ins va vb hc, canon_ins vb va hc.symm]
    rfl

end Go.Proofs.Ytodcogngejgpfaa

namespace Go.Proofs.Ytodcogngejgpfaa
open Go.RowKit

/-- The three terms, as they lie in their box. -/
abbrev boxT (w : World) (A0 A1 A2 : Option Addr) (n0 c0 n1 c1 n2 c2 : Nat) : World := (w.alloc (.cells #[.slice A0 n0 c0, .slice A1 n1 c1, .slice A2 n2 c2] 48)).alloc (.cells #[.slice A0 n0 c0, .slice A1 n1 c1, .slice A2 n2 c2] 30)
theorem box_cells {w V : World} {A0 A1 A2 : Option Addr} {n0 c0 n1 c1 n2 c2 : Nat} (h : Below (boxT w A0 A1 A2 n0 c0 n1 c1 n2 c2).heap.size (boxT w A0 A1 A2 n0 c0 n1 c1 n2 c2) V) : V.cell? ⟨w.heap.size, 0, none⟩ = some (.slice A0 n0 c0) ∧ V.cell? ⟨w.heap.size, 1, none⟩ = some (.slice A1 n1 c1) ∧ V.cell? ⟨w.heap.size, 2, none⟩ = some (.slice A2 n2 c2) := by
  have k := ((Blk.new w 48 #[.slice A0 n0 c0, .slice A1 n1 c1, .slice A2 n2 c2]).alloc (.cells #[.slice A0 n0 c0, .slice A1 n1 c1, .slice A2 n2 c2] 30)).below h (by simp [boxT]; omega)
  exact ⟨by simpa using k.cell 0, by simpa using k.cell 1, by simpa using k.cell 2⟩
theorem box_hds (w : World) (A0 A1 A2 : Option Addr) (n0 c0 n1 c1 n2 c2 : Nat) : HdsAt (boxT w A0 A1 A2 n0 c0 n1 c1 n2 c2) (boxT w A0 A1 A2 n0 c0 n1 c1 n2 c2).heap.size (some ⟨w.heap.size + 1, 0, none⟩) 3 [(A0, n0, c0), (A1, n1, c1), (A2, n2, c2)] := by
  have := Blk.new (w.alloc (.cells #[.slice A0 n0 c0, .slice A1 n1 c1, .slice A2 n2 c2] 48)) 30 #[.slice A0 n0 c0, .slice A1 n1 c1, .slice A2 n2 c2]
  rw [World.size_alloc] at this
  exact HdsAt.of_blk _ this rfl rfl (by simp)

set_option maxRecDepth 100000 in
set_option maxHeartbeats 4000000 in
theorem uor_small (As A0 A1 A2 : Option Addr) (ns cs n0 c0 n1 c1 n2 c2 : Nat) (w : World) (hsm : smallOk ns [(A0, n0, c0), (A1, n1, c1), (A2, n2, c2)] = false) :
    Calls Try.prog 8 #[.slice As ns cs, .agg #[.slice A0 n0 c0, .slice A1 n1 c1, .slice A2 n2 c2]] w fun e w' => e = .returned (.bool true) ∧ Below w.heap.size w w' := by
  have hs := box_hds w A0 A1 A2 n0 c0 n1 c1 n2 c2
  obtain ⟨WB, hWB⟩ : ∃ WB, boxT w A0 A1 A2 n0 c0 n1 c1 n2 c2 = WB := ⟨_, rfl⟩
  have hBB : Below w.heap.size w WB := by rw [← hWB]; exact bel_al (bel_al (Below.refl _ _) _) _
  rw [hWB] at hs
  have HS := Lib.hid (small_any As _ ns cs 3 3 _ WB _ hs)
  have HSM := Lib.hid hsm
  have HWB := Lib.hid hWB
  have HBB := Lib.hid hBB
  clear hs hsm hWB hBB
  go_enter Try.func8, Try.ntmps8
  go_wp2_with fail
  rw [show (w.alloc (.cells #[.slice A0 n0 c0, .slice A1 n1 c1, .slice A2 n2 c2] 48)).alloc (.cells #[.slice A0 n0 c0, .slice A1 n1 c1, .slice A2 n2 c2] 30) = WB from HWB.out]
  go_wp2_with (first
    | (go_at_call 15; refine HS.out.mono ?_; rintro e w8 ⟨rfl, rfl⟩; rw [HSM.out])
    | (go_at_call 17; refine (awake2_any _).mono ?_; rintro e w9 ⟨rfl, hB9⟩; have HB9 := Lib.hid (below_then HBB.out hB9)))
  go_ret
  exact ⟨rfl, HB9.out⟩

set_option maxRecDepth 100000 in
set_option maxHeartbeats 8000000 in
theorem uor_ok (As A0 A1 A2 : Option Addr) (ns cs n0 c0 n1 c1 n2 c2 : Nat) (ss : Sg) (za zb zc : List Int) (w : World) (hs : SigAt w w.heap.size As ns ss) (h0 : IntsAt w w.heap.size A0 n0 za ∧ n0 ≤ c0 ∧ c0 ≤ 9223372036854775807) (h1 : IntsAt w w.heap.size A1 n1 zb ∧ n1 ≤ c1 ∧ c1 ≤ 9223372036854775807) (h2 : IntsAt w w.heap.size A2 n2 zc ∧ n2 ≤ c2 ∧ c2 ≤ 9223372036854775807) (hsm : smallOk ns [(A0, n0, c0), (A1, n1, c1), (A2, n2, c2)] = true) :
    Calls Try.prog 8 #[.slice As ns cs, .agg #[.slice A0 n0 c0, .slice A1 n1 c1, .slice A2 n2 c2]] w fun e w' => e = .returned (.bool true) ∧ Below w.heap.size w w' := by
  have hhds := box_hds w A0 A1 A2 n0 c0 n1 c1 n2 c2
  have hcells := fun V => box_cells (V := V) (w := w) (A0 := A0) (A1 := A1) (A2 := A2) (n0 := n0) (c0 := c0) (n1 := n1) (c1 := c1) (n2 := n2) (c2 := c2)
  have hBB : Below w.heap.size w (boxT w A0 A1 A2 n0 c0 n1 c1 n2 c2) := bel_al (bel_al (Below.refl _ _) _) _
  have hWB' : boxT w A0 A1 A2 n0 c0 n1 c1 n2 c2 = (w.alloc (.cells #[.slice A0 n0 c0, .slice A1 n1 c1, .slice A2 n2 c2] 48)).alloc (.cells #[.slice A0 n0 c0, .slice A1 n1 c1, .slice A2 n2 c2] 30) := rfl
  obtain ⟨WB, hWB⟩ : ∃ WB, boxT w A0 A1 A2 n0 c0 n1 c1 n2 c2 = WB := ⟨_, rfl⟩
  rw [hWB] at hhds hBB
  simp only [hWB] at hcells
  obtain ⟨b0, b1, b2⟩ := hcells WB (Below.refl _ _)
  have HCL := Lib.hid hcells
  have HS := Lib.hid (small_any As _ ns cs 3 3 _ WB _ hhds)
  have HSM := Lib.hid hsm
  have HWB := Lib.hid hWB
  have HBB := Lib.hid hBB
  have CAB := Lib.hid (fun V (h : Below WB.heap.size WB V) => instance_any As A0 A1 ns cs n0 c0 n1 c1 ss za zb V (hs.up (below_then hBB h)) (h0.1.up (below_then hBB h)) (h1.1.up (below_then hBB h)) h1.2.1 h1.2.2)
  have CBC := Lib.hid (fun V (h : Below WB.heap.size WB V) => instance_any As A1 A2 ns cs n1 c1 n2 c2 ss zb zc V (hs.up (below_then hBB h)) (h1.1.up (below_then hBB h)) (h2.1.up (below_then hBB h)) h2.2.1 h2.2.2)
  have CAC := Lib.hid (fun V (h : Below WB.heap.size WB V) => instance_any As A0 A2 ns cs n0 c0 n2 c2 ss za zc V (hs.up (below_then hBB h)) (h0.1.up (below_then hBB h)) (h2.1.up (below_then hBB h)) h2.2.1 h2.2.2)
  have CBA := Lib.hid (fun V (h : Below WB.heap.size WB V) => instance_any As A1 A0 ns cs n1 c1 n0 c0 ss zb za V (hs.up (below_then hBB h)) (h1.1.up (below_then hBB h)) (h0.1.up (below_then hBB h)) h0.2.1 h0.2.2)
  have CAA := Lib.hid (fun V (h : Below WB.heap.size WB V) => instance_any As A0 A0 ns cs n0 c0 n0 c0 ss za za V (hs.up (below_then hBB h)) (h0.1.up (below_then hBB h)) (h0.1.up (below_then hBB h)) h0.2.1 h0.2.2)
  have CV := Lib.hid (fun V (h : Below WB.heap.size WB V) => (valid_any As A0 ns cs n0 c0 ss za V (hs.up (below_then hBB h)) (h0.1.up (below_then hBB h))))
  have CAL := Lib.hid (fun V (h : Below WB.heap.size WB V) => (alike_any As A0 A1 ns cs n0 c0 n1 c1 ss za zb V (hs.up (below_then hBB h)) (h0.1.up (below_then hBB h)) (h1.1.up (below_then hBB h))))
  have htr := ins_trans (ss := ss) (a := za) (b := zb) (c := zc)
  simp only [ins_refl] at CAA
  simp only [← ins_alike] at CAL
  obtain ⟨ab, hab⟩ : ∃ q, insB ss za zb = q := ⟨_, rfl⟩
  obtain ⟨bc, hbc⟩ : ∃ q, insB ss zb zc = q := ⟨_, rfl⟩
  obtain ⟨ac, hac⟩ : ∃ q, insB ss za zc = q := ⟨_, rfl⟩
  obtain ⟨ba, hba⟩ : ∃ q, insB ss zb za = q := ⟨_, rfl⟩
  obtain ⟨va, hva⟩ : ∃ q, valOk ss za = q := ⟨_, rfl⟩
  simp only [hab, hba] at CAL
  simp only [hab] at CAB
  simp only [hbc] at CBC
  simp only [hac] at CAC
  simp only [hba] at CBA
  simp only [hva] at CAA CV
  rw [hab, hbc, hac] at htr
  have HTR := Lib.hid htr
  clear hhds hcells hBB hWB' hWB hs h0 h1 h2 hsm hab hbc hac hba hva htr
  go_enter Try.func8, Try.ntmps8
  go_wp2_with fail
  rw [show (w.alloc (.cells #[.slice A0 n0 c0, .slice A1 n1 c1, .slice A2 n2 c2] 48)).alloc (.cells #[.slice A0 n0 c0, .slice A1 n1 c1, .slice A2 n2 c2] 30) = WB from HWB.out]
  go_upto_region 3 with (go_at_call 15; refine HS.out.mono ?_; rintro e w8 ⟨rfl, rfl⟩; rw [HSM.out])
  go_cut [5, 6, 7, 8] from 5 to 43 (fun s5 s6 s7 s8 wx => s5 = .bool ab ∧ s6 = .bool bc ∧ s7 = .bool ac ∧ s8 = .bool ba ∧ Below WB.heap.size WB wx)
  case first =>
    go_region_held3 (fun w' => w'.cell? ⟨w.heap.size, 0, none⟩ = some (.slice A0 n0 c0) ∧ w'.cell? ⟨w.heap.size, 1, none⟩ = some (.slice A1 n1 c1) ∧ w'.cell? ⟨w.heap.size, 2, none⟩ = some (.slice A2 n2 c2))
      (first | exact HCL.out _ hBAB | exact HCL.out _ hBBC | exact HCL.out _ hBAC | exact HCL.out _ hBBA | exact ⟨b0, b1, b2⟩ | go_keep)
      (first
        | (go_at_call 34; ((with_reducible refine (CAB.out _ (by first | exact hBBC | exact hBAC | exact hBBA | exact (Below.refl _ _).drew)).mono ?_); rintro e VAB ⟨rfl, hB⟩); have hBAB : Below WB.heap.size WB VAB := below_then (by first | exact hBBC | exact hBAC | exact hBBA | exact (Below.refl _ _).drew) hB; clear hB)
        | (go_at_call 34; ((with_reducible refine (CBC.out _ (by first | exact hBAB | exact hBAC | exact hBBA | exact (Below.refl _ _).drew)).mono ?_); rintro e VBC ⟨rfl, hB⟩); have hBBC : Below WB.heap.size WB VBC := below_then (by first | exact hBAB | exact hBAC | exact hBBA | exact (Below.refl _ _).drew) hB; clear hB)
        | (go_at_call 34; ((with_reducible refine (CAC.out _ (by first | exact hBAB | exact hBBC | exact hBBA | exact (Below.refl _ _).drew)).mono ?_); rintro e VAC ⟨rfl, hB⟩); have hBAC : Below WB.heap.size WB VAC := below_then (by first | exact hBAB | exact hBBC | exact hBBA | exact (Below.refl _ _).drew) hB; clear hB)
        | (go_at_call 34; ((with_reducible refine (CBA.out _ (by first | exact hBAB | exact hBBC | exact hBAC | exact (Below.refl _ _).drew)).mono ?_); rintro e VBA ⟨rfl, hB⟩); have hBBA : Below WB.heap.size WB VBA := below_then (by first | exact hBAB | exact hBBC | exact hBAC | exact (Below.refl _ _).drew) hB; clear hB))
    all_goals
      go_wp2_with fail
      go_meet
      first | exact ⟨rfl, rfl, rfl, rfl, hBAB⟩ | exact ⟨rfl, rfl, rfl, rfl, hBBC⟩ | exact ⟨rfl, rfl, rfl, rfl, hBAC⟩ | exact ⟨rfl, rfl, rfl, rfl, hBBA⟩
  case rest =>
    obtain ⟨rfl, rfl, rfl, rfl, hB1⟩ := hcut
    obtain ⟨w1, hw1⟩ : ∃ w1, w1 = wc := ⟨_, rfl⟩
    subst hw1
    obtain ⟨d0, d1, d2⟩ := HCL.out w1 hB1
    have hvv : (va == va) = true := by simp
    clear b0 b1 b2 CAB CBC CAC CBA
    cases ab with
    | false =>
      simp only [Bool.false_and] at CAL
      clear HTR
      go_wp2_with fail
      refine wp_region_held_drew (S := (fun w' => w'.cell? ⟨w.heap.size, 0, none⟩ = some (.slice A0 n0 c0) ∧ w'.cell? ⟨w.heap.size, 1, none⟩ = some (.slice A1 n1 c1) ∧ w'.cell? ⟨w.heap.size, 2, none⟩ = some (.slice A2 n2 c2))) (by kernel_rfl) ?_ (fun hHeld => ?_)
      · first | exact HCL.out _ hB5 | exact HCL.out _ hBAL | exact HCL.out _ hBV | exact HCL.out _ hBAA | exact ⟨d0, d1, d2⟩ | go_keep
      refine wpAnyH_take (i := 0) (v := ?_) rfl (by kernel_rfl) (by kernel_rfl) (by kernel_rfl) (fun _ _ _ h => h) (Or.inl ⟨by rfl, ?_⟩) (by assumption) ?_
      rotate_left
      · intro w hSw; (try dsimp only at hSw); go_simp <;> with_reducible rfl
      try simp only [List.getElem_toArray, List.getElem_cons_succ, List.getElem_cons_zero, Act.put, List.setIfInBounds_toArray, List.set_cons_zero, List.set_cons_succ]
      refine wpAnyH_take (i := 1) (v := ?_) rfl (by kernel_rfl) (by kernel_rfl) (by kernel_rfl) (fun _ _ _ h => h) (Or.inl ⟨by rfl, ?_⟩) (by assumption) ?_
      rotate_left
      · intro w hSw; (try dsimp only at hSw); go_simp <;> with_reducible rfl
      try simp only [List.getElem_toArray, List.getElem_cons_succ, List.getElem_cons_zero, Act.put, List.setIfInBounds_toArray, List.set_cons_zero, List.set_cons_succ]
      refine wpAnyH_take (i := 2) (v := ?_) rfl (by kernel_rfl) (by kernel_rfl) (by kernel_rfl) (fun _ _ _ h => h) (Or.inl ⟨by rfl, ?_⟩) (by assumption) ?_
      rotate_left
      · intro w hSw; (try dsimp only at hSw); go_simp <;> with_reducible rfl
      try simp only [List.getElem_toArray, List.getElem_cons_succ, List.getElem_cons_zero, Act.put, List.setIfInBounds_toArray, List.set_cons_zero, List.set_cons_succ]
      refine wpAnyH_take (i := 3) (v := ?_) rfl (by kernel_rfl) (by kernel_rfl) (by kernel_rfl) (fun _ _ _ h => h) (Or.inl ⟨by rfl, ?_⟩) (by assumption) ?_
      rotate_left
      · intro w hSw; (try dsimp only at hSw); go_simp <;> with_reducible rfl
      try simp only [List.getElem_toArray, List.getElem_cons_succ, List.getElem_cons_zero, Act.put, List.setIfInBounds_toArray, List.set_cons_zero, List.set_cons_succ]
      refine wpAnyH_take (i := 4) (v := ?_) rfl (by kernel_rfl) (by kernel_rfl) (by kernel_rfl) (fun _ _ _ h => h) (Or.inl ⟨by rfl, ?_⟩) (by assumption) ?_
      rotate_left
      · intro w hSw; (try dsimp only at hSw); go_simp <;> with_reducible rfl
      try simp only [List.getElem_toArray, List.getElem_cons_succ, List.getElem_cons_zero, Act.put, List.setIfInBounds_toArray, List.set_cons_zero, List.set_cons_succ]
      refine wpAnyH_take (i := 6) (v := ?_) rfl (by kernel_rfl) (by kernel_rfl) (by kernel_rfl) (fun _ _ _ h => h) (Or.inl ⟨by rfl, ?_⟩) (by assumption) ?_
      rotate_left
      · intro w hSw; (try dsimp only at hSw); go_simp <;> with_reducible rfl
      try simp only [List.getElem_toArray, List.getElem_cons_succ, List.getElem_cons_zero, Act.put, List.setIfInBounds_toArray, List.set_cons_zero, List.set_cons_succ]
      refine wpAnyH_take (i := 7) (v := ?_) rfl (by kernel_rfl) (by kernel_rfl) (by kernel_rfl) (fun _ _ _ h => h) (Or.inl ⟨by rfl, ?_⟩) (by assumption) ?_
      rotate_left
      · intro w hSw; (try dsimp only at hSw); go_simp <;> with_reducible rfl
      try simp only [List.getElem_toArray, List.getElem_cons_succ, List.getElem_cons_zero, Act.put, List.setIfInBounds_toArray, List.set_cons_zero, List.set_cons_succ]
      refine wpAnyH_take (i := 8) (v := ?_) rfl (by kernel_rfl) (by kernel_rfl) (by kernel_rfl) (fun _ _ _ h => h) (Or.inl ⟨by rfl, ?_⟩) (by assumption) ?_
      rotate_left
      · intro w hSw; (try dsimp only at hSw); go_simp <;> with_reducible rfl
      try simp only [List.getElem_toArray, List.getElem_cons_succ, List.getElem_cons_zero, Act.put, List.setIfInBounds_toArray, List.set_cons_zero, List.set_cons_succ]
      refine wpAnyH_ready (rs := [5]) (by kernel_rfl) (by simp) (AllReadyH.cons rfl (fun K hK => ?_) AllReadyH.nil)
      go_simp
      (go_at_call 34; ((with_reducible refine (CAA.out _ hB1.drew).mono ?_); rintro e VAA ⟨rfl, hB⟩); have hBAA : Below WB.heap.size WB VAA := below_then hB1.drew hB; clear hB)
      try go_wp2_with fail
      refine hK.out _ _ ?_ (fun hHeld => ?_)
      · first | exact HCL.out _ hB5 | exact HCL.out _ hBAL | exact HCL.out _ hBV | exact HCL.out _ hBAA | exact ⟨d0, d1, d2⟩ | go_keep
      clear hK K
      try simp only [List.getElem_toArray, List.getElem_cons_succ, List.getElem_cons_zero, Act.put, List.setIfInBounds_toArray, List.set_cons_zero, List.set_cons_succ]
      refine wpAnyH_ready (rs := [9]) (by kernel_rfl) (by simp) (AllReadyH.cons rfl (fun K hK => ?_) AllReadyH.nil)
      go_simp
      (go_at_call 36; ((with_reducible refine (CV.out _ hBAA).mono ?_); rintro e VV ⟨rfl, hB⟩); have hBV : Below WB.heap.size WB VV := below_then hBAA hB; clear hB)
      try go_wp2_with fail
      refine hK.out _ _ ?_ (fun hHeld => ?_)
      · first | exact HCL.out _ hB5 | exact HCL.out _ hBAL | exact HCL.out _ hBV | exact HCL.out _ hBAA | exact ⟨d0, d1, d2⟩ | go_keep
      clear hK K
      try simp only [List.getElem_toArray, List.getElem_cons_succ, List.getElem_cons_zero, Act.put, List.setIfInBounds_toArray, List.set_cons_zero, List.set_cons_succ]
      refine wpAnyH_take (i := 10) (v := ?_) rfl (by kernel_rfl) (by kernel_rfl) (by kernel_rfl) (fun _ _ _ h => h) (Or.inl ⟨by rfl, ?_⟩) (by assumption) ?_
      rotate_left
      · intro w hSw; (try dsimp only at hSw); go_simp <;> with_reducible rfl
      try simp only [List.getElem_toArray, List.getElem_cons_succ, List.getElem_cons_zero, Act.put, List.setIfInBounds_toArray, List.set_cons_zero, List.set_cons_succ]
      refine wpAnyH_take (i := 11) (v := ?_) rfl (by kernel_rfl) (by kernel_rfl) (by kernel_rfl) (fun _ _ _ h => h) (Or.inl ⟨by rfl, ?_⟩) (by assumption) ?_
      rotate_left
      · intro w hSw; (try dsimp only at hSw); go_simp <;> with_reducible rfl
      try simp only [List.getElem_toArray, List.getElem_cons_succ, List.getElem_cons_zero, Act.put, List.setIfInBounds_toArray, List.set_cons_zero, List.set_cons_succ]
      refine wpAnyH_take (i := 12) (v := ?_) rfl (by kernel_rfl) (by kernel_rfl) (by kernel_rfl) (fun _ _ _ h => h) (Or.inl ⟨by rfl, ?_⟩) (by assumption) ?_
      rotate_left
      · intro w hSw; (try dsimp only at hSw); go_simp <;> with_reducible rfl
      try simp only [List.getElem_toArray, List.getElem_cons_succ, List.getElem_cons_zero, Act.put, List.setIfInBounds_toArray, List.set_cons_zero, List.set_cons_succ]
      refine wpAnyH_take (i := 13) (v := ?_) rfl (by kernel_rfl) (by kernel_rfl) (by kernel_rfl) (fun _ _ _ h => h) (Or.inl ⟨by rfl, ?_⟩) (by assumption) ?_
      rotate_left
      · intro w hSw; (try dsimp only at hSw); go_simp <;> with_reducible rfl
      try simp only [List.getElem_toArray, List.getElem_cons_succ, List.getElem_cons_zero, Act.put, List.setIfInBounds_toArray, List.set_cons_zero, List.set_cons_succ]
      refine wpAnyH_take (i := 14) rfl (by kernel_rfl) (by kernel_rfl) (by kernel_rfl) (fun _ _ _ h => h) (Or.inr ⟨by rfl, rfl⟩) (by assumption) ?_
      simp only [List.getElem_toArray, List.getElem_cons_succ, List.getElem_cons_zero, Act.put, List.setIfInBounds_toArray, List.set_cons_zero, List.set_cons_succ]
      refine wpAnyH_take (i := 15) (v := ?_) rfl (by kernel_rfl) (by kernel_rfl) (by kernel_rfl) (fun _ _ _ h => h) (Or.inl ⟨by rfl, ?_⟩) (by assumption) ?_
      rotate_left
      · intro w hSw; (try dsimp only at hSw); go_simp <;> with_reducible rfl
      try simp only [List.getElem_toArray, List.getElem_cons_succ, List.getElem_cons_zero, Act.put, List.setIfInBounds_toArray, List.set_cons_zero, List.set_cons_succ]
      refine wpAnyH_take (i := 16) (v := ?_) rfl (by kernel_rfl) (by kernel_rfl) (by kernel_rfl) (fun _ _ _ h => h) (Or.inl ⟨by rfl, ?_⟩) (by assumption) ?_
      rotate_left
      · intro w hSw; (try dsimp only at hSw); go_simp <;> with_reducible rfl
      try simp only [List.getElem_toArray, List.getElem_cons_succ, List.getElem_cons_zero, Act.put, List.setIfInBounds_toArray, List.set_cons_zero, List.set_cons_succ]
      refine wpAnyH_take (i := 17) (v := ?_) rfl (by kernel_rfl) (by kernel_rfl) (by kernel_rfl) (fun _ _ _ h => h) (Or.inl ⟨by rfl, ?_⟩) (by assumption) ?_
      rotate_left
      · intro w hSw; (try dsimp only at hSw); go_simp <;> with_reducible rfl
      try simp only [List.getElem_toArray, List.getElem_cons_succ, List.getElem_cons_zero, Act.put, List.setIfInBounds_toArray, List.set_cons_zero, List.set_cons_succ]
      refine wpAnyH_take (i := 18) (v := ?_) rfl (by kernel_rfl) (by kernel_rfl) (by kernel_rfl) (fun _ _ _ h => h) (Or.inl ⟨by rfl, ?_⟩) (by assumption) ?_
      rotate_left
      · intro w hSw; (try dsimp only at hSw); go_simp <;> with_reducible rfl
      try simp only [List.getElem_toArray, List.getElem_cons_succ, List.getElem_cons_zero, Act.put, List.setIfInBounds_toArray, List.set_cons_zero, List.set_cons_succ]
      refine wpAnyH_take (i := 19) (v := ?_) rfl (by kernel_rfl) (by kernel_rfl) (by kernel_rfl) (fun _ _ _ h => h) (Or.inl ⟨by rfl, ?_⟩) (by assumption) ?_
      rotate_left
      · intro w hSw; (try dsimp only at hSw); go_simp <;> with_reducible rfl
      try simp only [List.getElem_toArray, List.getElem_cons_succ, List.getElem_cons_zero, Act.put, List.setIfInBounds_toArray, List.set_cons_zero, List.set_cons_succ]
      refine wpAnyH_take (i := 20) (v := ?_) rfl (by kernel_rfl) (by kernel_rfl) (by kernel_rfl) (fun _ _ _ h => h) (Or.inl ⟨by rfl, ?_⟩) (by assumption) ?_
      rotate_left
      · intro w hSw; (try dsimp only at hSw); go_simp <;> with_reducible rfl
      try simp only [List.getElem_toArray, List.getElem_cons_succ, List.getElem_cons_zero, Act.put, List.setIfInBounds_toArray, List.set_cons_zero, List.set_cons_succ]
      refine wpAnyH_ready (rs := [21]) (by kernel_rfl) (by simp) (AllReadyH.cons rfl (fun K hK => ?_) AllReadyH.nil)
      go_simp
      (go_at_call 37; ((with_reducible refine (CAL.out _ hBV).mono ?_); rintro e VAL ⟨rfl, hB⟩); have hBAL : Below WB.heap.size WB VAL := below_then hBV hB; clear hB)
      try go_wp2_with fail
      refine hK.out _ _ ?_ (fun hHeld => ?_)
      · first | exact HCL.out _ hB5 | exact HCL.out _ hBAL | exact HCL.out _ hBV | exact HCL.out _ hBAA | exact ⟨d0, d1, d2⟩ | go_keep
      clear hK K
      try simp only [List.getElem_toArray, List.getElem_cons_succ, List.getElem_cons_zero, Act.put, List.setIfInBounds_toArray, List.set_cons_zero, List.set_cons_succ]
      refine wpAnyH_take (i := 22) (v := ?_) rfl (by kernel_rfl) (by kernel_rfl) (by kernel_rfl) (fun _ _ _ h => h) (Or.inl ⟨by rfl, ?_⟩) (by assumption) ?_
      rotate_left
      · intro w hSw; (try dsimp only at hSw); go_simp <;> with_reducible rfl
      try simp only [List.getElem_toArray, List.getElem_cons_succ, List.getElem_cons_zero, Act.put, List.setIfInBounds_toArray, List.set_cons_zero, List.set_cons_succ]
      refine wpAnyH_take (i := 23) (v := ?_) rfl (by kernel_rfl) (by kernel_rfl) (by kernel_rfl) (fun _ _ _ h => h) (Or.inl ⟨by rfl, ?_⟩) (by assumption) ?_
      rotate_left
      · intro w hSw; (try dsimp only at hSw); go_simp <;> with_reducible rfl
      try simp only [List.getElem_toArray, List.getElem_cons_succ, List.getElem_cons_zero, Act.put, List.setIfInBounds_toArray, List.set_cons_zero, List.set_cons_succ]
      refine wpAnyH_take (i := 24) (v := ?_) rfl (by kernel_rfl) (by kernel_rfl) (by kernel_rfl) (fun _ _ _ h => h) (Or.inl ⟨by rfl, ?_⟩) (by assumption) ?_
      rotate_left
      · intro w hSw; (try dsimp only at hSw); go_simp <;> with_reducible rfl
      try simp only [List.getElem_toArray, List.getElem_cons_succ, List.getElem_cons_zero, Act.put, List.setIfInBounds_toArray, List.set_cons_zero, List.set_cons_succ]
      refine wpAnyH_ready (rs := [25]) (by kernel_rfl) (by simp) (AllReadyH.cons rfl (fun K hK => ?_) AllReadyH.nil)
      go_simp
      (go_at_call 17; refine (awake2_any _).mono ?_; rintro e V5 ⟨rfl, hB⟩; have hB5 : Below WB.heap.size WB V5 := below_then hBAL hB; clear hB)
      try go_wp2_with fail
      refine hK.out _ _ ?_ (fun hHeld => ?_)
      · first | exact HCL.out _ hB5 | exact HCL.out _ hBAL | exact HCL.out _ hBV | exact HCL.out _ hBAA | exact ⟨d0, d1, d2⟩ | go_keep
      clear hK K
      try simp only [List.getElem_toArray, List.getElem_cons_succ, List.getElem_cons_zero, Act.put, List.setIfInBounds_toArray, List.set_cons_zero, List.set_cons_succ]
      refine wpAnyH_take (i := 26) (v := ?_) rfl (by kernel_rfl) (by kernel_rfl) (by kernel_rfl) (fun _ _ _ h => h) (Or.inl ⟨by rfl, ?_⟩) (by assumption) ?_
      rotate_left
      · intro w hSw; (try dsimp only at hSw); go_simp <;> with_reducible rfl
      try simp only [List.getElem_toArray, List.getElem_cons_succ, List.getElem_cons_zero, Act.put, List.setIfInBounds_toArray, List.set_cons_zero, List.set_cons_succ]
      refine wpAnyH_take (i := 27) (v := ?_) rfl (by kernel_rfl) (by kernel_rfl) (by kernel_rfl) (fun _ _ _ h => h) (Or.inl ⟨by rfl, ?_⟩) (by assumption) ?_
      rotate_left
      · intro w hSw; (try dsimp only at hSw); go_simp <;> with_reducible rfl
      try simp only [List.getElem_toArray, List.getElem_cons_succ, List.getElem_cons_zero, Act.put, List.setIfInBounds_toArray, List.set_cons_zero, List.set_cons_succ]
      refine wpAnyH_done (by kernel_rfl) ?_ _
      go_wp2_with fail
      go_ret
      exact ⟨rfl, below_then HBB.out hB5⟩
    | true =>
      simp only [Bool.true_and] at CAL
      have hbb : (ba == ba) = true := by simp
      cases bc with
      | false =>
        clear HTR
        go_wp2_with fail
        refine wp_region_held_drew (S := (fun w' => w'.cell? ⟨w.heap.size, 0, none⟩ = some (.slice A0 n0 c0) ∧ w'.cell? ⟨w.heap.size, 1, none⟩ = some (.slice A1 n1 c1) ∧ w'.cell? ⟨w.heap.size, 2, none⟩ = some (.slice A2 n2 c2))) (by kernel_rfl) ?_ (fun hHeld => ?_)
        · first | exact HCL.out _ hB5 | exact HCL.out _ hBAL | exact HCL.out _ hBV | exact HCL.out _ hBAA | exact ⟨d0, d1, d2⟩ | go_keep
        refine wpAnyH_take (i := 0) (v := ?_) rfl (by kernel_rfl) (by kernel_rfl) (by kernel_rfl) (fun _ _ _ h => h) (Or.inl ⟨by rfl, ?_⟩) (by assumption) ?_
        rotate_left
        · intro w hSw; (try dsimp only at hSw); go_simp <;> with_reducible rfl
        try simp only [List.getElem_toArray, List.getElem_cons_succ, List.getElem_cons_zero, Act.put, List.setIfInBounds_toArray, List.set_cons_zero, List.set_cons_succ]
        refine wpAnyH_take (i := 1) (v := ?_) rfl (by kernel_rfl) (by kernel_rfl) (by kernel_rfl) (fun _ _ _ h => h) (Or.inl ⟨by rfl, ?_⟩) (by assumption) ?_
        rotate_left
        · intro w hSw; (try dsimp only at hSw); go_simp <;> with_reducible rfl
        try simp only [List.getElem_toArray, List.getElem_cons_succ, List.getElem_cons_zero, Act.put, List.setIfInBounds_toArray, List.set_cons_zero, List.set_cons_succ]
        refine wpAnyH_take (i := 2) (v := ?_) rfl (by kernel_rfl) (by kernel_rfl) (by kernel_rfl) (fun _ _ _ h => h) (Or.inl ⟨by rfl, ?_⟩) (by assumption) ?_
        rotate_left
        · intro w hSw; (try dsimp only at hSw); go_simp <;> with_reducible rfl
        try simp only [List.getElem_toArray, List.getElem_cons_succ, List.getElem_cons_zero, Act.put, List.setIfInBounds_toArray, List.set_cons_zero, List.set_cons_succ]
        refine wpAnyH_take (i := 3) (v := ?_) rfl (by kernel_rfl) (by kernel_rfl) (by kernel_rfl) (fun _ _ _ h => h) (Or.inl ⟨by rfl, ?_⟩) (by assumption) ?_
        rotate_left
        · intro w hSw; (try dsimp only at hSw); go_simp <;> with_reducible rfl
        try simp only [List.getElem_toArray, List.getElem_cons_succ, List.getElem_cons_zero, Act.put, List.setIfInBounds_toArray, List.set_cons_zero, List.set_cons_succ]
        refine wpAnyH_take (i := 4) (v := ?_) rfl (by kernel_rfl) (by kernel_rfl) (by kernel_rfl) (fun _ _ _ h => h) (Or.inl ⟨by rfl, ?_⟩) (by assumption) ?_
        rotate_left
        · intro w hSw; (try dsimp only at hSw); go_simp <;> with_reducible rfl
        try simp only [List.getElem_toArray, List.getElem_cons_succ, List.getElem_cons_zero, Act.put, List.setIfInBounds_toArray, List.set_cons_zero, List.set_cons_succ]
        refine wpAnyH_take (i := 6) (v := ?_) rfl (by kernel_rfl) (by kernel_rfl) (by kernel_rfl) (fun _ _ _ h => h) (Or.inl ⟨by rfl, ?_⟩) (by assumption) ?_
        rotate_left
        · intro w hSw; (try dsimp only at hSw); go_simp <;> with_reducible rfl
        try simp only [List.getElem_toArray, List.getElem_cons_succ, List.getElem_cons_zero, Act.put, List.setIfInBounds_toArray, List.set_cons_zero, List.set_cons_succ]
        refine wpAnyH_take (i := 7) (v := ?_) rfl (by kernel_rfl) (by kernel_rfl) (by kernel_rfl) (fun _ _ _ h => h) (Or.inl ⟨by rfl, ?_⟩) (by assumption) ?_
        rotate_left
        · intro w hSw; (try dsimp only at hSw); go_simp <;> with_reducible rfl
        try simp only [List.getElem_toArray, List.getElem_cons_succ, List.getElem_cons_zero, Act.put, List.setIfInBounds_toArray, List.set_cons_zero, List.set_cons_succ]
        refine wpAnyH_take (i := 8) (v := ?_) rfl (by kernel_rfl) (by kernel_rfl) (by kernel_rfl) (fun _ _ _ h => h) (Or.inl ⟨by rfl, ?_⟩) (by assumption) ?_
        rotate_left
        · intro w hSw; (try dsimp only at hSw); go_simp <;> with_reducible rfl
        try simp only [List.getElem_toArray, List.getElem_cons_succ, List.getElem_cons_zero, Act.put, List.setIfInBounds_toArray, List.set_cons_zero, List.set_cons_succ]
        refine wpAnyH_ready (rs := [5]) (by kernel_rfl) (by simp) (AllReadyH.cons rfl (fun K hK => ?_) AllReadyH.nil)
        go_simp
        (go_at_call 34; ((with_reducible refine (CAA.out _ hB1.drew).mono ?_); rintro e VAA ⟨rfl, hB⟩); have hBAA : Below WB.heap.size WB VAA := below_then hB1.drew hB; clear hB)
        try go_wp2_with fail
        refine hK.out _ _ ?_ (fun hHeld => ?_)
        · first | exact HCL.out _ hB5 | exact HCL.out _ hBAL | exact HCL.out _ hBV | exact HCL.out _ hBAA | exact ⟨d0, d1, d2⟩ | go_keep
        clear hK K
        try simp only [List.getElem_toArray, List.getElem_cons_succ, List.getElem_cons_zero, Act.put, List.setIfInBounds_toArray, List.set_cons_zero, List.set_cons_succ]
        refine wpAnyH_ready (rs := [9]) (by kernel_rfl) (by simp) (AllReadyH.cons rfl (fun K hK => ?_) AllReadyH.nil)
        go_simp
        (go_at_call 36; ((with_reducible refine (CV.out _ hBAA).mono ?_); rintro e VV ⟨rfl, hB⟩); have hBV : Below WB.heap.size WB VV := below_then hBAA hB; clear hB)
        try go_wp2_with fail
        refine hK.out _ _ ?_ (fun hHeld => ?_)
        · first | exact HCL.out _ hB5 | exact HCL.out _ hBAL | exact HCL.out _ hBV | exact HCL.out _ hBAA | exact ⟨d0, d1, d2⟩ | go_keep
        clear hK K
        try simp only [List.getElem_toArray, List.getElem_cons_succ, List.getElem_cons_zero, Act.put, List.setIfInBounds_toArray, List.set_cons_zero, List.set_cons_succ]
        refine wpAnyH_take (i := 10) (v := ?_) rfl (by kernel_rfl) (by kernel_rfl) (by kernel_rfl) (fun _ _ _ h => h) (Or.inl ⟨by rfl, ?_⟩) (by assumption) ?_
        rotate_left
        · intro w hSw; (try dsimp only at hSw); go_simp <;> with_reducible rfl
        try simp only [List.getElem_toArray, List.getElem_cons_succ, List.getElem_cons_zero, Act.put, List.setIfInBounds_toArray, List.set_cons_zero, List.set_cons_succ]
        refine wpAnyH_take (i := 11) (v := ?_) rfl (by kernel_rfl) (by kernel_rfl) (by kernel_rfl) (fun _ _ _ h => h) (Or.inl ⟨by rfl, ?_⟩) (by assumption) ?_
        rotate_left
        · intro w hSw; (try dsimp only at hSw); go_simp <;> with_reducible rfl
        try simp only [List.getElem_toArray, List.getElem_cons_succ, List.getElem_cons_zero, Act.put, List.setIfInBounds_toArray, List.set_cons_zero, List.set_cons_succ]
        refine wpAnyH_take (i := 12) (v := ?_) rfl (by kernel_rfl) (by kernel_rfl) (by kernel_rfl) (fun _ _ _ h => h) (Or.inl ⟨by rfl, ?_⟩) (by assumption) ?_
        rotate_left
        · intro w hSw; (try dsimp only at hSw); go_simp <;> with_reducible rfl
        try simp only [List.getElem_toArray, List.getElem_cons_succ, List.getElem_cons_zero, Act.put, List.setIfInBounds_toArray, List.set_cons_zero, List.set_cons_succ]
        refine wpAnyH_take (i := 13) (v := ?_) rfl (by kernel_rfl) (by kernel_rfl) (by kernel_rfl) (fun _ _ _ h => h) (Or.inl ⟨by rfl, ?_⟩) (by assumption) ?_
        rotate_left
        · intro w hSw; (try dsimp only at hSw); go_simp <;> with_reducible rfl
        try simp only [List.getElem_toArray, List.getElem_cons_succ, List.getElem_cons_zero, Act.put, List.setIfInBounds_toArray, List.set_cons_zero, List.set_cons_succ]
        refine wpAnyH_take (i := 14) (v := ?_) rfl (by kernel_rfl) (by kernel_rfl) (by kernel_rfl) (fun _ _ _ h => h) (Or.inl ⟨by rfl, ?_⟩) (by assumption) ?_
        rotate_left
        · intro w hSw; (try dsimp only at hSw); go_simp <;> with_reducible rfl
        try simp only [List.getElem_toArray, List.getElem_cons_succ, List.getElem_cons_zero, Act.put, List.setIfInBounds_toArray, List.set_cons_zero, List.set_cons_succ]
        refine wpAnyH_take (i := 15) (v := ?_) rfl (by kernel_rfl) (by kernel_rfl) (by kernel_rfl) (fun _ _ _ h => h) (Or.inl ⟨by rfl, ?_⟩) (by assumption) ?_
        rotate_left
        · intro w hSw; (try dsimp only at hSw); go_simp <;> with_reducible rfl
        try simp only [List.getElem_toArray, List.getElem_cons_succ, List.getElem_cons_zero, Act.put, List.setIfInBounds_toArray, List.set_cons_zero, List.set_cons_succ]
        refine wpAnyH_take (i := 16) (v := ?_) rfl (by kernel_rfl) (by kernel_rfl) (by kernel_rfl) (fun _ _ _ h => h) (Or.inl ⟨by rfl, ?_⟩) (by assumption) ?_
        rotate_left
        · intro w hSw; (try dsimp only at hSw); go_simp <;> with_reducible rfl
        try simp only [List.getElem_toArray, List.getElem_cons_succ, List.getElem_cons_zero, Act.put, List.setIfInBounds_toArray, List.set_cons_zero, List.set_cons_succ]
        refine wpAnyH_take (i := 17) (v := ?_) rfl (by kernel_rfl) (by kernel_rfl) (by kernel_rfl) (fun _ _ _ h => h) (Or.inl ⟨by rfl, ?_⟩) (by assumption) ?_
        rotate_left
        · intro w hSw; (try dsimp only at hSw); go_simp <;> with_reducible rfl
        try simp only [List.getElem_toArray, List.getElem_cons_succ, List.getElem_cons_zero, Act.put, List.setIfInBounds_toArray, List.set_cons_zero, List.set_cons_succ]
        refine wpAnyH_take (i := 18) (v := ?_) rfl (by kernel_rfl) (by kernel_rfl) (by kernel_rfl) (fun _ _ _ h => h) (Or.inl ⟨by rfl, ?_⟩) (by assumption) ?_
        rotate_left
        · intro w hSw; (try dsimp only at hSw); go_simp <;> with_reducible rfl
        try simp only [List.getElem_toArray, List.getElem_cons_succ, List.getElem_cons_zero, Act.put, List.setIfInBounds_toArray, List.set_cons_zero, List.set_cons_succ]
        refine wpAnyH_take (i := 19) (v := ?_) rfl (by kernel_rfl) (by kernel_rfl) (by kernel_rfl) (fun _ _ _ h => h) (Or.inl ⟨by rfl, ?_⟩) (by assumption) ?_
        rotate_left
        · intro w hSw; (try dsimp only at hSw); go_simp <;> with_reducible rfl
        try simp only [List.getElem_toArray, List.getElem_cons_succ, List.getElem_cons_zero, Act.put, List.setIfInBounds_toArray, List.set_cons_zero, List.set_cons_succ]
        refine wpAnyH_take (i := 20) (v := ?_) rfl (by kernel_rfl) (by kernel_rfl) (by kernel_rfl) (fun _ _ _ h => h) (Or.inl ⟨by rfl, ?_⟩) (by assumption) ?_
        rotate_left
        · intro w hSw; (try dsimp only at hSw); go_simp <;> with_reducible rfl
        try simp only [List.getElem_toArray, List.getElem_cons_succ, List.getElem_cons_zero, Act.put, List.setIfInBounds_toArray, List.set_cons_zero, List.set_cons_succ]
        refine wpAnyH_ready (rs := [21]) (by kernel_rfl) (by simp) (AllReadyH.cons rfl (fun K hK => ?_) AllReadyH.nil)
        go_simp
        (go_at_call 37; ((with_reducible refine (CAL.out _ hBV).mono ?_); rintro e VAL ⟨rfl, hB⟩); have hBAL : Below WB.heap.size WB VAL := below_then hBV hB; clear hB)
        try go_wp2_with fail
        refine hK.out _ _ ?_ (fun hHeld => ?_)
        · first | exact HCL.out _ hB5 | exact HCL.out _ hBAL | exact HCL.out _ hBV | exact HCL.out _ hBAA | exact ⟨d0, d1, d2⟩ | go_keep
        clear hK K
        try simp only [List.getElem_toArray, List.getElem_cons_succ, List.getElem_cons_zero, Act.put, List.setIfInBounds_toArray, List.set_cons_zero, List.set_cons_succ]
        refine wpAnyH_take (i := 22) (v := ?_) rfl (by kernel_rfl) (by kernel_rfl) (by kernel_rfl) (fun _ _ _ h => h) (Or.inl ⟨by rfl, ?_⟩) (by assumption) ?_
        rotate_left
        · intro w hSw; (try dsimp only at hSw); go_simp <;> with_reducible rfl
        try simp only [List.getElem_toArray, List.getElem_cons_succ, List.getElem_cons_zero, Act.put, List.setIfInBounds_toArray, List.set_cons_zero, List.set_cons_succ]
        refine wpAnyH_take (i := 23) (v := ?_) rfl (by kernel_rfl) (by kernel_rfl) (by kernel_rfl) (fun _ _ _ h => h) (Or.inl ⟨by rfl, ?_⟩) (by assumption) ?_
        rotate_left
        · intro w hSw; (try dsimp only at hSw); go_simp <;> with_reducible rfl
        try simp only [List.getElem_toArray, List.getElem_cons_succ, List.getElem_cons_zero, Act.put, List.setIfInBounds_toArray, List.set_cons_zero, List.set_cons_succ]
        refine wpAnyH_take (i := 24) (v := ?_) rfl (by kernel_rfl) (by kernel_rfl) (by kernel_rfl) (fun _ _ _ h => h) (Or.inl ⟨by rfl, ?_⟩) (by assumption) ?_
        rotate_left
        · intro w hSw; (try dsimp only at hSw); go_simp <;> with_reducible rfl
        try simp only [List.getElem_toArray, List.getElem_cons_succ, List.getElem_cons_zero, Act.put, List.setIfInBounds_toArray, List.set_cons_zero, List.set_cons_succ]
        refine wpAnyH_ready (rs := [25]) (by kernel_rfl) (by simp) (AllReadyH.cons rfl (fun K hK => ?_) AllReadyH.nil)
        go_simp
        (go_at_call 17; refine (awake2_any _).mono ?_; rintro e V5 ⟨rfl, hB⟩; have hB5 : Below WB.heap.size WB V5 := below_then hBAL hB; clear hB)
        try go_wp2_with fail
        refine hK.out _ _ ?_ (fun hHeld => ?_)
        · first | exact HCL.out _ hB5 | exact HCL.out _ hBAL | exact HCL.out _ hBV | exact HCL.out _ hBAA | exact ⟨d0, d1, d2⟩ | go_keep
        clear hK K
        try simp only [List.getElem_toArray, List.getElem_cons_succ, List.getElem_cons_zero, Act.put, List.setIfInBounds_toArray, List.set_cons_zero, List.set_cons_succ]
        refine wpAnyH_take (i := 26) (v := ?_) rfl (by kernel_rfl) (by kernel_rfl) (by kernel_rfl) (fun _ _ _ h => h) (Or.inl ⟨by rfl, ?_⟩) (by assumption) ?_
        rotate_left
        · intro w hSw; (try dsimp only at hSw); go_simp <;> with_reducible rfl
        try simp only [List.getElem_toArray, List.getElem_cons_succ, List.getElem_cons_zero, Act.put, List.setIfInBounds_toArray, List.set_cons_zero, List.set_cons_succ]
        refine wpAnyH_take (i := 27) (v := ?_) rfl (by kernel_rfl) (by kernel_rfl) (by kernel_rfl) (fun _ _ _ h => h) (Or.inl ⟨by rfl, ?_⟩) (by assumption) ?_
        rotate_left
        · intro w hSw; (try dsimp only at hSw); go_simp <;> with_reducible rfl
        try simp only [List.getElem_toArray, List.getElem_cons_succ, List.getElem_cons_zero, Act.put, List.setIfInBounds_toArray, List.set_cons_zero, List.set_cons_succ]
        refine wpAnyH_done (by kernel_rfl) ?_ _
        go_wp2_with fail
        go_ret
        exact ⟨rfl, below_then HBB.out hB5⟩
      | true =>
        have hac : ac = true := HTR.out rfl rfl
        clear HTR
        subst hac
        go_wp2_with fail
        refine wp_region_held_drew (S := (fun w' => w'.cell? ⟨w.heap.size, 0, none⟩ = some (.slice A0 n0 c0) ∧ w'.cell? ⟨w.heap.size, 1, none⟩ = some (.slice A1 n1 c1) ∧ w'.cell? ⟨w.heap.size, 2, none⟩ = some (.slice A2 n2 c2))) (by kernel_rfl) ?_ (fun hHeld => ?_)
        · first | exact HCL.out _ hB5 | exact HCL.out _ hBAL | exact HCL.out _ hBV | exact HCL.out _ hBAA | exact ⟨d0, d1, d2⟩ | go_keep
        refine wpAnyH_take (i := 0) (v := ?_) rfl (by kernel_rfl) (by kernel_rfl) (by kernel_rfl) (fun _ _ _ h => h) (Or.inl ⟨by rfl, ?_⟩) (by assumption) ?_
        rotate_left
        · intro w hSw; (try dsimp only at hSw); go_simp <;> with_reducible rfl
        try simp only [List.getElem_toArray, List.getElem_cons_succ, List.getElem_cons_zero, Act.put, List.setIfInBounds_toArray, List.set_cons_zero, List.set_cons_succ]
        refine wpAnyH_take (i := 1) (v := ?_) rfl (by kernel_rfl) (by kernel_rfl) (by kernel_rfl) (fun _ _ _ h => h) (Or.inl ⟨by rfl, ?_⟩) (by assumption) ?_
        rotate_left
        · intro w hSw; (try dsimp only at hSw); go_simp <;> with_reducible rfl
        try simp only [List.getElem_toArray, List.getElem_cons_succ, List.getElem_cons_zero, Act.put, List.setIfInBounds_toArray, List.set_cons_zero, List.set_cons_succ]
        refine wpAnyH_take (i := 2) (v := ?_) rfl (by kernel_rfl) (by kernel_rfl) (by kernel_rfl) (fun _ _ _ h => h) (Or.inl ⟨by rfl, ?_⟩) (by assumption) ?_
        rotate_left
        · intro w hSw; (try dsimp only at hSw); go_simp <;> with_reducible rfl
        try simp only [List.getElem_toArray, List.getElem_cons_succ, List.getElem_cons_zero, Act.put, List.setIfInBounds_toArray, List.set_cons_zero, List.set_cons_succ]
        refine wpAnyH_take (i := 3) (v := ?_) rfl (by kernel_rfl) (by kernel_rfl) (by kernel_rfl) (fun _ _ _ h => h) (Or.inl ⟨by rfl, ?_⟩) (by assumption) ?_
        rotate_left
        · intro w hSw; (try dsimp only at hSw); go_simp <;> with_reducible rfl
        try simp only [List.getElem_toArray, List.getElem_cons_succ, List.getElem_cons_zero, Act.put, List.setIfInBounds_toArray, List.set_cons_zero, List.set_cons_succ]
        refine wpAnyH_take (i := 4) (v := ?_) rfl (by kernel_rfl) (by kernel_rfl) (by kernel_rfl) (fun _ _ _ h => h) (Or.inl ⟨by rfl, ?_⟩) (by assumption) ?_
        rotate_left
        · intro w hSw; (try dsimp only at hSw); go_simp <;> with_reducible rfl
        try simp only [List.getElem_toArray, List.getElem_cons_succ, List.getElem_cons_zero, Act.put, List.setIfInBounds_toArray, List.set_cons_zero, List.set_cons_succ]
        refine wpAnyH_take (i := 6) (v := ?_) rfl (by kernel_rfl) (by kernel_rfl) (by kernel_rfl) (fun _ _ _ h => h) (Or.inl ⟨by rfl, ?_⟩) (by assumption) ?_
        rotate_left
        · intro w hSw; (try dsimp only at hSw); go_simp <;> with_reducible rfl
        try simp only [List.getElem_toArray, List.getElem_cons_succ, List.getElem_cons_zero, Act.put, List.setIfInBounds_toArray, List.set_cons_zero, List.set_cons_succ]
        refine wpAnyH_take (i := 7) (v := ?_) rfl (by kernel_rfl) (by kernel_rfl) (by kernel_rfl) (fun _ _ _ h => h) (Or.inl ⟨by rfl, ?_⟩) (by assumption) ?_
        rotate_left
        · intro w hSw; (try dsimp only at hSw); go_simp <;> with_reducible rfl
        try simp only [List.getElem_toArray, List.getElem_cons_succ, List.getElem_cons_zero, Act.put, List.setIfInBounds_toArray, List.set_cons_zero, List.set_cons_succ]
        refine wpAnyH_take (i := 8) (v := ?_) rfl (by kernel_rfl) (by kernel_rfl) (by kernel_rfl) (fun _ _ _ h => h) (Or.inl ⟨by rfl, ?_⟩) (by assumption) ?_
        rotate_left
        · intro w hSw; (try dsimp only at hSw); go_simp <;> with_reducible rfl
        try simp only [List.getElem_toArray, List.getElem_cons_succ, List.getElem_cons_zero, Act.put, List.setIfInBounds_toArray, List.set_cons_zero, List.set_cons_succ]
        refine wpAnyH_ready (rs := [5]) (by kernel_rfl) (by simp) (AllReadyH.cons rfl (fun K hK => ?_) AllReadyH.nil)
        go_simp
        (go_at_call 34; ((with_reducible refine (CAA.out _ hB1.drew).mono ?_); rintro e VAA ⟨rfl, hB⟩); have hBAA : Below WB.heap.size WB VAA := below_then hB1.drew hB; clear hB)
        try go_wp2_with fail
        refine hK.out _ _ ?_ (fun hHeld => ?_)
        · first | exact HCL.out _ hB5 | exact HCL.out _ hBAL | exact HCL.out _ hBV | exact HCL.out _ hBAA | exact ⟨d0, d1, d2⟩ | go_keep
        clear hK K
        try simp only [List.getElem_toArray, List.getElem_cons_succ, List.getElem_cons_zero, Act.put, List.setIfInBounds_toArray, List.set_cons_zero, List.set_cons_succ]
        refine wpAnyH_ready (rs := [9]) (by kernel_rfl) (by simp) (AllReadyH.cons rfl (fun K hK => ?_) AllReadyH.nil)
        go_simp
        (go_at_call 36; ((with_reducible refine (CV.out _ hBAA).mono ?_); rintro e VV ⟨rfl, hB⟩); have hBV : Below WB.heap.size WB VV := below_then hBAA hB; clear hB)
        try go_wp2_with fail
        refine hK.out _ _ ?_ (fun hHeld => ?_)
        · first | exact HCL.out _ hB5 | exact HCL.out _ hBAL | exact HCL.out _ hBV | exact HCL.out _ hBAA | exact ⟨d0, d1, d2⟩ | go_keep
        clear hK K
        try simp only [List.getElem_toArray, List.getElem_cons_succ, List.getElem_cons_zero, Act.put, List.setIfInBounds_toArray, List.set_cons_zero, List.set_cons_succ]
        refine wpAnyH_take (i := 10) (v := ?_) rfl (by kernel_rfl) (by kernel_rfl) (by kernel_rfl) (fun _ _ _ h => h) (Or.inl ⟨by rfl, ?_⟩) (by assumption) ?_
        rotate_left
        · intro w hSw; (try dsimp only at hSw); go_simp <;> with_reducible rfl
        try simp only [List.getElem_toArray, List.getElem_cons_succ, List.getElem_cons_zero, Act.put, List.setIfInBounds_toArray, List.set_cons_zero, List.set_cons_succ]
        refine wpAnyH_take (i := 11) (v := ?_) rfl (by kernel_rfl) (by kernel_rfl) (by kernel_rfl) (fun _ _ _ h => h) (Or.inl ⟨by rfl, ?_⟩) (by assumption) ?_
        rotate_left
        · intro w hSw; (try dsimp only at hSw); go_simp <;> with_reducible rfl
        try simp only [List.getElem_toArray, List.getElem_cons_succ, List.getElem_cons_zero, Act.put, List.setIfInBounds_toArray, List.set_cons_zero, List.set_cons_succ]
        refine wpAnyH_take (i := 12) (v := ?_) rfl (by kernel_rfl) (by kernel_rfl) (by kernel_rfl) (fun _ _ _ h => h) (Or.inl ⟨by rfl, ?_⟩) (by assumption) ?_
        rotate_left
        · intro w hSw; (try dsimp only at hSw); go_simp <;> with_reducible rfl
        try simp only [List.getElem_toArray, List.getElem_cons_succ, List.getElem_cons_zero, Act.put, List.setIfInBounds_toArray, List.set_cons_zero, List.set_cons_succ]
        refine wpAnyH_take (i := 13) (v := ?_) rfl (by kernel_rfl) (by kernel_rfl) (by kernel_rfl) (fun _ _ _ h => h) (Or.inl ⟨by rfl, ?_⟩) (by assumption) ?_
        rotate_left
        · intro w hSw; (try dsimp only at hSw); go_simp <;> with_reducible rfl
        try simp only [List.getElem_toArray, List.getElem_cons_succ, List.getElem_cons_zero, Act.put, List.setIfInBounds_toArray, List.set_cons_zero, List.set_cons_succ]
        refine wpAnyH_take (i := 14) (v := ?_) rfl (by kernel_rfl) (by kernel_rfl) (by kernel_rfl) (fun _ _ _ h => h) (Or.inl ⟨by rfl, ?_⟩) (by assumption) ?_
        rotate_left
        · intro w hSw; (try dsimp only at hSw); go_simp <;> with_reducible rfl
        try simp only [List.getElem_toArray, List.getElem_cons_succ, List.getElem_cons_zero, Act.put, List.setIfInBounds_toArray, List.set_cons_zero, List.set_cons_succ]
        refine wpAnyH_take (i := 15) (v := ?_) rfl (by kernel_rfl) (by kernel_rfl) (by kernel_rfl) (fun _ _ _ h => h) (Or.inl ⟨by rfl, ?_⟩) (by assumption) ?_
        rotate_left
        · intro w hSw; (try dsimp only at hSw); go_simp <;> with_reducible rfl
        try simp only [List.getElem_toArray, List.getElem_cons_succ, List.getElem_cons_zero, Act.put, List.setIfInBounds_toArray, List.set_cons_zero, List.set_cons_succ]
        refine wpAnyH_take (i := 16) (v := ?_) rfl (by kernel_rfl) (by kernel_rfl) (by kernel_rfl) (fun _ _ _ h => h) (Or.inl ⟨by rfl, ?_⟩) (by assumption) ?_
        rotate_left
        · intro w hSw; (try dsimp only at hSw); go_simp <;> with_reducible rfl
        try simp only [List.getElem_toArray, List.getElem_cons_succ, List.getElem_cons_zero, Act.put, List.setIfInBounds_toArray, List.set_cons_zero, List.set_cons_succ]
        refine wpAnyH_take (i := 17) (v := ?_) rfl (by kernel_rfl) (by kernel_rfl) (by kernel_rfl) (fun _ _ _ h => h) (Or.inl ⟨by rfl, ?_⟩) (by assumption) ?_
        rotate_left
        · intro w hSw; (try dsimp only at hSw); go_simp <;> with_reducible rfl
        try simp only [List.getElem_toArray, List.getElem_cons_succ, List.getElem_cons_zero, Act.put, List.setIfInBounds_toArray, List.set_cons_zero, List.set_cons_succ]
        refine wpAnyH_take (i := 18) (v := ?_) rfl (by kernel_rfl) (by kernel_rfl) (by kernel_rfl) (fun _ _ _ h => h) (Or.inl ⟨by rfl, ?_⟩) (by assumption) ?_
        rotate_left
        · intro w hSw; (try dsimp only at hSw); go_simp <;> with_reducible rfl
        try simp only [List.getElem_toArray, List.getElem_cons_succ, List.getElem_cons_zero, Act.put, List.setIfInBounds_toArray, List.set_cons_zero, List.set_cons_succ]
        refine wpAnyH_take (i := 19) (v := ?_) rfl (by kernel_rfl) (by kernel_rfl) (by kernel_rfl) (fun _ _ _ h => h) (Or.inl ⟨by rfl, ?_⟩) (by assumption) ?_
        rotate_left
        · intro w hSw; (try dsimp only at hSw); go_simp <;> with_reducible rfl
        try simp only [List.getElem_toArray, List.getElem_cons_succ, List.getElem_cons_zero, Act.put, List.setIfInBounds_toArray, List.set_cons_zero, List.set_cons_succ]
        refine wpAnyH_take (i := 20) (v := ?_) rfl (by kernel_rfl) (by kernel_rfl) (by kernel_rfl) (fun _ _ _ h => h) (Or.inl ⟨by rfl, ?_⟩) (by assumption) ?_
        rotate_left
        · intro w hSw; (try dsimp only at hSw); go_simp <;> with_reducible rfl
        try simp only [List.getElem_toArray, List.getElem_cons_succ, List.getElem_cons_zero, Act.put, List.setIfInBounds_toArray, List.set_cons_zero, List.set_cons_succ]
        refine wpAnyH_ready (rs := [21]) (by kernel_rfl) (by simp) (AllReadyH.cons rfl (fun K hK => ?_) AllReadyH.nil)
        go_simp
        (go_at_call 37; ((with_reducible refine (CAL.out _ hBV).mono ?_); rintro e VAL ⟨rfl, hB⟩); have hBAL : Below WB.heap.size WB VAL := below_then hBV hB; clear hB)
        try go_wp2_with fail
        refine hK.out _ _ ?_ (fun hHeld => ?_)
        · first | exact HCL.out _ hB5 | exact HCL.out _ hBAL | exact HCL.out _ hBV | exact HCL.out _ hBAA | exact ⟨d0, d1, d2⟩ | go_keep
        clear hK K
        try simp only [List.getElem_toArray, List.getElem_cons_succ, List.getElem_cons_zero, Act.put, List.setIfInBounds_toArray, List.set_cons_zero, List.set_cons_succ]
        refine wpAnyH_take (i := 22) (v := ?_) rfl (by kernel_rfl) (by kernel_rfl) (by kernel_rfl) (fun _ _ _ h => h) (Or.inl ⟨by rfl, ?_⟩) (by assumption) ?_
        rotate_left
        · intro w hSw; (try dsimp only at hSw); go_simp <;> with_reducible rfl
        try simp only [List.getElem_toArray, List.getElem_cons_succ, List.getElem_cons_zero, Act.put, List.setIfInBounds_toArray, List.set_cons_zero, List.set_cons_succ]
        refine wpAnyH_take (i := 23) (v := ?_) rfl (by kernel_rfl) (by kernel_rfl) (by kernel_rfl) (fun _ _ _ h => h) (Or.inl ⟨by rfl, ?_⟩) (by assumption) ?_
        rotate_left
        · intro w hSw; (try dsimp only at hSw); go_simp <;> with_reducible rfl
        try simp only [List.getElem_toArray, List.getElem_cons_succ, List.getElem_cons_zero, Act.put, List.setIfInBounds_toArray, List.set_cons_zero, List.set_cons_succ]
        refine wpAnyH_take (i := 24) (v := ?_) rfl (by kernel_rfl) (by kernel_rfl) (by kernel_rfl) (fun _ _ _ h => h) (Or.inl ⟨by rfl, ?_⟩) (by assumption) ?_
        rotate_left
        · intro w hSw; (try dsimp only at hSw); go_simp <;> with_reducible rfl
        try simp only [List.getElem_toArray, List.getElem_cons_succ, List.getElem_cons_zero, Act.put, List.setIfInBounds_toArray, List.set_cons_zero, List.set_cons_succ]
        refine wpAnyH_ready (rs := [25]) (by kernel_rfl) (by simp) (AllReadyH.cons rfl (fun K hK => ?_) AllReadyH.nil)
        go_simp
        (go_at_call 17; refine (awake2_any _).mono ?_; rintro e V5 ⟨rfl, hB⟩; have hB5 : Below WB.heap.size WB V5 := below_then hBAL hB; clear hB)
        try go_wp2_with fail
        refine hK.out _ _ ?_ (fun hHeld => ?_)
        · first | exact HCL.out _ hB5 | exact HCL.out _ hBAL | exact HCL.out _ hBV | exact HCL.out _ hBAA | exact ⟨d0, d1, d2⟩ | go_keep
        clear hK K
        try simp only [List.getElem_toArray, List.getElem_cons_succ, List.getElem_cons_zero, Act.put, List.setIfInBounds_toArray, List.set_cons_zero, List.set_cons_succ]
        refine wpAnyH_take (i := 26) (v := ?_) rfl (by kernel_rfl) (by kernel_rfl) (by kernel_rfl) (fun _ _ _ h => h) (Or.inl ⟨by rfl, ?_⟩) (by assumption) ?_
        rotate_left
        · intro w hSw; (try dsimp only at hSw); go_simp <;> with_reducible rfl
        try simp only [List.getElem_toArray, List.getElem_cons_succ, List.getElem_cons_zero, Act.put, List.setIfInBounds_toArray, List.set_cons_zero, List.set_cons_succ]
        refine wpAnyH_take (i := 27) (v := ?_) rfl (by kernel_rfl) (by kernel_rfl) (by kernel_rfl) (fun _ _ _ h => h) (Or.inl ⟨by rfl, ?_⟩) (by assumption) ?_
        rotate_left
        · intro w hSw; (try dsimp only at hSw); go_simp <;> with_reducible rfl
        try simp only [List.getElem_toArray, List.getElem_cons_succ, List.getElem_cons_zero, Act.put, List.setIfInBounds_toArray, List.set_cons_zero, List.set_cons_succ]
        refine wpAnyH_done (by kernel_rfl) ?_ _
        go_wp2_with fail
        go_ret
        exact ⟨rfl, below_then HBB.out hB5⟩

theorem uor_walk (As A0 A1 A2 : Option Addr) (ns cs n0 c0 n1 c1 n2 c2 : Nat) (ss : Sg) (za zb zc : List Int) (w : World) (hs : SigAt w w.heap.size As ns ss) (h0 : IntsAt w w.heap.size A0 n0 za ∧ n0 ≤ c0 ∧ c0 ≤ 9223372036854775807) (h1 : IntsAt w w.heap.size A1 n1 zb ∧ n1 ≤ c1 ∧ c1 ≤ 9223372036854775807) (h2 : IntsAt w w.heap.size A2 n2 zc ∧ n2 ≤ c2 ∧ c2 ≤ 9223372036854775807) :
    Calls Try.prog 8 #[.slice As ns cs, .agg #[.slice A0 n0 c0, .slice A1 n1 c1, .slice A2 n2 c2]] w fun e w' => e = .returned (.bool true) ∧ Below w.heap.size w w' := by
  cases hsm : smallOk ns [(A0, n0, c0), (A1, n1, c1), (A2, n2, c2)]
  · exact uor_small As A0 A1 A2 ns cs n0 c0 n1 c1 n2 c2 w hsm
  · exact uor_ok As A0 A1 A2 ns cs n0 c0 n1 c1 n2 c2 ss za zb zc w hs h0 h1 h2 hsm

end Go.Proofs.Ytodcogngejgpfaa
