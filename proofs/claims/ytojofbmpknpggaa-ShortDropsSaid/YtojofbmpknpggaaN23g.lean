/- Contracts: the reference's Match, Instance. -/
import Derived.Test.YtojofbmpknpggaaN20g
import Derived.Test.YtojofbmpknpggaaN13g
import Derived.Test.YtojofbmpknpggaaQ6g
import Derived.Test.YtojofbmpknpggaaG3g
/- Contract: the reference's matched. -/
namespace Go.Proofs.Ytojofbmpknpggaa
open Go.RowKit
attribute [local go_sem] eql_nil0 eql_nil1 neq_nil0 neq_nil1

theorem KeepE.old {w w' : World} {d : Nat} (h : Below w.heap.size w w') : KeepE (fun b => b < w.heap.size ∧ b ≠ d) w w' := KeepE.of_below h (fun _ h => h.1)
theorem KeepE.next {w w1 w2 : World} {d : Nat} (h : KeepE (fun b => b < w.heap.size ∧ b ≠ d) w w1) (k : KeepE (fun b => b < w1.heap.size ∧ b ≠ d) w1 w2) : KeepE (fun b => b < w.heap.size ∧ b ≠ d) w w2 := h.trans (k.mono fun _ hb => ⟨Nat.lt_of_lt_of_le hb.1 h.size, hb.2⟩)
theorem KeepE.put {w w' : World} {d j : Nat} {u : Value} (h : KeepE (fun b => b < w.heap.size ∧ b ≠ d) w w') : KeepE (fun b => b < w.heap.size ∧ b ≠ d) w (w'.setCell ⟨d, j, none⟩ u) := h.trans (KeepE.set (p := ⟨d, j, none⟩) (fun h => h.2 rfl) u)
theorem KeepE.low {w w' : World} {d : Nat} (h : KeepE (fun b => b < w.heap.size ∧ b ≠ d) w w') (hd : d ≤ w.heap.size) : Below d w w' := h.below (fun b hb => ⟨by omega, by omega⟩)
end Go.Proofs.Ytojofbmpknpggaa

/- Contracts: Match, Instance. -/
namespace Go.Proofs.Ytojofbmpknpggaa
open Go.RowKit

/-- The call of valid at two terms. -/
theorem uvalid_two (As Aa Ab : Option Addr) (ns cs na ca nb cb : Nat) (ss : Sg) (za zb : List Int) (w : World) (hs : SigAt w w.heap.size As ns ss) (ha : IntsAt w w.heap.size Aa na za) (hb : IntsAt w w.heap.size Ab nb zb) :
    Calls Try.prog 98 #[.slice As ns cs, .slice (some ⟨w.heap.size, 0, none⟩) 2 2] (w.alloc (.cells #[.slice Aa na ca, .slice Ab nb cb] 45)) fun e w' => e = .returned (.bool (valOk ss za && valOk ss zb)) ∧ Below w.heap.size w w' := by
  have hB : Below w.heap.size w (w.alloc (.cells #[.slice Aa na ca, .slice Ab nb cb] 45)) := bel_al (Below.refl _ w) _
  refine (uvalid_any As (some ⟨w.heap.size, 0, none⟩) ns cs 2 2 ss _ [za, zb] _ (hs.up hB) (TermsAt.two (ca := ca) (cb := cb) ha hb) (by omega)).mono ?_
  rintro e w' ⟨rfl, h⟩
  refine ⟨?_, below_then hB h⟩
  have : ([za, zb].all (valOk ss) && sigOk ss) = (valOk ss za && valOk ss zb) := by
    cases h : valOk ss za
    · simp [h]
    · simp [h, valOk_sig h]
  rw [this]
theorem matZ_bad {ss : Sg} {za zb : List Int} (h : (valOk ss za && valOk ss zb) = false) : matZ ss za zb = ([], 1) := by
  unfold matZ; rw [if_pos h]
theorem matZ_good {ss : Sg} {za zb : List Int} (h : (valOk ss za && valOk ss zb) = true) : matZ ss za zb = (match mtc ss za zb ini with | none => ([], 8) | some r => (bX (imX r.1) 12, 0)) := by
  unfold matZ; rw [if_neg (by simp [h])]; rfl
/-- Whether a term is an instance of another one. -/
def insB (ss : Sg) (za zb : List Int) : Bool := decide ((matZ ss za zb).2 = 0)

end Go.Proofs.Ytojofbmpknpggaa

/- Instances: the plain mathematics. -/
namespace Go.Proofs.Ytojofbmpknpggaa
open Go.RowKit

theorem apN_map {σ : Nat → List Int} {f : Int → Int} : ∀ {p : List Int}, (∀ z ∈ p, (if z < 0 then σ (-z - 1).toNat else [z]) = [f z]) → apN σ p = p.map f
  | [], _ => rfl
  | z :: p, h => by
    rw [apN_cons, h z (List.mem_cons_self ..), apN_map fun x hx => h x (List.mem_cons_of_mem _ hx)]
    rfl
theorem appl_is (bb : List Bd) : ∀ (zs : List Int), appl bb zs = apN (fun v => ofB bb (v : Int)) zs
  | [] => rfl
  | z :: zs => by
    rw [appl_cons, apN_cons, appl_is bb zs]
    by_cases hn : z < 0
    · rw [if_pos hn, if_pos hn, show (((-z - 1).toNat : Nat) : Int) = -z - 1 by omega]
    · rw [if_neg hn, if_neg hn]
theorem ins_valid {ss : Sg} {za zb : List Int} (h : insB ss za zb = true) : valOk ss za = true ∧ valOk ss zb = true := by
  obtain ⟨h1, h2, _⟩ := mat_sound (of_decide_eq_true h)
  exact ⟨h1, h2⟩
theorem ins_out {ss : Sg} {za zb : List Int} (h : insB ss za zb = true) : ∃ σ : Nat → List Int, (∀ v, v < 12 → valOk ss (σ v) = true) ∧ apN σ za = zb := by
  obtain ⟨h1, h2, h3, h4⟩ := mat_sound (of_decide_eq_true h)
  have hz : ∀ z ∈ za, -12 ≤ z := fun z hz => ((valOk_term h1).2.2.1 z hz).1
  refine ⟨fun v => ofB (matZ ss za zb).1 (v : Int), fun v hv => ofB_ok h3 (by omega) (by omega), ?_⟩
  rw [← appl_is, h4]
theorem ins_in {ss : Sg} {za zb : List Int} {σ : Nat → List Int} (ha : valOk ss za = true) (hb : valOk ss zb = true) (hσ : ∀ v, v < 12 → scan ss 1 (σ v) = some []) (h : apN σ za = zb) : insB ss za zb = true := by
  have hz : ∀ z ∈ za, -12 ≤ z := fun z hz => ((valOk_term ha).2.2.1 z hz).1
  obtain ⟨im', hm⟩ := mtc_complete hσ [] za ini hz rfl (fun v hv => absurd (ini_at v) hv)
  rw [List.append_nil, h] at hm
  unfold insB
  rw [matZ_good (by simp [ha, hb]), hm]
  rfl
theorem scan_neg {ss : Sg} {z : Int} (h : z < 0) : scan ss 1 [z] = some [] := by
  simp [scan, arOf_neg ss h]
theorem ins_map {ss : Sg} {a b : List Int} {f : Int → Int} (ha : valOk ss a = true) (hb : valOk ss b = true) (hf : ∀ z ∈ a, z < 0 → f z < 0) (hf2 : ∀ z ∈ a, 0 ≤ z → f z = z) (h : a.map f = b) : insB ss a b = true := by
  refine ins_in (σ := fun v => if f (-(v : Int) - 1) < 0 then [f (-(v : Int) - 1)] else [-1]) ha hb (fun v _ => ?_) ?_
  · show scan ss 1 (if f (-(v : Int) - 1) < 0 then [f (-(v : Int) - 1)] else [-1]) = some []
    split
    · exact scan_neg (by assumption)
    · exact scan_neg (by omega)
  · rw [← h]
    refine apN_map fun z hz => ?_
    by_cases hn : z < 0
    · rw [if_pos hn, show -(((-z - 1).toNat : Nat) : Int) - 1 = z by omega, if_pos (hf z hz hn)]
    · rw [if_neg hn, hf2 z hz (by omega)]
theorem ins_refl {ss : Sg} {a : List Int} : insB ss a a = valOk ss a := by
  cases h : valOk ss a
  · unfold insB; rw [matZ_bad (by simp [h])]; rfl
  · exact ins_map (f := id) h h (fun _ _ h => h) (fun _ _ _ => rfl) (by simp)

/-- What a renaming makes of what was seen. -/
theorem addSeen_map {f : Int → Int} {l : List Int} {z : Int} (hneg : z < 0 → f z < 0) (hpos : 0 ≤ z → f z = z) (hinj : ∀ x ∈ l, z < 0 → f x = f z → x = z) : addSeen (l.map f) (f z) = (addSeen l z).map f := by
  unfold addSeen
  by_cases h : 0 ≤ z
  · rw [if_pos h, if_pos (by rw [hpos h]; exact h)]
  · have hz : z < 0 := by omega
    have := hneg hz
    rw [if_neg h, if_neg (by omega)]
    by_cases hc : z ∈ l
    · rw [if_pos (List.contains_iff_mem.2 hc), if_pos (List.contains_iff_mem.2 (List.mem_map_of_mem hc))]
    · have hc2 : ¬ f z ∈ l.map f := fun h => by
        obtain ⟨x, hx, e⟩ := List.mem_map.1 h
        exact hc (hinj x hx hz e ▸ hx)
      rw [if_neg (fun h => hc (List.contains_iff_mem.1 h)), if_neg (fun h => hc2 (List.contains_iff_mem.1 h))]
      simp
theorem idx_map {f : Int → Int} : ∀ {l : List Int} {z : Int}, (∀ x ∈ l, f x = f z → x = z) → (l.map f).idxOf (f z) = l.idxOf z
  | [], _, _ => rfl
  | x :: l, z, h => by
    rw [List.map_cons, List.idxOf_cons, List.idxOf_cons, idx_map fun y hy => h y (List.mem_cons_of_mem _ hy)]
    by_cases e : x = z
    · subst e; simp
    · have : f x ≠ f z := fun e2 => e (h x (List.mem_cons_self ..) e2)
      have b1 : (f x == f z) = false := beq_eq_false_iff_ne.2 this
      have b2 : (x == z) = false := beq_eq_false_iff_ne.2 e
      rw [b1, b2]
theorem canonL_map {f : Int → Int} {S : List Int} (hneg : ∀ z ∈ S, z < 0 → f z < 0) (hpos : ∀ z ∈ S, 0 ≤ z → f z = z) (hinj : ∀ x ∈ S, ∀ z ∈ S, f x = f z → x = z) : ∀ (a l : List Int), (∀ z ∈ a, z ∈ S) → (∀ x ∈ l, x ∈ S) → canonL (l.map f) (a.map f) = canonL l a
  | [], _, _, _ => rfl
  | z :: a, l, ha, hl => by
    have hz := ha z (List.mem_cons_self ..)
    have e1 := addSeen_map (l := l) (hneg z hz) (hpos z hz) (fun x hx _ e => hinj x (hl x hx) z hz e)
    have hl2 : ∀ x ∈ addSeen l z, x ∈ S := fun x hx => by
      unfold addSeen at hx
      split at hx
      · exact hl x hx
      · split at hx
        · exact hl x hx
        · rcases List.mem_append.1 hx with h | h
          · exact hl x h
          · obtain rfl := List.mem_singleton.1 h; exact hz
    simp only [List.map_cons, canonL]
    rw [e1, canonL_map hneg hpos hinj a _ (fun x hx => ha x (List.mem_cons_of_mem _ hx)) hl2]
    congr 1
    unfold ren1
    by_cases h : 0 ≤ z
    · rw [if_pos h, hpos z hz h, if_pos h]
    · have := hneg z hz (by omega)
      rw [if_neg h, if_neg (by omega)]
      unfold cnum
      rw [e1, idx_map fun x hx e => hinj x (hl2 x hx) z hz e]
theorem apN_len {σ : Nat → List Int} : ∀ {a : List Int}, (∀ z ∈ a, z < 0 → 1 ≤ (σ (-z - 1).toNat).length) → a.length ≤ (apN σ a).length ∧ ((apN σ a).length = a.length → ∀ z ∈ a, z < 0 → (σ (-z - 1).toNat).length = 1)
  | [], _ => ⟨Nat.le_refl _, fun _ z hz => by simp at hz⟩
  | x :: a, h => by
    obtain ⟨h1, h2⟩ := apN_len (a := a) fun z hz => h z (List.mem_cons_of_mem _ hz)
    rw [apN_cons]
    by_cases hx : x < 0
    · have h3 := h x (List.mem_cons_self ..) hx
      rw [if_pos hx, List.length_append, List.length_cons]
      refine ⟨by omega, fun e z hz hn => ?_⟩
      rcases List.mem_cons.1 hz with rfl | hz
      · omega
      · exact h2 (by omega) z hz hn
    · rw [if_neg hx, List.length_append, List.length_cons]
      simp only [List.length_cons, List.length_nil]
      refine ⟨by omega, fun e z hz hn => ?_⟩
      rcases List.mem_cons.1 hz with rfl | hz
      · exact absurd hn hx
      · exact h2 (by omega) z hz hn
/-- What is an instance and of the same length is renamed. -/
theorem ins_same {ss : Sg} {a b : List Int} (h : insB ss a b = true) (hl : b.length = a.length) : ∃ f : Int → Int, a.map f = b ∧ ∀ z ∈ a, 0 ≤ z → f z = z := by
  obtain ⟨σ, s1, s2⟩ := ins_out h
  have hz : ∀ z ∈ a, -12 ≤ z := fun z hz => ((valOk_term (ins_valid h).1).2.2.1 z hz).1
  have h1 := (apN_len (σ := σ) (a := a) fun z hz' hn => (valOk_term (s1 _ (by have := hz z hz'; omega))).1).2 (by rw [s2, hl])
  refine ⟨fun z => if z < 0 then (σ (-z - 1).toNat).headD 0 else z, ?_, fun z _ hp => by show (if z < 0 then _ else z) = z; rw [if_neg (by omega)]⟩
  rw [← s2]
  refine (apN_map fun z hz' => ?_).symm
  by_cases hn : z < 0
  · rw [if_pos hn, if_pos hn]
    have := h1 z hz' hn
    match hq : σ (-z - 1).toNat, this with
    | [y], _ => rfl
  · rw [if_neg hn, if_neg hn]
theorem canon_ins {ss : Sg} {a b : List Int} (va : valOk ss a = true) (vb : valOk ss b = true) (h : canon a = canon b) : insB ss a b = true := by
  have hl : a.length = b.length := by rw [← canon_length a, ← canon_length b, h]
  have key : ∀ i (hi : i < a.length), (0 ≤ a[i] → b[i]'(by omega) = a[i]) ∧ (a[i] < 0 → b[i]'(by omega) < 0 ∧ (seenTo b b.length).getD ((seenTo a a.length).idxOf a[i]) 0 = b[i]'(by omega)) := by
    intro i hi
    have hi' : i < b.length := by omega
    have c1 := cval_all a hi
    have c2 := cval_all b hi'
    rw [h, c2] at c1
    have c3 := Option.some.inj c1
    have hin : ∀ (zs : List Int) (k : Nat) (hk : k < zs.length), zs[k] < 0 → (seenTo zs zs.length).idxOf zs[k] < (seenTo zs zs.length).length := fun zs k hk hn => by
      apply List.idxOf_lt_length_of_mem
      have hm := mem_addSeen (l := seenTo zs k) hn
      obtain ⟨r, hr⟩ := seenTo_ext zs (zs.length - (k + 1)) (k + 1) (by omega)
      rw [show k + 1 + (zs.length - (k + 1)) = zs.length from by omega, seenTo_succ hk] at hr
      rw [hr]
      exact List.mem_append_left _ hm
    unfold cval at c3
    refine ⟨fun hp => ?_, fun hn => ?_⟩
    · rw [if_neg (fun hh : a[i] < 0 ∧ _ => by have := hh.1; omega)] at c3
      split at c3
      · omega
      · exact c3
    · rw [if_pos (show a[i] < 0 ∧ _ from ⟨hn, hin a i hi hn⟩)] at c3
      by_cases hb : b[i] < 0
      · rw [if_pos (show b[i] < 0 ∧ _ from ⟨hb, hin b i hi' hb⟩)] at c3
        refine ⟨hb, ?_⟩
        have e : (seenTo a a.length).idxOf a[i] = (seenTo b b.length).idxOf b[i] := by omega
        rw [e, List.getD_eq_getElem?_getD, List.getElem?_eq_getElem (hin b i hi' hb)]
        simp
      · rw [if_neg (fun hh : b[i] < 0 ∧ _ => hb hh.1)] at c3
        omega
  refine ins_map (f := fun z => if z < 0 then (seenTo b b.length).getD ((seenTo a a.length).idxOf z) 0 else z) va vb (fun z hz hn => ?_) (fun z _ hp => by show (if z < 0 then _ else z) = z; rw [if_neg (by omega)]) ?_
  · show (if z < 0 then (seenTo b b.length).getD ((seenTo a a.length).idxOf z) 0 else z) < 0
    obtain ⟨i, hi, rfl⟩ := List.mem_iff_getElem.1 hz
    obtain ⟨k1, k2⟩ := (key i hi).2 hn
    rw [if_pos hn, k2]
    exact k1
  · apply List.ext_getElem
    · rw [List.length_map, hl]
    · intro i h1 h2
      rw [List.getElem_map]
      have hi : i < a.length := by simpa using h1
      by_cases hn : a[i] < 0
      · rw [if_pos hn]; exact ((key i hi).2 hn).2
      · rw [if_neg hn]; exact ((key i hi).1 (by omega)).symm
end Go.Proofs.Ytojofbmpknpggaa

namespace Go.Proofs.Ytojofbmpknpggaa
open Go.RowKit
attribute [local go_sem] eql_nil0 eql_nil1 neq_nil0 neq_nil1

end Go.Proofs.Ytojofbmpknpggaa
