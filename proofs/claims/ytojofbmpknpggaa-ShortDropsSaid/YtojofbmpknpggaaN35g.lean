/- Contracts: Apply with its capacity; Unifies, the reference's Unifies. What any unifier makes is an instance of what is found. -/
import Derived.Test.YtojofbmpknpggaaN33g
import Derived.Test.YtojofbmpknpggaaN29g
import Derived.Test.YtojofbmpknpggaaN13g
/- Contracts: Unified, Unifiable, Meet, Meets at any arguments; Join with its capacity. -/
namespace Go.Proofs.Ytojofbmpknpggaa
open Go.RowKit

/-- What two terms, the second one shifted, both become, and the error. -/
def comZ (ss : Sg) (sh : Int) (za zb : List Int) : List Int × Int := if (valOk ss za && valOk ss zb) = true then (commonF ss sh 10000 za zb).getD ([], 0) else ([], 1)
/-- Whether there is such a term. -/
def hasZ (ss : Sg) (sh : Int) (za zb : List Int) : Bool := valOk ss za && valOk ss zb && (match uniteF ss sh 10000 za zb Fd.none with | none => false | some r => r.2.1)
theorem comZ_bad {ss : Sg} {sh : Int} {za zb : List Int} (h : (valOk ss za && valOk ss zb) = false) : comZ ss sh za zb = ([], 1) ∧ hasZ ss sh za zb = false := by
  unfold comZ hasZ; rw [h]; simp
theorem comZ_good {ss : Sg} {sh : Int} {za zb : List Int} (hsh : 0 ≤ sh ∧ sh ≤ 1000) (ha : valOk ss za = true) (hb : valOk ss zb = true) : commonF ss sh 10000 za zb = some (comZ ss sh za zb) := by
  obtain ⟨_, _, r, hr⟩ := common_some hsh ha hb
  unfold comZ
  rw [if_pos (by simp [ha, hb]), hr]; rfl
theorem hasZ_good {ss : Sg} {sh : Int} {za zb : List Int} (ha : valOk ss za = true) (hb : valOk ss zb = true) {k : Nat} {b : Bool} {G : Fd} (h : uniteF ss sh 10000 za zb Fd.none = some (k, b, G)) : hasZ ss sh za zb = b := by
  unfold hasZ
  rw [ha, hb, h]
  simp

set_option maxRecDepth 100000 in
set_option maxHeartbeats 1000000 in
theorem has_all (As Aa Ab : Option Addr) (ns cs na ca nb cb : Nat) (sh : Int) (ss : Sg) (za zb : List Int) (w : World) (hs : SigAt w w.heap.size As ns ss) (ha : IntsAt w w.heap.size Aa na za) (hb : IntsAt w w.heap.size Ab nb zb) (hsh : 0 ≤ sh ∧ sh ≤ 1000) :
    Calls Try.prog 96 #[.slice As ns cs, .slice Aa na ca, .slice Ab nb cb, .int .i64 sh] w fun e w' => e = .returned (.bool (hasZ ss sh za zb)) ∧ Below w.heap.size w w' := by
  have C1 := Lib.hid (uvalid_two As Aa Ab ns cs na ca nb cb ss za zb w hs ha hb)
  cases hv : (valOk ss za && valOk ss zb)
  · rw [(comZ_bad hv).2]
    rw [hv] at C1
    clear hs ha hb hv
    go_enter Try.func96, Try.ntmps96
    go_wp2_with (go_at_call 98; refine C1.out.mono ?_; rintro e w1 ⟨rfl, hB1⟩; have HB1 := Lib.hid hB1; clear hB1)
    go_ret
    exact ⟨rfl, HB1.out⟩
  · rw [hv] at C1
    rw [Bool.and_eq_true] at hv
    obtain ⟨hva, hvb⟩ := hv
    obtain ⟨⟨k, b, G, hu, hG⟩, har, _⟩ := common_some hsh hva hvb
    have HZ := Lib.hid (hasZ_good hva hvb hu)
    have CU : Hid (∀ W1 W2 : World, Below w.heap.size w W1 → FAt W2 (fun b => b < W1.heap.size) (W1.heap.size + 1) (.slice As ns cs) Fd.none → Below W1.heap.size W1 W2 →
        Calls Try.prog 100 #[.pointer (some ⟨W1.heap.size + 1, 0, none⟩), .slice Aa na ca, .slice Ab nb cb, .int .i64 sh] W2 fun e w' => e = .returned (.tuple #[.int .i64 (k : Int), .bool b]) ∧ FAt w' (fun b => b < W1.heap.size) (W1.heap.size + 1) (.slice As ns cs) G ∧ KeepE (fun b => b < W1.heap.size) W2 w') :=
      Lib.hid fun W1 W2 h1 hA h2 => unite_any _ W1.heap.size _ na ca nb cb ns cs As Aa Ab sh ss za zb Fd.none G 10000 k b W2 hva hvb hsh (fun b hb => hb) (fun b hb => Nat.lt_of_lt_of_le hb h2.size) ((hs.up h1).below h2) ((ha.up h1).below h2) ((hb.up h1).below h2) h2.size hA Fd.none_ok (by decide) (by omega) har hu
    clear hs ha hb hva hvb har hu hG
    go_enter Try.func96, Try.ntmps96
    go_wp2_with (first
      | (go_at_call 98; refine C1.out.mono ?_; rintro e w1 ⟨rfl, hB1⟩; have HB1 := Lib.hid hB1; clear hB1)
      | (go_at_call 99; refine (search_any As ns cs w1).mono ?_; rintro e w2 ⟨rfl, hA2, hB2⟩; have HA2 := Lib.hid hA2; have HB2 := Lib.hid hB2; clear hA2 hB2)
      | (go_at_call 100; refine (CU.out w1 w2 HB1.out HA2.out HB2.out).mono ?_; rintro e w3 ⟨rfl, hA3, hK3⟩; have HK3 := Lib.hid hK3; clear hA3 hK3))
    go_ret
    exact ⟨by rw [HZ.out]; rfl, (HB1.out.trans (HB2.out.mono HB1.out.size)).trans (HK3.out.below (fun b hb => Nat.lt_of_lt_of_le hb HB1.out.size))⟩

set_option maxRecDepth 100000 in
set_option maxHeartbeats 400000 in
theorem meets_all (As Aa Ab : Option Addr) (ns cs na ca nb cb : Nat) (ss : Sg) (za zb : List Int) (w : World) (hs : SigAt w w.heap.size As ns ss) (ha : IntsAt w w.heap.size Aa na za) (hb : IntsAt w w.heap.size Ab nb zb) :
    Calls Try.prog 86 #[.slice As ns cs, .slice Aa na ca, .slice Ab nb cb] w fun e w' => e = .returned (.bool (hasZ ss 12 za zb)) ∧ Below w.heap.size w w' := by
  have C := Lib.hid (has_all As Aa Ab ns cs na ca nb cb 12 ss za zb w hs ha hb (by omega))
  obtain ⟨R, hR⟩ : ∃ R, hasZ ss 12 za zb = R := ⟨_, rfl⟩
  rw [hR] at C ⊢
  clear hs ha hb hR
  go_enter Try.func86, Try.ntmps86
  go_wp2_with (go_at_call 96; refine C.out.mono ?_; rintro e w4 ⟨rfl, hB4⟩; have HB4 := Lib.hid hB4; clear hB4)
  go_ret
  exact ⟨rfl, HB4.out⟩

/-- Two terms that become one, each by terms of its own. -/
theorem ins_apart {ss : Sg} {za zb c : List Int} (h1 : insB ss za c = true) (h2 : insB ss zb c = true) : ∃ σ : Int → List Int, (∀ z, z < 0 → scan ss 1 (σ z) = some []) ∧ apV (sft σ 0) za = c ∧ apV (sft σ 12) zb = c := by
  obtain ⟨va, _⟩ := ins_valid h1
  obtain ⟨vb, _⟩ := ins_valid h2
  obtain ⟨σ, s1, s2⟩ := ins_out h1
  obtain ⟨τ, t1, t2⟩ := ins_out h2
  refine ⟨fun z => if -12 ≤ z then σ (-z - 1).toNat else if -24 ≤ z then τ (-z - 13).toNat else [-1], fun z hz => ?_, ?_, ?_⟩
  · simp only
    split
    · exact (valOk_term (s1 _ (by omega))).2.2.2
    · split
      · exact (valOk_term (t1 _ (by omega))).2.2.2
      · exact scan_neg (by omega)
  · rw [← s2]
    unfold apV apN
    have hz := (valOk_term va).2.2.1
    revert hz
    generalize za = l
    intro hz
    induction l with
    | nil => rfl
    | cons z l ih =>
      rw [List.flatMap_cons, List.flatMap_cons, ih fun x hx => hz x (List.mem_cons_of_mem _ hx)]
      congr 1
      have := hz z (List.mem_cons_self ..)
      unfold sft
      simp only [Int.sub_zero]
      rw [if_pos (by omega : (-12 : Int) ≤ z)]
  · rw [← t2]
    unfold apV apN
    have hz := (valOk_term vb).2.2.1
    revert hz
    generalize zb = l
    intro hz
    induction l with
    | nil => rfl
    | cons z l ih =>
      rw [List.flatMap_cons, List.flatMap_cons, ih fun x hx => hz x (List.mem_cons_of_mem _ hx)]
      congr 1
      have := hz z (List.mem_cons_self ..)
      unfold sft
      simp only
      by_cases hn : z < 0
      · rw [if_pos hn, if_pos hn, if_neg (by omega), if_pos (by omega), show -(z - 12) - 13 = -z - 1 by omega]
      · rw [if_neg hn, if_neg hn]
/-- A common instance is one of the meet. -/
theorem meet_bound {ss : Sg} {za zb c : List Int} (h1 : insB ss za c = true) (h2 : insB ss zb c = true) : hasZ ss 12 za zb = true ∧ (comZ ss 12 za zb = ([], 4) ∨ (comZ ss 12 za zb).2 = 0 ∧ insB ss (comZ ss 12 za zb).1 c = true) := by
  obtain ⟨va, vc⟩ := ins_valid h1
  obtain ⟨vb, _⟩ := ins_valid h2
  obtain ⟨σ, s1, s2, s3⟩ := ins_apart h1 h2
  obtain ⟨⟨k, b, G, hu, _⟩, _, _⟩ := common_some (sh := 12) (by omega) va vb
  obtain ⟨e, _⟩ := unite_val (by omega) va vb s1 (s2.trans s3.symm) hu
  refine ⟨by rw [hasZ_good va vb hu]; exact e, ?_⟩
  exact (common_val (by omega) va vb s1 s2 s3 vc (comZ_good (by omega) va vb)).1
end Go.Proofs.Ytojofbmpknpggaa

namespace Go.Proofs.Ytojofbmpknpggaa
open Go.RowKit

/-- Whether binds are a unifier. -/
def unifB (ss : Sg) (bb : List Bd) (za zb : List Int) : Bool := valOk ss za && valOk ss zb && (bindsOk ss bb && decide (appl bb za = appl bb zb))

theorem nodup_le' : ∀ (l m : List Int), l.Nodup → (∀ x ∈ l, x ∈ m) → l.length ≤ m.length
  | [], m, _, _ => Nat.zero_le _
  | x :: l, m, hn, h => by
    rw [List.nodup_cons] at hn
    have hx := h x (List.mem_cons_self ..)
    have ih := nodup_le' l (m.erase x) hn.2 (fun y hy => (List.mem_erase_of_ne (fun e => hn.1 (by rw [← e]; exact hy))).2 (h y (List.mem_cons_of_mem _ hy)))
    have hl := List.length_erase_of_mem hx
    have hp := List.length_pos_of_mem hx
    rw [List.length_cons]
    omega
theorem seen_few {t : List Int} (h : ∀ z ∈ t, -12 ≤ z) : (seenTo t t.length).length ≤ 12 := by
  have := nodup_le' (seenTo t t.length) ((List.range 12).map fun k : Nat => -(k : Int) - 1) (seenTo_nodup t _) (fun x hx => by
    have h1 := seen_neg t _ x hx
    have h2 := h x (seen_mem t _ x hx)
    rw [List.mem_map]
    exact ⟨(-x - 1).toNat, by rw [List.mem_range]; omega, by omega⟩)
  simpa using this
/-- The tops of two terms that are not shifted. -/
theorem tops_zero {ss : Sg} {za zb : List Int} (ha : valOk ss za = true) (hb : valOk ss zb = true) : ∀ z ∈ (addT ss 0 zb (addT ss 0 za Fd.none).2.2).2.2.tops, -12 ≤ z := by
  obtain ⟨_, _, a12, _⟩ := valOk_term ha
  obtain ⟨_, _, b12, _⟩ := valOk_term hb
  unfold addT
  refine (addF_mem (Q := fun z => -12 ≤ z) _ zb _ (fun z hz => ?_) (addF_mem (Q := fun z => -12 ≤ z) _ za _ (fun z hz => ?_) (fun z hz => by simp [Fd.none] at hz)).2).2
  · have := b12 z hz; omega
  · have := a12 z hz; omega
/-- What binds make of a term, told of its numbers. -/
theorem appl_apV {ss : Sg} (bb : List Bd) {l : List Int} (hz : NumsIn ss l) : apV (sft (fun z => if -12 ≤ z then ofB bb (-z - 1) else [-1]) 0) l = appl bb l := by
  unfold apV appl
  induction l with
  | nil => rfl
  | cons z l ih =>
    rw [List.flatMap_cons, List.flatMap_cons, ih hz.tail]
    congr 1
    have := hz z (List.mem_cons_self ..)
    unfold sft
    simp only [Int.sub_zero]
    rw [if_pos (by omega : (-12 : Int) ≤ z)]
/-- P2.4: what any unifier makes is an instance of what is found. -/
theorem unif_general {ss : Sg} {bb : List Bd} {za zb : List Int} (h : unifB ss bb za zb = true) : hasZ ss 0 za zb = true ∧ ((applZ ss bb za).2 = 0 → (comZ ss 0 za zb).2 = 0 ∧ insB ss (comZ ss 0 za zb).1 (applZ ss bb za).1 = true) := by
  unfold unifB at h
  simp only [Bool.and_eq_true, decide_eq_true_eq] at h
  obtain ⟨⟨va, vb⟩, hok, heq⟩ := h
  have a3 := (valOk_term va).2.2.1
  have b3 := (valOk_term vb).2.2.1
  have hσ : ∀ z, z < 0 → scan ss 1 ((fun z => if -12 ≤ z then ofB bb (-z - 1) else [-1]) z) = some [] := fun z hz => by
    simp only
    split
    · exact (valOk_term (ofB_ok hok (by omega) (by omega))).2.2.2
    · exact scan_neg (by omega)
  have e1 := appl_apV (ss := ss) bb a3
  have e2 := appl_apV (ss := ss) bb b3
  obtain ⟨⟨k, b, G, hu, _⟩, _, _⟩ := common_some (sh := 0) (by omega) va vb
  obtain ⟨e, _⟩ := unite_val (by omega) va vb hσ (e1.trans (heq.trans e2.symm)) hu
  refine ⟨by rw [hasZ_good va vb hu]; exact e, fun h0 => ?_⟩
  have hz : (appl bb za).length ≤ 60 := by
    unfold applZ at h0
    split at h0
    · split at h0
      · assumption
      · simp at h0
    · simp at h0
  have hz2 : applZ ss bb za = (appl bb za, 0) := by
    unfold applZ
    rw [if_pos (by simp [hok, va]), if_pos hz]
  have vc := appl_val hok va hz
  obtain ⟨h1, t, G2, h2, h3, h4, h5⟩ := common_val (by omega) va vb hσ e1 (e2.trans heq.symm) vc (comZ_good (by omega) va vb)
  have h12 := seen_few (t := t) (fun z hz => by
    by_cases hn : z < 0
    · obtain ⟨j, hj⟩ := h4 z hz hn
      rw [h5] at hj
      exact tops_zero va vb z (List.mem_of_getElem? hj)
    · omega)
  have h6 : comZ ss 0 za zb = (canon t, 0) := by
    rw [h2]; unfold formZ; rw [if_pos ⟨rfl, h12⟩]
  rcases h1 with h1 | ⟨h1, h7⟩
  · rw [h6] at h1; simp at h1
  · rw [hz2]; exact ⟨h1, h7⟩
end Go.Proofs.Ytojofbmpknpggaa
