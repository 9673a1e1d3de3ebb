/- Meets and joins absorb each other: the plain mathematics. -/
import Derived.Test.YtlciaecclcckbaaZEg
import Derived.Test.YtlciaecclcckbaaN35g
import Derived.Test.YtlciaecclcckbaaL0g
/- Meets: the plain mathematics. -/
namespace Go.Proofs.Ytlciaecclcckbaa
open Go.RowKit

section
variable {ss : Sg} {za zb : List Int} {σ : Int → List Int}
theorem canon_valid {U : List Int} (hsg : sigOk ss = true) (hs : scan ss 1 U = some []) (hh : HeadsOk ss U) (h60 : U.length ≤ 60) (h12 : (seenTo U U.length).length ≤ 12) : valOk ss (canon U) = true := by
  have hsc := canon_scan hs
  simp only [valOk, termOk, Bool.and_eq_true, decide_eq_true_eq, List.all_eq_true, numOk]
  refine ⟨hsg, scan_len hsc, by rw [canon_length]; omega, fun z hz => ?_, hsc⟩
  rw [canon_map] at hz
  obtain ⟨y, hy, rfl⟩ := List.mem_map.1 hz
  by_cases hn : y < 0
  · rw [if_pos hn]
    have h1 := List.idxOf_lt_length_of_mem (seen_all hy hn)
    have h2 := (sigOk_len hsg).1
    unfold cnum
    omega
  · rw [if_neg hn]
    have := hh y hy
    omega
/-- The canonical form is what a renaming makes. -/
theorem canon_apV (U : List Int) : canon U = apV (fun z => [cnum (seenTo U U.length) z]) U := by
  rw [canon_map]
  refine (apV_map fun z _ => ?_).symm
  by_cases hn : z < 0
  · rw [if_pos hn, if_pos hn]
  · rw [if_neg hn, if_neg hn]
theorem goodV_comp {τ : Int → List Int} (hσ : GoodV ss σ) (hτ : GoodV ss τ) : GoodV ss (fun z => apV τ (σ z)) := fun z hz => scan_apV hτ _ 1 [] (hσ z hz)
theorem ins_apV {sh : Int} {c : List Int} (h0 : 0 ≤ sh) (ha : valOk ss za = true) (hc : valOk ss c = true) (hσ : GoodV ss σ) (h : apV (sft σ sh) za = c) : insB ss za c = true := by
  refine ins_in (σ := fun v => sft σ sh (-(v : Int) - 1)) ha hc (fun v _ => hσ _ (by omega)) ?_
  rw [← h]
  unfold apN apV
  refine flat_same fun z _ => ?_
  by_cases hn : z < 0
  · rw [if_pos hn, if_pos hn]
    show sft σ sh (-(((-z - 1).toNat : Nat) : Int) - 1) = sft σ sh z
    rw [show -(((-z - 1).toNat : Nat) : Int) - 1 = z by omega]
  · rw [if_neg hn, if_neg hn]
theorem ins_canonV {sh : Int} {U : List Int} (h0 : 0 ≤ sh) (ha : valOk ss za = true) (hc : valOk ss (canon U) = true) (hσ : GoodV ss σ) (h : apV (sft σ sh) za = U) : insB ss za (canon U) = true := by
  refine ins_apV (σ := fun z => apV (fun z => [cnum (seenTo U U.length) z]) (σ z)) h0 ha hc (goodV_comp hσ fun z _ => scan_neg (cnum_neg _ _)) ?_
  rw [canon_apV, ← h, apV_flat]
  rfl
/-- The variables of both terms exchanged. -/
def swpV (σ : Int → List Int) (z : Int) : List Int := if -12 ≤ z then σ (z - 12) else σ (z + 12)
theorem swp_good (h : GoodV ss σ) : GoodV ss (swpV σ) := fun z hz => by
  unfold swpV
  split
  · exact h _ (by omega)
  · exact h _ (by omega)
theorem swp_one (h : ∀ z ∈ zb, -12 ≤ z) : apV (sft (swpV σ) 0) zb = apV (sft σ 12) zb := by
  unfold apV
  refine flat_same fun z hz => ?_
  have := h z hz
  unfold sft swpV
  rw [Int.sub_zero, if_pos (show -12 ≤ z from this)]
theorem swp_two (h : ∀ z ∈ za, -12 ≤ z) : apV (sft (swpV σ) 12) za = apV (sft σ 0) za := by
  unfold apV
  refine flat_same fun z hz => ?_
  by_cases hn : z < 0
  · rw [if_pos hn, if_pos hn]
    unfold sft swpV
    rw [Int.sub_zero, if_neg (by omega), show z - 12 + 12 = z by omega]
  · rw [if_neg hn, if_neg hn]
theorem meet_swap (ha : valOk ss za = true) (hb : valOk ss zb = true) : comZ ss 12 zb za = comZ ss 12 za zb ∧ hasZ ss 12 zb za = hasZ ss 12 za zb := by
  have a12 : ∀ z ∈ za, -12 ≤ z := fun z hz => ((valOk_term ha).2.2.1 z hz).1
  have b12 : ∀ z ∈ zb, -12 ≤ z := fun z hz => ((valOk_term hb).2.2.1 z hz).1
  rcases com_is (sh := 12) (by omega) ha hb with ⟨h1, h2, h3⟩ | ⟨h1, U, σ, s1, s2, s3, s4, s5, s6, s7⟩
  · rcases com_is (sh := 12) (by omega) hb ha with ⟨k1, k2, _⟩ | ⟨_, V, τ, t1, t2, t3, _⟩
    · rw [h1, h2, k1, k2]; exact ⟨rfl, rfl⟩
    · refine absurd ?_ (h3 _ (swp_good t1))
      rw [swp_one a12, swp_two b12, t3, t2]
  · rcases com_is (sh := 12) (by omega) hb ha with ⟨_, _, k3⟩ | ⟨k1, V, τ, t1, t2, t3, t4, t5, t6, t7⟩
    · refine absurd ?_ (k3 _ (swp_good s1))
      rw [swp_one b12, swp_two a12, s3, s2]
    · have e1 := s7 _ (swp_good t1) (by rw [swp_one a12, swp_two b12, t3, t2])
      rw [swp_one a12, t3] at e1
      have e2 := t7 _ (swp_good s1) (by rw [swp_one b12, swp_two a12, s3, s2])
      rw [swp_one b12, s3] at e2
      have hal := alike_of (swp_good s1) (swp_good t1) e1 e2
      refine ⟨?_, by rw [h1, k1]⟩
      rw [s4, t4, hal.1]
      by_cases h60 : U.length ≤ 60
      · rw [decide_eq_true h60, form_alike hal]
      · rw [decide_eq_false h60]
        unfold formZ
        rw [if_neg (fun h => by cases h.1), if_neg (fun h => by cases h.1)]
/-- Where there is a meet, it is valid, and an instance of both. -/
theorem com_ok {sh : Int} (hsh : 0 ≤ sh ∧ sh ≤ 1000) (ha : valOk ss za = true) (hb : valOk ss zb = true) (h0 : (comZ ss sh za zb).2 = 0) : ∃ U σ, GoodV ss σ ∧ apV (sft σ 0) za = U ∧ apV (sft σ sh) zb = U ∧ (comZ ss sh za zb).1 = canon U ∧ valOk ss (canon U) = true ∧
    ∀ τ, GoodV ss τ → apV (sft τ 0) za = apV (sft τ sh) zb → apV τ U = apV (sft τ 0) za := by
  rcases com_is hsh ha hb with ⟨_, h2, _⟩ | ⟨_, U, σ, s1, s2, s3, s4, s5, s6, s7⟩
  · rw [h2] at h0; cases h0
  · rw [s4] at h0
    unfold formZ at h0
    split at h0
    · rename_i hc
      refine ⟨U, σ, s1, s2, s3, ?_, canon_valid (valOk_sig ha) s5 s6 (of_decide_eq_true hc.1) hc.2, s7⟩
      rw [s4]
      unfold formZ
      rw [if_pos hc]
    · cases h0
theorem meet_ins (ha : valOk ss za = true) (hb : valOk ss zb = true) (h0 : (comZ ss 12 za zb).2 = 0) : valOk ss (comZ ss 12 za zb).1 = true ∧ insB ss za (comZ ss 12 za zb).1 = true ∧ insB ss zb (comZ ss 12 za zb).1 = true := by
  obtain ⟨U, σ, s1, s2, s3, s4, s5, _⟩ := com_ok (by omega) ha hb h0
  rw [s4]
  exact ⟨s5, ins_canonV (by omega) ha s5 s1 s2, ins_canonV (by omega) hb s5 s1 s3⟩
theorem sft_good {sh : Int} (h0 : 0 ≤ sh) (h : GoodV ss σ) : GoodV ss (sft σ sh) := fun z hz => h _ (by omega)
/-- What is an instance is alike the meet. -/
theorem meet_inst (h : insB ss za zb = true) : (comZ ss 12 za zb).2 = 0 ∧ (comZ ss 12 za zb).1 = canon zb := by
  obtain ⟨ha, hb⟩ := ins_valid h
  obtain ⟨τ, t1, t2, t3⟩ := ins_apart h (by rw [ins_refl]; exact hb)
  rcases com_is (sh := 12) (by omega) ha hb with ⟨_, _, h3⟩ | ⟨_, U, σ, s1, s2, s3, s4, s5, s6, s7⟩
  · exact absurd (t2.trans t3.symm) (h3 τ t1)
  · have e := s7 τ t1 (t2.trans t3.symm)
    rw [t2] at e
    have hal := alike_of (sft_good (sh := 12) (by omega) s1) t1 e s3
    have h60 := (valOk_term hb).2.1
    have h12 := seen_few fun z hz => ((valOk_term hb).2.2.1 z hz).1
    rw [s4, decide_eq_true (by omega), form_alike hal]
    unfold formZ
    rw [if_pos ⟨rfl, h12⟩]
    exact ⟨rfl, rfl⟩
theorem meet_not (h0 : (comZ ss 12 za zb).2 ≠ 0) : insB ss za zb = false := by
  cases h : insB ss za zb with
  | false => rfl
  | true => exact absurd (meet_inst h).1 h0
theorem termOk_of (h : valOk ss zb = true) : termOk ss zb = true := by
  simp only [valOk, Bool.and_eq_true] at h
  exact h.2
theorem meet_alike (ha : valOk ss za = true) (hb : valOk ss zb = true) (h0 : (comZ ss 12 za zb).2 = 0) : insB ss za zb = alikeOk ss (comZ ss 12 za zb).1 zb := by
  obtain ⟨v, i1, _⟩ := meet_ins ha hb h0
  cases h : insB ss za zb with
  | true =>
    have e := (meet_inst h).2
    rw [e] at v ⊢
    simp [alikeOk, v, termOk_of hb, canon_canon]
  | false =>
    cases h2 : alikeOk ss (comZ ss 12 za zb).1 zb with
    | false => rfl
    | true =>
      simp only [alikeOk, Bool.and_eq_true, decide_eq_true_eq] at h2
      have := ins_trans i1 (canon_ins v hb h2.2.2)
      rw [h] at this
      cases this
end

end Go.Proofs.Ytlciaecclcckbaa

namespace Go.Proofs.Ytlciaecclcckbaa
open Go.RowKit

section
variable {ss : Sg} {za zb : List Int}
theorem nodup_leT : ∀ (l m : List Two), l.Nodup → (∀ x ∈ l, x ∈ m) → l.length ≤ m.length
  | [], m, _, _ => Nat.zero_le _
  | x :: l, m, hn, h => by
    rw [List.nodup_cons] at hn
    have hx := h x (List.mem_cons_self ..)
    have := nodup_leT l (m.erase x) hn.2 fun y hy => (List.mem_erase_of_ne (fun e : y = x => hn.1 (by rw [← e]; exact hy))).2 (h y (List.mem_cons_of_mem _ hy))
    rw [List.length_erase_of_mem hx] at this
    have := List.length_pos_of_mem hx
    simp only [List.length_cons]
    omega
theorem meet1_nodup {met : List Two} {x : Two} (h : met.Nodup) : (meet1 met x).Nodup := by
  unfold meet1
  split
  · exact h
  · rename_i hc
    rw [List.nodup_append]
    refine ⟨h, by simp, fun a ha b hb e => ?_⟩
    rw [List.mem_singleton] at hb
    subst hb
    subst e
    exact hc (List.contains_iff_mem.2 ha)
/-- The pairs that are met where the second one is an instance of the first. -/
theorem comF_inst {σ : Nat → List Int} (hσ : ∀ v, v < 12 → scan ss 1 (σ v) = some []) {a b : List Int} (h : Jnt ss a b) : ∀ (f : Nat) (met : List Two), a.length ≤ f → (∀ z ∈ a, -12 ≤ z) → apN σ a = b → met.Nodup → (∀ e ∈ met, ∃ v : Nat, v < 12 ∧ e = ([-(v : Int) - 1], σ v)) →
    (comF ss f a b met).2.Nodup ∧ ∀ e ∈ (comF ss f a b met).2, ∃ v : Nat, v < 12 ∧ e = ([-(v : Int) - 1], σ v) := by
  induction h with
  | nil =>
    intro f met _ _ _ hn hm
    cases f with
    | zero => exact ⟨hn, hm⟩
    | succ f => exact ⟨hn, hm⟩
  | same x a b h0 hj ih =>
    intro f met hf hz he hn hm
    cases f with
    | zero => simp at hf
    | succ f =>
      rw [comF_same a b met h0]
      rw [apN_cons, if_neg (by omega)] at he
      exact ih f met (by simpa using hf) (fun z hz' => hz z (List.mem_cons_of_mem _ hz')) (List.cons.inj he).2 hn hm
  | part x p q a b hp hq hd hj ih =>
    intro f met hf hz he hn hm
    cases f with
    | zero => simp at hf
    | succ f =>
      rw [comF_part a b met hp hq hd]
      have hx12 := hz x (List.mem_cons_self ..)
      rw [apN_cons] at he
      by_cases hx : x < 0
      · rw [if_pos hx] at he
        have hp0 : p = [] := by
          simp only [scan, arOf_neg ss hx, Nat.add_zero, scan_zero] at hp
          exact Option.some.inj hp
        subst hp0
        rw [List.nil_append] at he
        obtain ⟨e1, e2⟩ := scan_cancel (hσ _ (by omega)) hq he
        refine ih f _ (by simp at hf; omega) (fun z hz' => hz z (List.mem_cons_of_mem _ (by simpa using hz'))) e2 (meet1_nodup hn) (fun e he => ?_)
        unfold meet1 at he
        split at he
        · exact hm e he
        · rcases List.mem_append.1 he with he | he
          · exact hm e he
          · rw [List.mem_singleton] at he
            refine ⟨(-x - 1).toNat, by omega, ?_⟩
            rw [he, e1, show -(((-x - 1).toNat : Nat) : Int) - 1 = x by omega]
      · rw [if_neg hx] at he
        refine absurd ⟨by omega, ?_⟩ hd
        cases q with
        | nil => cases hq
        | cons y q =>
          have := (List.cons.inj he).1
          rw [this]
          rfl
/-- Where a term is an instance of another one, there is a join. -/
theorem join_free (h : insB ss za zb = true) : (joinZ ss za zb).2 = 0 := by
  obtain ⟨ha, hb⟩ := ins_valid h
  obtain ⟨σ, s1, s2⟩ := ins_out h
  obtain ⟨h1, h2⟩ := comF_inst (σ := σ) (fun v hv => (valOk_term (s1 v hv)).2.2.2) (jnt_valid ha hb) za.length [] (Nat.le_refl _) (fun z hz => ((valOk_term ha).2.2.1 z hz).1) s2 List.nodup_nil (fun e he => by simp at he)
  have hl := nodup_leT _ ((List.range 12).map fun v : Nat => ([-(v : Int) - 1], σ v)) h1 (fun e he => by
    obtain ⟨v, hv, rfl⟩ := h2 e he
    exact List.mem_map.2 ⟨v, List.mem_range.2 hv, rfl⟩)
  rw [List.length_map, List.length_range] at hl
  unfold joinZ
  rw [if_pos hl]
theorem joZ_good (ha : valOk ss za = true) (hb : valOk ss zb = true) : joZ ss za zb = joinZ ss za zb := by
  unfold joZ; rw [if_pos (by simp [ha, hb])]
/-- A term joined with its meet with another one is alike itself. -/
theorem absorb_one (ha : valOk ss za = true) (hb : valOk ss zb = true) (h : (comZ ss 12 za zb).2 = 0) : (joZ ss za (comZ ss 12 za zb).1).2 = 0 ∧ alikeOk ss (joZ ss za (comZ ss 12 za zb).1).1 za = true := by
  obtain ⟨v, i1, _⟩ := meet_ins ha hb h
  have h0 := join_free i1
  rw [joZ_good ha v]
  exact ⟨h0, by rw [← join_alike ha v h0]; exact i1⟩
/-- A term's meet with its join with another one is alike it. -/
theorem absorb_two (ha : valOk ss za = true) (hb : valOk ss zb = true) (h : (joZ ss za zb).2 = 0) : (comZ ss 12 za (joZ ss za zb).1).2 = 0 ∧ alikeOk ss (comZ ss 12 za (joZ ss za zb).1).1 za = true := by
  rw [joZ_good ha hb] at h ⊢
  have v := join_valid ha hb h
  obtain ⟨i1, _⟩ := join_ins ha hb h
  obtain ⟨m1, m2⟩ := meet_inst i1
  rw [(meet_swap v ha).1, m1, m2]
  refine ⟨rfl, ?_⟩
  have hc : valOk ss (canon za) = true := by
    have := (meet_ins v ha m1).1
    rwa [m2] at this
  simp [alikeOk, hc, termOk_of ha, canon_canon]
end

end Go.Proofs.Ytlciaecclcckbaa
