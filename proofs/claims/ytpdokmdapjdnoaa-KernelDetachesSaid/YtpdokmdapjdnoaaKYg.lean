/- Names of variables do not matter where terms are detached: mathematics. -/
import Derived.Test.YtpdokmdapjdnoaaKOg
import Derived.Test.YtpdokmdapjdnoaaKQg
import Derived.Test.YtpdokmdapjdnoaaL3g
/- Detachment is most general: whatever binds make of the major's first part the minor, what they make of its second part is an instance of the detachment (mathematics, for KernelGeneral). -/
namespace Go.Proofs.Ytpdokmdapjdnoaa
open Go.RowKit

section
variable {ss : Sg}
theorem Shot.vb {zm zn A B : List Int} (h : Shot ss zm zn A B) : valOk ss B = true :=
  valOk_mk (valOk_sig h.vm) (by have := h.lens; omega) (fun x hx => (valOk_term h.vm).2.2.1 x (by rw [h.eq]; simp [hx])) h.sb
end

end Go.Proofs.Ytpdokmdapjdnoaa

/- The kernel's Detaches at any arguments. -/
namespace Go.Proofs.Ytpdokmdapjdnoaa
open Go.RowKit

/-- Whether there is a detachment. -/
def detB (ss : Sg) (zm zn : List Int) : Bool := if valOk ss zm = true ∧ zm.head? = some 0 then hasZ ss 12 (prt ss zm 1) zn else false

set_option maxRecDepth 100000 in
set_option maxHeartbeats 1000000 in
theorem kdetaches_all (As Am An : Option Addr) (ns cs nm cm nn cn : Nat) (ss : Sg) (zm zn : List Int) (w : World) (hs : SigAt w w.heap.size As ns ss) (hm : IntsAt w w.heap.size Am nm zm) (hn : IntsAt w w.heap.size An nn zn) (hc : nm ≤ cm) (hc2 : cm ≤ 9223372036854775807) :
    Calls Try.prog 38 #[.slice As ns cs, .slice Am nm cm, .slice An nn cn] w fun e w' => e = .returned (.bool (detB ss zm zn)) ∧ Below w.heap.size w w' := by
  by_cases h0 : valOk ss zm = true ∧ zm.head? = some 0
  · have := kdetaches_any As Am An ns cs nm cm nn cn ss zm zn w hs hm hn hc hc2 h0.1 h0.2
    unfold detB
    rw [if_pos h0]
    exact this
  · have hd : detB ss zm zn = false := by unfold detB; rw [if_neg h0]
    rw [hd]
    have hlm := hm.len
    obtain ⟨W1, hW1⟩ : ∃ W1, w.alloc (.cells #[.int .i64 0] 3) = W1 := ⟨_, rfl⟩
    have b1 : Below w.heap.size w W1 := by rw [← hW1]; exact bel_al0 _ _
    have i1 : IntsAt W1 W1.heap.size (some ⟨w.heap.size, 0, none⟩) 1 [0] := by rw [← hW1]; exact ints_var w 0
    have C1 := Lib.hid (at_any As Am (some ⟨w.heap.size, 0, none⟩) ns cs nm cm 1 1 ss zm [0] W1 (hs.up b1) (hm.up b1) i1 hc hc2 (by omega))
    have HAT := Lib.hid (fun (e : (atR ss zm [0]).2 = 0) => show zm.head? ≠ some 0 ∧ 1 ≤ nm from by
      have hv : valOk ss zm = true := by
        cases hv : valOk ss zm
        · unfold atR at e
          rw [if_pos hv] at e
          cases e
        · rfl
      exact ⟨fun h => h0 ⟨hv, h⟩, by rw [hlm]; exact (valOk_term hv).1⟩)
    obtain ⟨R, hR⟩ : ∃ R, atR ss zm [0] = R := ⟨_, rfl⟩
    rw [hR] at C1 HAT
    rw [← hW1] at C1
    rw [← hW1] at b1
    obtain ⟨a, er⟩ := R
    simp only at C1 HAT
    have HB1 := Lib.hid b1
    have C2 := Lib.hid (fun (h1 : 1 ≤ nm) V (h : Below w.heap.size w V) => ksays_any Am nm cm zm V (hm.up h) h1)
    by_cases he : er = 0
    · subst he
      obtain ⟨q1, q2⟩ := HAT.out rfl
      have C3 := Lib.hid (fun V (h : Below w.heap.size w V) => (C2.out q2 V h).mono (R' := fun e w' => e = .returned (.bool false) ∧ Below V.heap.size V w') fun e w' h => by rw [decide_eq_false q1] at h; exact h)
      clear hs hm hn b1 i1 hW1 hlm h0 hd hR C2 HAT q1 q2
      go_enter Try.func38, Try.ntmps38
      go_wp2_with (first
        | (go_at_call 86; refine C1.out.mono ?_; rintro e w1 ⟨A, n, c, rfl, hI1, hB1⟩; have HI1 := Lib.hid hI1; have HB2 := Lib.hid (below_then HB1.out hB1); clear hI1 hB1)
        | (go_at_call 82; refine (C3.out _ HB2.out).mono ?_; rintro e w2 ⟨rfl, hB3⟩; have HB3 := Lib.hid (below_then HB2.out hB3); clear hB3))
      go_ret
      exact ⟨rfl, HB3.out⟩
    · have he1 : (er == 0) = false := by simpa using he
      clear hs hm hn b1 i1 hW1 hlm h0 hd hR C2 HAT
      go_enter Try.func38, Try.ntmps38
      go_wp2_with (go_at_call 86; refine C1.out.mono ?_; rintro e w1 ⟨A, n, c, rfl, hI1, hB1⟩; have HI1 := Lib.hid hI1; have HB2 := Lib.hid (below_then HB1.out hB1); clear hI1 hB1)
      go_ret
      exact ⟨rfl, HB2.out⟩

end Go.Proofs.Ytpdokmdapjdnoaa

namespace Go.Proofs.Ytpdokmdapjdnoaa
open Go.RowKit

theorem apN_apV (σ : Nat → List Int) {t : List Int} (ht : ∀ z ∈ t, -12 ≤ z) : apN σ t = apV (fun z => if -12 ≤ z then σ (-z - 1).toNat else [-1]) t := by
  unfold apN apV
  refine flat_same fun z hz => ?_
  by_cases hn : z < 0
  · rw [if_pos hn, if_pos hn]
    exact (if_pos (ht z hz)).symm
  · rw [if_neg hn, if_neg hn]

section
variable {ss : Sg}
theorem ins_val {a b : List Int} (h : insB ss a b = true) : ∃ σ : Int → List Int, GoodV ss σ ∧ apV σ a = b := by
  obtain ⟨σ, s1, s2⟩ := ins_out h
  obtain ⟨va, vb⟩ := ins_valid h
  refine ⟨fun z => if -12 ≤ z then σ (-z - 1).toNat else [-1], fun z hz => ?_, (apN_apV σ (fun z hz => ((valOk_term va).2.2.1 z hz).1)).symm.trans s2⟩
  show scan ss 1 (if -12 ≤ z then σ (-z - 1).toNat else [-1]) = some []
  split
  · exact (valOk_term (s1 _ (by omega))).2.2.2
  · exact scan_neg (by omega)
/-- Where instances are detached, the raw detachment is an instance, too. -/
theorem det_fac {zM zN zm zn A B A' B' : List Int} {fL fK : Int → List Int} (gL : GoodV ss fL) (gK : GoodV ss fK) (sH : Shot ss zM zN A' B') (sh : Shot ss zm zn A B) (hm : apV fL zM = zm) (hn : apV fK zN = zn) (hhas : hasZ ss 12 A zn = true) :
    hasZ ss 12 A' zN = true ∧ ∃ μ, GoodV ss μ ∧ apV μ (nuK ss zM zN (1 + A'.length)) = nuK ss zm zn (1 + A.length) := by
  obtain ⟨σ0, g0, s0⟩ := sh.meets.1 hhas
  have F := sh.fit g0 s0
  obtain ⟨τ, gτ, t1, t2⟩ := F.own
  have vM := sH.vm
  have vN := sH.vn
  obtain ⟨μ, hμ⟩ : ∃ μ : Int → List Int, (fun z => if -12 ≤ z then apV τ (fL z) else apV (sft τ 12) (fK (z + 12))) = μ := ⟨_, rfl⟩
  have gs : GoodV ss (sft τ 12) := fun z hz => gτ _ (by omega)
  have gμ : GoodV ss μ := fun z hz => by
    rw [← hμ]
    simp only
    split
    · exact scan_apV gτ _ 1 [] (gL z hz)
    · exact scan_apV gs _ 1 [] (gK _ (by omega))
  have m1 : ∀ t, (∀ z ∈ t, -12 ≤ z) → apV μ t = apV τ (apV fL t) := fun t ht => by
    rw [apV_flat]
    refine apV_cong fun z hz hz0 => ?_
    rw [← hμ]
    simp only
    rw [if_pos (ht z hz)]
  have hN12 : ∀ z ∈ zN, -12 ≤ z := fun z hz => ((valOk_term vN).2.2.1 z hz).1
  have m2 : apV μ (zN.map shv) = apV τ (zn.map shv) := by
    rw [apV_shv, apV_shv, ← hn, apV_flat]
    refine apV_cong fun z hz hz0 => ?_
    rw [← hμ]
    unfold sft
    simp only
    rw [if_neg (by omega), show z - 12 + 12 = z by omega]
  have hM12 : ∀ z ∈ zM, -12 ≤ z := fun z hz => ((valOk_term vM).2.2.1 z hz).1
  have hA12 : ∀ z ∈ A', -12 ≤ z := fun z hz => hM12 z (by rw [sH.eq]; simp [hz])
  have hB12 : ∀ z ∈ B', -12 ≤ z := fun z hz => hM12 z (by rw [sH.eq]; simp [hz])
  have hsplit : apV fL A' = A ∧ apV fL B' = B := by
    have h1 := hm
    rw [sH.eq, sh.eq] at h1
    rw [show (0 : Int) :: (A' ++ B') = [0] ++ (A' ++ B') from rfl, apV_append, apV_append, apV_one, if_neg (by omega)] at h1
    have h2 : apV fL A' ++ apV fL B' = A ++ B := by
      have := h1
      simp only [List.cons_append, List.nil_append, List.cons.injEq, true_and] at this
      exact this
    exact scan_cancel (scan_apV gL _ 1 [] sH.sa) sh.sa h2
  have hμA : apV μ A' = apV μ (zN.map shv) := by rw [m1 _ hA12, hsplit.1, t1, m2]
  have hhas' := sH.meets.2 μ gμ hμA
  have F' := sH.fit gμ hμA
  exact ⟨hhas', μ, gμ, by rw [F'.gen μ gμ hμA, m1 _ hB12, hsplit.2, t2]⟩

theorem apV_keep {σ : Int → List Int} : ∀ {u : List Int}, (∀ z ∈ u, z < 0 → 1 ≤ (σ z).length) → (apV σ u).length = u.length → ∀ z ∈ u, z < 0 → (σ z).length = 1
  | [], _, _, z, hz, _ => by cases hz
  | x :: u, h, hl, z, hz, hn => by
    rw [show x :: u = [x] ++ u from rfl, apV_append, apV_one, List.length_append, List.length_append, List.length_singleton] at hl
    have l1 := apV_len (ρ := σ) (u := u) (fun y hy => h y (by simp [hy]))
    by_cases hx : x < 0
    · rw [if_pos hx] at hl
      have h2 := h x (by simp) hx
      rcases List.mem_cons.1 hz with rfl | hz
      · omega
      · exact apV_keep (fun y hy => h y (by simp [hy])) (by omega) z hz hn
    · rw [if_neg hx, List.length_singleton] at hl
      rcases List.mem_cons.1 hz with rfl | hz
      · omega
      · exact apV_keep (fun y hy => h y (by simp [hy])) (by omega) z hz hn
theorem scan_lenY {x : List Int} (h : scan ss 1 x = some []) : 1 ≤ x.length := by
  cases x with
  | nil => cases h
  | cons a r => simp
/-- Lists that become each other differ by names of variables alone. -/
theorem apV_both {a b : List Int} {σ τ : Int → List Int} (gσ : GoodV ss σ) (gτ : GoodV ss τ) (h1 : apV σ a = b) (h2 : apV τ b = a) : canon a = canon b ∧ (seenA a).length = (seenA b).length := by
  have k1 := apV_len (ρ := σ) (u := a) (fun z _ hn => scan_lenY (gσ z hn))
  have k2 := apV_len (ρ := τ) (u := b) (fun z _ hn => scan_lenY (gτ z hn))
  rw [h1] at k1
  rw [h2] at k2
  have key {u v : List Int} {ρ : Int → List Int} (gρ : GoodV ss ρ) (h : apV ρ u = v) (hl : v.length = u.length) : ∃ f : Int → Int, u.map f = v ∧ ∀ z ∈ u, 0 ≤ z → f z = z := by
    refine ⟨fun z => if z < 0 then (ρ z).headD 0 else z, ?_, fun z _ hz => if_neg (by omega)⟩
    have hk := apV_keep (σ := ρ) (u := u) (fun z _ hn => scan_lenY (gρ z hn)) (by rw [h]; exact hl)
    rw [← h]
    refine (apV_map fun z hz => ?_).symm
    by_cases hn : z < 0
    · rw [if_pos hn, if_pos hn]
      have := hk z hz hn
      cases e : ρ z with
      | nil => rw [e] at this; simp at this
      | cons x r =>
        rw [e] at this
        simp at this
        rw [this]; rfl
    · rw [if_neg hn, if_neg hn]
  obtain ⟨f, f1, f2⟩ := key gσ h1 (by omega)
  obtain ⟨g, g1, g2⟩ := key gτ h2 (by omega)
  have hgf : ∀ z ∈ a, g (f z) = z := by
    have : a.map (g ∘ f) = a.map id := by rw [List.map_id, ← List.map_map, f1, g1]
    intro z hz
    exact (List.map_inj_left.1 this) z hz
  have hfb : ∀ z ∈ a, f z ∈ b := fun z hz => by rw [← f1]; exact List.mem_map_of_mem hz
  have hneg : ∀ z ∈ a, z < 0 → f z < 0 := fun z hz hn => by
    rcases Int.lt_or_le (f z) 0 with h | h
    · exact h
    · have := hgf z hz
      rw [g2 _ (hfb z hz) h] at this
      omega
  have hinj : ∀ x ∈ a, ∀ z ∈ a, f x = f z → x = z := fun x hx z hz e => by rw [← hgf x hx, ← hgf z hz, e]
  have := canonL_map (S := a) hneg f2 hinj a [] (fun _ h => h) (fun x hx => by simp at hx)
  rw [List.map_nil, f1] at this
  refine ⟨this.symm, ?_⟩
  have hseen : ∀ (l s : List Int), (∀ z ∈ l, z ∈ a) → (∀ z ∈ s, z ∈ a) → (l.map f).foldl addSeen (s.map f) = (l.foldl addSeen s).map f := by
    intro l
    induction l with
    | nil => intro s _ _; rfl
    | cons x l ih =>
      intro s hl hs
      rw [List.map_cons, List.foldl_cons, List.foldl_cons, addSeen_map (f := f) (hneg x (hl x (by simp))) (f2 x (hl x (by simp))) (fun y hy _ e => (hinj x (hl x (by simp)) y (hs y hy) e.symm ▸ rfl))]
      refine ih _ (fun z hz => hl z (by simp [hz])) (fun z hz => ?_)
      unfold addSeen at hz
      split at hz
      · exact hs z hz
      · split at hz
        · exact hs z hz
        · rcases List.mem_append.1 hz with hz | hz
          · exact hs z hz
          · rw [List.mem_singleton.1 hz]; exact hl x (by simp)
  have e := hseen a [] (fun _ h => h) (fun x hx => by simp at hx)
  rw [List.map_nil, f1] at e
  unfold seenA
  rw [e, List.length_map]
end

theorem canon_head (ss : Sg) {z : List Int} (h : valOk ss z = true) : (canon z).head? = some 0 ↔ z.head? = some 0 := by
  have h1 := (valOk_term h).1
  cases z with
  | nil => simp at h1
  | cons x r =>
    rw [canon_apV]
    rw [show x :: r = [x] ++ r from rfl, apV_append, apV_one]
    by_cases hn : x < 0
    · rw [if_pos hn]
      have := cnum_neg (seenTo ([x] ++ r) ([x] ++ r).length) x
      obtain ⟨c, hc⟩ : ∃ c, cnum (seenTo ([x] ++ r) ([x] ++ r).length) x = c := ⟨_, rfl⟩
      rw [hc] at this ⊢
      simp only [List.singleton_append, List.head?_cons, Option.some.injEq]
      constructor <;> intro h <;> omega
    · rw [if_neg hn]; rfl
/-- Names of variables do not matter. -/
theorem det_canon {ss : Sg} {zm zn : List Int} (vm : valOk ss zm = true) (vn : valOk ss zn = true) (vm' : valOk ss (canon zm) = true) (vn' : valOk ss (canon zn) = true) : detZ ss (canon zm) (canon zn) = detZ ss zm zn := by
  by_cases hh : zm.head? = some 0
  · have hh' := (canon_head ss vm).2 hh
    obtain ⟨B, sh⟩ := shot_of vm vn hh
    obtain ⟨B', sh'⟩ := shot_of vm' vn' hh'
    obtain ⟨f1, g1, e1⟩ := ins_val (canon_ins vm vm' (canon_canon zm).symm)
    obtain ⟨f2, g2, e2⟩ := ins_val (canon_ins vn vn' (canon_canon zn).symm)
    obtain ⟨f3, g3, e3⟩ := ins_val (canon_ins vm' vm (canon_canon zm))
    obtain ⟨f4, g4, e4⟩ := ins_val (canon_ins vn' vn (canon_canon zn))
    cases h1 : hasZ ss 12 (prt ss zm 1) zn
    · have h2 : hasZ ss 12 (prt ss (canon zm) 1) (canon zn) = false := by
        cases h2 : hasZ ss 12 (prt ss (canon zm) 1) (canon zn)
        · rfl
        · have := (det_fac g1 g2 sh sh' e1 e2 h2).1
          rw [h1] at this
          cases this
      unfold detZ
      rw [if_pos (show (valOk ss zm && valOk ss zn) = true by rw [vm, vn]; rfl), if_pos (show (valOk ss (canon zm) && valOk ss (canon zn)) = true by rw [vm', vn']; rfl), if_pos hh, if_pos hh', if_neg (show ¬ (hasZ ss 12 (prt ss zm 1) zn = true) by rw [h1]; simp), if_neg (show ¬ (hasZ ss 12 (prt ss (canon zm) 1) (canon zn) = true) by rw [h2]; simp)]
    · obtain ⟨h2, μ, gμ, eμ⟩ := det_fac g3 g4 sh' sh e3 e4 h1
      obtain ⟨_, μ', gμ', eμ'⟩ := det_fac g1 g2 sh sh' e1 e2 h2
      obtain ⟨ec, el⟩ := apV_both gμ gμ' eμ eμ'
      have hlen : (nuK ss (canon zm) (canon zn) (1 + (prt ss (canon zm) 1).length)).length = (nuK ss zm zn (1 + (prt ss zm 1).length)).length := by
        rw [← canon_length, ec, canon_length]
      have hraw : RawOk (nuK ss (canon zm) (canon zn) (1 + (prt ss (canon zm) 1).length)) ↔ RawOk (nuK ss zm zn (1 + (prt ss zm 1).length)) := by
        unfold RawOk
        rw [hlen, el]
      unfold detZ
      rw [if_pos (show (valOk ss zm && valOk ss zn) = true by rw [vm, vn]; rfl), if_pos (show (valOk ss (canon zm) && valOk ss (canon zn)) = true by rw [vm', vn']; rfl), if_pos hh, if_pos hh', if_pos h1, if_pos h2, sh.bh, sh'.bh, ec]
      by_cases hr : RawOk (nuK ss zm zn (1 + (prt ss zm 1).length))
      · rw [if_pos hr, if_pos (hraw.2 hr)]
      · rw [if_neg hr, if_neg (fun h => hr (hraw.1 h))]
  · have hh' : (canon zm).head? ≠ some 0 := fun h => hh ((canon_head ss vm).1 h)
    unfold detZ
    rw [if_pos (show (valOk ss zm && valOk ss zn) = true by rw [vm, vn]; rfl), if_pos (show (valOk ss (canon zm) && valOk ss (canon zn)) = true by rw [vm', vn']; rfl), if_neg hh, if_neg hh']

end Go.Proofs.Ytpdokmdapjdnoaa
