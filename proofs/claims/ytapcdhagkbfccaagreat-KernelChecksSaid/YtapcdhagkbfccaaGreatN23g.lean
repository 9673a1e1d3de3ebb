/- Contracts: the reference's Match, Instance. -/
import Derived.Test.YtapcdhagkbfccaaGreatN20g
import Derived.Test.YtapcdhagkbfccaaGreatN24g
/- Contract: the reference's matched. -/
namespace Go.Proofs.YtapcdhagkbfccaaGreat
open Go.RowKit
attribute [local go_sem] eql_nil0 eql_nil1 neq_nil0 neq_nil1

/-- What matched hands back, and leaves in the block. -/
def RetD (w : World) (d : Nat) (R : Option (List (List Int) × List Int)) (e : Ending) (w' : World) : Prop :=
  KeepE (fun b => b < w.heap.size ∧ b ≠ d) w w' ∧ match R with
  | none => e = .returned (.bool false)
  | some r => e = .returned (.bool true) ∧ ImsAt w' d r.1
theorem KeepE.old {w w' : World} {d : Nat} (h : Below w.heap.size w w') : KeepE (fun b => b < w.heap.size ∧ b ≠ d) w w' := KeepE.of_below h (fun _ h => h.1)
theorem KeepE.next {w w1 w2 : World} {d : Nat} (h : KeepE (fun b => b < w.heap.size ∧ b ≠ d) w w1) (k : KeepE (fun b => b < w1.heap.size ∧ b ≠ d) w1 w2) : KeepE (fun b => b < w.heap.size ∧ b ≠ d) w w2 := h.trans (k.mono fun _ hb => ⟨Nat.lt_of_lt_of_le hb.1 h.size, hb.2⟩)
theorem KeepE.put {w w' : World} {d j : Nat} {u : Value} (h : KeepE (fun b => b < w.heap.size ∧ b ≠ d) w w') : KeepE (fun b => b < w.heap.size ∧ b ≠ d) w (w'.setCell ⟨d, j, none⟩ u) := h.trans (KeepE.set (p := ⟨d, j, none⟩) (fun h => h.2 rfl) u)
theorem KeepE.low {w w' : World} {d : Nat} (h : KeepE (fun b => b < w.heap.size ∧ b ≠ d) w w') (hd : d ≤ w.heap.size) : Below d w w' := h.below (fun b hb => ⟨by omega, by omega⟩)
theorem but_cell {w : World} {d n k : Nat} {A : Option Addr} {zs : List Int} (h : IntsBut w (some d) A n zs) (hk : k < n) : ∃ b off, A = some ⟨b, off, none⟩ ∧ b < w.heap.size ∧ b ≠ d ∧ ∃ z, zs[k]? = some z ∧ w.cell? ⟨b, off + k, none⟩ = some (.int .i64 z) := by
  obtain ⟨b, off, e, hb, hne, hc⟩ := h.mem (by omega)
  have hk' : k < zs.length := by rw [← h.len]; exact hk
  exact ⟨b, off, e, hb, fun e => hne (by rw [e]), zs[k], List.getElem?_eq_getElem hk', hc k hk'⟩
theorem prt_cons {ss : Sg} {zs P : List Int} {a : Nat} (h : PrtIs ss zs a P) (ha : a < zs.length) : ∃ p, P = zs[a] :: p ∧ scan ss (arOf ss zs[a]) p = some [] := by
  have h1 := h.head ha
  cases P with
  | nil => cases h1
  | cons y p =>
    obtain rfl : y = zs[a] := by simpa using h1
    have := prt_ar h ha
    exact ⟨p, rfl, by simpa using this⟩
theorem mtc_step {ss : Sg} {za zb P Q : List Int} {i q k : Nat} {im : List (List Int)} {R : Option (List (List Int) × List Int)} (hP : PrtIs ss za i P) (hi : i < za.length) (hQ : PrtIs ss zb q Q) (hq : q < zb.length) (he : zb[q] = za[i]) (hk : k < arOf ss za[i]) (h12 : ∀ z ∈ za, -12 ≤ z) (hl : im.length = 12)
    (h : mtc ss (P.drop (pos ss P k)) (zb.drop (psA ss zb q k)) im = R) :
    (mtc ss (prt ss za (psA ss za i k)) (zb.drop (psA ss zb q k)) im = none → R = none) ∧ ∀ im' b', mtc ss (prt ss za (psA ss za i k)) (zb.drop (psA ss zb q k)) im = some (im', b') → im'.length = 12 ∧ mtc ss (P.drop (pos ss P (k + 1))) (zb.drop (psA ss zb q (k + 1))) im' = R := by
  obtain ⟨s1, s2, s3, s4⟩ := prt_step hP hi hk
  obtain ⟨t1, t2, t3, t4⟩ := prt_step hQ hq (k := k) (by rw [he]; exact hk)
  have hsc := prt_ar hP hi
  obtain ⟨g1, g2⟩ := argL_ok hsc hP.len hk
  obtain ⟨_, p2, p3⟩ := pos_step hsc hP.len hk
  have hsplit : P.drop (pos ss P k) = argL ss P k ++ P.drop (pos ss P (k + 1)) := by
    unfold argL
    have : P.drop (pos ss P (k + 1)) = (P.drop (pos ss P k)).drop (pos ss P (k + 1) - pos ss P k) := by rw [List.drop_drop]; congr 1; omega
    rw [this, List.take_append_drop]
  rw [hsplit, mtc_append] at h
  rw [s4]
  have hmem : ∀ z ∈ argL ss P k, -12 ≤ z := fun z hz => by
    have h1 : z ∈ P := List.mem_of_mem_drop (List.mem_of_mem_take hz)
    have h2 : z ∈ za.drop i := by rw [hP.split]; exact List.mem_append_left _ h1
    exact h12 z (List.mem_of_mem_drop h2)
  refine ⟨fun e => ?_, fun im' b' e => ?_⟩
  · rw [e] at h; exact h.symm
  · obtain ⟨m1, m2, _⟩ := mtc_sound _ _ 1 im im' b' _ g1 t1 hmem hl e
    rw [e] at h
    subst m2
    exact ⟨m1, h⟩

set_option maxRecDepth 100000 in
set_option maxHeartbeats 4000000 in
theorem refMatched_var (As A1 A2 : Option Addr) (ns cs n1 c1 n2 c2 : Nat) (ss : Sg) (za zb r0 : List Int) (d i q : Nat) (im : List (List Int)) (z : Int) (w : World) (hs : SigAt w w.heap.size As ns ss) (ha : IntsAt w w.heap.size A1 n1 za) (hb : IntsAt w w.heap.size A2 n2 zb) (har : ArOk ss) (hh : HeadsOk ss zb) (hn1 : n1 ≤ 1000) (hn2 : n2 ≤ 1000) (hct : n2 ≤ c2) (hct2 : c2 ≤ 9223372036854775807)
    (hi : i < za.length) (hz : za[i] = z) (hneg : z < 0) (hz12 : -12 ≤ z) (hq : q < zb.length) (hsc : scan ss 1 (zb.drop q) = some r0) (him : ImsAt w d im) :
    Calls Tryz.prog 98 #[.slice As ns cs, .slice A1 n1 c1, .slice A2 n2 c2, .int .i64 i, .int .i64 q, .pointer (some ⟨d, 0, none⟩)] w (RetD w d (mtc ss [z] (zb.drop q) im)) := by
  have hl1 := ha.len
  have hl2 := hb.len
  have hd := him.lt
  obtain ⟨b1, off1, rfl, hbl1, hcells1⟩ := ha.mem (by omega)
  have cz := hcells1 i hi
  rw [hz] at cz
  obtain ⟨p, hp⟩ : ∃ p, prt ss zb q = p := ⟨_, rfl⟩
  have hP := prt_is hsc
  have hpb : prt ss (zb.drop q) 0 = p := by rw [← hp]; unfold prt; simp
  rw [hp] at hP
  have hpl := hP.len
  have hple := hP.le
  obtain ⟨j, hj⟩ : ∃ j : Nat, -z - 1 = (j : Int) := ⟨(-z - 1).toNat, by omega⟩
  have hj12 : j < 12 := by omega
  have hR : mtc ss [z] (zb.drop q) im = if (imP im j p).getD j [] = p then some (imP im j p, (zb.drop q).drop p.length) else none := by
    rw [mtc_var hneg, hpb, hj, Int.toNat_natCast]; rfl
  rw [hR]
  have w1' : IntKind.i64.wrap (-z) = -z := by rw [IntKind.wrap_i64]; omega
  have w2' : IntKind.i64.wrap (-z - 1) = (j : Int) := by rw [IntKind.wrap_i64]; omega
  have hj0 : (0 : Int) ≤ (j : Int) := by omega
  have hj1 : (j : Int) < 12 := by omega
  have hi0 : (0 : Int) ≤ (i : Int) := by omega
  have hi1 : (i : Int) < (n1 : Int) := by omega
  obtain ⟨L, hL⟩ : ∃ L, p.length = L := ⟨_, rfl⟩
  have CP := Lib.hid (fun V (h : Below w.heap.size w V) => (refPart_any As A2 ns cs n2 c2 ss zb r0 q V (hs.up h) (hb.up h) har hh hn2 hct hct2 hq hsc).mono (R' := fun e w' => ∃ A4 c4, e = .returned (.slice A4 L c4) ∧ IntsBut w' (some d) A4 L p ∧ Below V.heap.size V w') (fun e w' ⟨v, e1, e2, e3⟩ => by
    rw [hp, hL] at e2
    obtain ⟨A4, c4, rfl, h4⟩ := IntsBut.of_row e2 (by omega) (g := some d) (fun k e => by cases e; have := h.size; omega)
    exact ⟨A4, c4, e1, h4, e3⟩))
  obtain ⟨A5, n5, c5, g1, g2, g3, g4, g5⟩ := him.get hj12
  have HCZ := Lib.hid (fun V (h : Below w.heap.size w V) => (h.cell (p := ⟨b1, off1 + i, none⟩) hbl1).trans cz)
  have hne : p ≠ [] := fun h => by rw [h] at hpl; simp at hpl
  have HIM := Lib.hid him
  have HL := Lib.hid hL
  have HNE := Lib.hid hne
  by_cases hnil : im.getD j [] = []
  · obtain ⟨rfl, rfl, rfl⟩ := g4 hnil
    rw [if_pos (imP_at (by have := him.len; omega) hnil)]
    have HNIL := Lib.hid hnil
    clear hs ha hb har hh hsc him hcells1 hP hp hpb hpl hple hR hL g3 g4 g5 hnil hne hj hz hl1 hl2
    go_enter Tryz.func98, Tryz.ntmps98
    go_wp2_with fail
    go_region_held3 (fun w' => w'.cell? ⟨b1, off1 + i, none⟩ = some (.int .i64 z))
      (first | go_keep | assumption)
      ((go_at_call 95; refine (CP.out _ ((Below.refl _ _).drew)).mono ?_; rintro e V3 ⟨A4, c4, rfl, hI4, hB3⟩; have hB4 : Below w.heap.size w V3 := ((Below.refl _ w).drew).trans hB3; have cz3 := HCZ.out V3 hB4; have x3 := (hB4.cell (p := ⟨d, j, none⟩) hd).trans g1; have f3 := (hB4.frozen (p := ⟨d, j, none⟩) hd).trans g2; have HB4 := Lib.hid hB4; have HI4 := Lib.hid hI4; clear hB3 hB4 hI4))
    all_goals
      go_wp2_with (go_at_call 25; refine (same_self A4 A4 L c4 L c4 p _ _ (HI4.out.setCell.ints) (HI4.out.setCell.ints)).mono ?_; rintro e w9 ⟨rfl, k9, rfl⟩)
      go_ret
      exact ⟨(KeepE.old HB4.out).put.drewN k9, rfl, ((HIM.out.below HB4.out).put (c := c4) hj12 HNIL.out HI4.out.ints HNE.out).below (below_drewN (Below.refl _ _) k9)⟩
  · obtain ⟨b5, off5, rfl⟩ := g5 hnil
    have himP : imP im j p = im := by unfold imP; rw [if_neg hnil]
    rw [himP]
    obtain ⟨Y, hY⟩ : ∃ Y, im.getD j [] = Y := ⟨_, rfl⟩
    rw [hY] at g3 ⊢
    have HI5 := Lib.hid g3
    obtain ⟨qq, hqq⟩ : ∃ qq, decide (Y = p) = qq := ⟨_, rfl⟩
    have HQ := Lib.hid hqq
    obtain ⟨R, hRR⟩ : ∃ R, (if Y = p then some (im, (zb.drop q).drop p.length) else none) = R := ⟨_, rfl⟩
    rw [hRR]
    have HR := Lib.hid hRR
    clear hRR hs ha hb har hh hsc him hcells1 hP hp hpb hpl hple hR hL g3 g4 g5 hnil hne hj hz hl1 hl2 himP hY hqq
    go_enter Tryz.func98, Tryz.ntmps98
    go_wp2_with fail
    go_region_held3 (fun w' => w'.cell? ⟨b1, off1 + i, none⟩ = some (.int .i64 z))
      (first | go_keep | assumption)
      ((go_at_call 95; refine (CP.out _ ((Below.refl _ _).drew)).mono ?_; rintro e V3 ⟨A4, c4, rfl, hI4, hB3⟩; have hB4 : Below w.heap.size w V3 := ((Below.refl _ w).drew).trans hB3; have cz3 := HCZ.out V3 hB4; have x3 := (hB4.cell (p := ⟨d, j, none⟩) hd).trans g1; have f3 := (hB4.frozen (p := ⟨d, j, none⟩) hd).trans g2; have HB4 := Lib.hid hB4; have HI4 := Lib.hid hI4; clear hB3 hB4 hI4))
    all_goals
      go_wp2_with (go_at_call 25; refine (same_any (some ⟨b5, off5, none⟩) A4 n5 c5 L c4 Y p _ _ (HI5.out.up HB4.out) (HI4.out.ints)).mono ?_; rintro e w9 ⟨rfl, k9, rfl⟩; rw [HQ.out])
      go_ret
      have hq9 := HQ.out
      rw [← HR.out]
      cases qq
      · rw [if_neg (by simpa using hq9)]
        exact ⟨(KeepE.old HB4.out).drewN k9, rfl⟩
      · rw [if_pos (by simpa using hq9)]
        exact ⟨(KeepE.old HB4.out).drewN k9, rfl, (HIM.out.below HB4.out).below (below_drewN (Below.refl _ _) k9)⟩

set_option maxRecDepth 100000 in
set_option maxHeartbeats 4000000 in
theorem refMatched_any (As A1 A2 : Option Addr) (ns cs n1 c1 n2 c2 : Nat) (ss : Sg) (za zb : List Int) (d : Nat) (har : ArOk ss) (hh1 : HeadsOk ss za) (hh : HeadsOk ss zb) (h12 : ∀ z ∈ za, -12 ≤ z) (hn1 : n1 ≤ 1000) (hn2 : n2 ≤ 1000) (hct : n2 ≤ c2) (hct2 : c2 ≤ 9223372036854775807) :
    ∀ (m i q : Nat) (r1 r0 : List Int) (im : List (List Int)) (w : World), (prt ss za i).length ≤ m → SigAt w d As ns ss → IntsAt w d A1 n1 za → IntsAt w d A2 n2 zb → i < za.length → scan ss 1 (za.drop i) = some r1 → q < zb.length → scan ss 1 (zb.drop q) = some r0 → ImsAt w d im →
    Calls Tryz.prog 98 #[.slice As ns cs, .slice A1 n1 c1, .slice A2 n2 c2, .int .i64 i, .int .i64 q, .pointer (some ⟨d, 0, none⟩)] w (RetD w d (mtc ss (prt ss za i) (zb.drop q) im)) := by
  intro m
  induction m with
  | zero =>
    intro i q r1 r0 im w hm _ _ _ _ hsc
    have := (prt_is hsc).len
    omega
  | succ m ih =>
    intro i q r1 r0 im w hm hs ha hb hi hsc1 hq hsc him
    have hd := him.lt
    have hP := prt_is hsc1
    have hQ := prt_is hsc
    obtain ⟨z, hz⟩ : ∃ z, za[i] = z := ⟨_, rfl⟩
    obtain ⟨p, hp, hscp⟩ := prt_cons hP hi
    rw [hz] at hp hscp
    have hz12 := h12 z (by rw [← hz]; exact List.getElem_mem hi)
    by_cases hneg : z < 0
    · have hp0 : p = [] := by
        rw [arOf_neg ss hneg, scan_zero] at hscp
        exact Option.some.inj hscp
      rw [hp, hp0]
      exact refMatched_var As A1 A2 ns cs n1 c1 n2 c2 ss za zb r0 d i q im z w (hs.more (by omega)) (ha.more (by omega)) (hb.more (by omega)) har hh hn1 hn2 hct hct2 hi hz hneg hz12 hq hsc him
    · have hl1 := ha.len
      have hl2 := hb.len
      obtain ⟨b1, off1, rfl, hbl1, hcells1⟩ := ha.mem (by omega)
      obtain ⟨b2, off2, rfl, hbl2, hcells2⟩ := hb.mem (by omega)
      have cz := hcells1 i hi
      rw [hz] at cz
      have cy := hcells2 q hq
      obtain ⟨y, hy⟩ : ∃ y, zb[q] = y := ⟨_, rfl⟩
      rw [hy] at cy
      have hzb : zb.drop q = y :: zb.drop (q + 1) := by rw [List.drop_eq_getElem_cons hq, hy]
      have hR : mtc ss (prt ss za i) (zb.drop q) im = if y = z then mtc ss p (zb.drop (q + 1)) im else none := by
        rw [hp, mtc_sym hneg, hzb]
        simp
      rw [hR]
      have hi0 : (0 : Int) ≤ (i : Int) := by omega
      have hi1 : (i : Int) < (n1 : Int) := by omega
      have hq0 : (0 : Int) ≤ (q : Int) := by omega
      have hq1 : (q : Int) < (n2 : Int) := by omega
      have hneg' : 0 ≤ z := by omega
      by_cases hyz : y = z
      · subst hyz
        rw [if_pos rfl]
        obtain ⟨r, hr⟩ : ∃ r, arOf ss y = r := ⟨_, rfl⟩
        have hr3 := arOf_le har y
        rw [hr] at hr3
        have CA1 := Lib.hid (fun V (h : Below w.heap.size w V) => (refArgs_any As (some ⟨b1, off1, none⟩) ns cs n1 c1 ss za r1 i V ((hs.more (by omega)).up h) ((ha.more (by omega)).up h) har hh1 hn1 hi hsc1).mono (R' := fun e w' => ∃ A4 c4, e = .returned (.slice A4 r c4) ∧ IntsBut w' (some d) A4 r (begs ss za i r) ∧ Below V.heap.size V w') (fun e w' ⟨v, e1, e2, e3⟩ => by
          rw [hz, hr] at e2
          obtain ⟨A4, c4, rfl, h4⟩ := IntsBut.of_row e2 (by omega) (g := some d) (fun k e => by cases e; have := h.size; omega)
          exact ⟨A4, c4, e1, h4, e3⟩))
        have CA2 := Lib.hid (fun V (h : Below w.heap.size w V) => (refArgs_any As (some ⟨b2, off2, none⟩) ns cs n2 c2 ss zb r0 q V ((hs.more (by omega)).up h) ((hb.more (by omega)).up h) har hh hn2 hq hsc).mono (R' := fun e w' => ∃ A4 c4, e = .returned (.slice A4 r c4) ∧ IntsBut w' (some d) A4 r (begs ss zb q r) ∧ Below V.heap.size V w') (fun e w' ⟨v, e1, e2, e3⟩ => by
          rw [hy, hr] at e2
          obtain ⟨A4, c4, rfl, h4⟩ := IntsBut.of_row e2 (by omega) (g := some d) (fun k e => by cases e; have := h.size; omega)
          exact ⟨A4, c4, e1, h4, e3⟩))
        obtain ⟨R, hRR⟩ : ∃ R, mtc ss p (zb.drop (q + 1)) im = R := ⟨_, rfl⟩
        rw [hRR]
        have hP1 := hP.len
        have hsa := prt_ar hP hi
        rw [hz, hr] at hsa
        have hpz := pos_zero ss hP1
        have h0 : mtc ss ((prt ss za i).drop (pos ss (prt ss za i) 0)) (zb.drop (psA ss zb q 0)) im = R := by
          rw [hpz, psA_zero hq, ← hRR]
          congr 1
          rw [hp]; rfl
        have H0 := Lib.hid h0
        have HEND := Lib.hid (fun (im' : List (List Int)) (h : mtc ss ((prt ss za i).drop (pos ss (prt ss za i) r)) (zb.drop (psA ss zb q r)) im' = R) => show ∃ b', R = some (im', b') from by
          have e1 := (pos_scan hsa hP1 (Nat.le_refl r)).1
          rw [hsa] at e1
          have e2 := Option.some.inj e1
          rw [← e2] at h
          exact ⟨_, h.symm⟩)
        have HSTEP := Lib.hid (fun k (hk : k < r) (im' : List (List Int)) (hl : im'.length = 12) (h : mtc ss ((prt ss za i).drop (pos ss (prt ss za i) k)) (zb.drop (psA ss zb q k)) im' = R) => mtc_step hP hi hQ hq (by rw [hy, hz]) (show k < arOf ss za[i] by rw [hz, hr]; exact hk) h12 hl h)
        have HREC := Lib.hid (fun k (hk : k < r) (im' : List (List Int)) (V : World) (hV : Below d w V) (hi' : ImsAt V d im') => by
          obtain ⟨s1, s2, s3, s4⟩ := prt_step hP hi (k := k) (by rw [hz, hr]; exact hk)
          obtain ⟨t1, t2, t3, t4⟩ := prt_step hQ hq (k := k) (by rw [hy, hr]; exact hk)
          have hal := (argL_ok hsa hP1 hk).2
          have hp3 := pos_scan hsa hP1 (Nat.le_of_lt hk)
          have hps := pos_scan hsa hP1 (show k + 1 ≤ r from hk)
          exact ih (psA ss za i k) (psA ss zb q k) _ _ im' V (by rw [s4, hal]; omega) (hs.below hV) (ha.below hV) (hb.below hV) (by omega) s1 (by omega) t1 hi')
        have HBG1 := Lib.hid (fun k (hk : k < r) => show (begs ss za i r)[k]? = some ((psA ss za i k : Nat) : Int) by simp [begs, hk])
        have HBG2 := Lib.hid (fun k (hk : k < r) => show (begs ss zb q r)[k]? = some ((psA ss zb q k : Nat) : Int) by simp [begs, hk])
        obtain ⟨g1, hg1⟩ : ∃ g1, begs ss za i r = g1 := ⟨_, rfl⟩
        obtain ⟨g2, hg2⟩ : ∃ g2, begs ss zb q r = g2 := ⟨_, rfl⟩
        rw [hg1] at CA1 HBG1
        rw [hg2] at CA2 HBG2
        have HIM := Lib.hid him
        have HHS := Lib.hid hs
        have hzz : (y != y) = false := by simp
        clear hs ha hb hP hQ hp hscp hz hy hR hcells1 hcells2 hsc hsc1 hzb ih him hm hl1 hl2 hneg hg1 hg2 h0 hpz hsa hP1 hRR hr
        go_enter Tryz.func98, Tryz.ntmps98
        go_wp2_with fail
        go_quiet (fail)
        have HB0 := Lib.hid (below_drewN (Below.refl w.heap.size w) nq)
        go_wp2_with (first
          | (go_at_call 93; ((with_reducible refine (CA1.out _ HB0.out).mono ?_); rintro e w1 ⟨Ax, cx, rfl, hx, hB1⟩; have HB1 := Lib.hid (below_then HB0.out hB1); have HX1 := Lib.hid hx; clear hB1 hx))
          | (go_at_call 93; ((with_reducible refine (CA2.out _ HB1.out).mono ?_); rintro e w2 ⟨Ay, cy', rfl, hy2, hB2⟩; have HX2 := Lib.hid (HX1.out.below hB2); have HB2 := Lib.hid (below_then HB1.out hB2); have HY2 := Lib.hid hy2; clear hB2 hy2)))
        have HD2 := Lib.hid (HB2.out.mono (Nat.le_of_lt hd))
        have HIM2 := Lib.hid (HIM.out.below HB2.out)
        go_loopw [17] (fun kv wr => ∃ (k : Nat) (im' : List (List Int)), k ≤ r ∧ kv = .int .i64 k ∧ Hid (mtc ss ((prt ss za i).drop (pos ss (prt ss za i) k)) (zb.drop (psA ss zb q k)) im' = R) ∧ ImsAt wr d im' ∧ KeepE (fun b => b < w2.heap.size ∧ b ≠ d) w2 wr) (fun kv _ => r - (intOf kv).toNat)
        case atStart => exact ⟨0, im, Nat.zero_le _, rfl, H0, HIM2.out, KeepE.refl _ _⟩
        case round =>
          obtain ⟨k, im', hk, rfl, HM, him', hKE⟩ := hrel
          have HK := Lib.hid hKE
          have HIM' := Lib.hid him'
          have hsz := hKE.size
          have hd2 := HIM2.out.lt
          by_cases hlt : k < r
          · obtain ⟨bx, ox, rfl, hbx, hnx, zx, ex, cx0⟩ := but_cell HX2.out hlt
            obtain ⟨by', oy, rfl, hby, hny, zy, ey, cy0⟩ := but_cell HY2.out hlt
            rw [HBG1.out k hlt] at ex
            cases ex
            rw [HBG2.out k hlt] at ey
            cases ey
            have cx := (hKE.cell (p := ⟨bx, ox + k, none⟩) ⟨hbx, hnx⟩).trans cx0
            have cy1 := (hKE.cell (p := ⟨by', oy + k, none⟩) ⟨hby, hny⟩).trans cy0
            have hbxw : bx < wr.heap.size := by omega
            have hbyw : by' < wr.heap.size := by omega
            have hB2w : Below d w wr := HD2.out.trans (hKE.low (by omega))
            have C3 := Lib.hid (fun (V : World) (hV : Below wr.heap.size wr V) => HREC.out k hlt im' V (hB2w.trans (hV.mono (by omega))) (him'.below hV))
            have HST := Lib.hid (HSTEP.out k hlt im' him'.len HM.out)
            have hk0 : (0 : Int) ≤ (k : Int) := by omega
            have hk1 : (k : Int) < (r : Int) := by omega
            obtain ⟨Rk, hRk⟩ : ∃ Rk, mtc ss (prt ss za (psA ss za i k)) (zb.drop (psA ss zb q k)) im' = Rk := ⟨_, rfl⟩
            rw [hRk] at C3 HST
            obtain ⟨x1, hx1⟩ : ∃ x1, psA ss za i k = x1 := ⟨_, rfl⟩
            obtain ⟨y1, hy1⟩ : ∃ y1, psA ss zb q k = y1 := ⟨_, rfl⟩
            rw [hx1] at cx C3
            rw [hy1] at cy1 C3
            clear him' hKE cx0 cy0 hB2w hRk hx1 hy1
            cases Rk with
            | none =>
              have HRN := Lib.hid (HST.out.1 rfl)
              go_wp2_with fail
              go_region_held3 (fun w' => w'.cell? ⟨bx, ox + k, none⟩ = some (.int .i64 x1) ∧ w'.cell? ⟨by', oy + k, none⟩ = some (.int .i64 y1))
                (first | go_keep | assumption | (exact ⟨by assumption, by assumption⟩))
                ((go_at_call 98; refine (C3.out _ ((Below.refl _ _).drew)).mono ?_; rintro e w3 ⟨hK3, rfl⟩; have cx3 := (hK3.cell (p := ⟨bx, ox + k, none⟩) ⟨hbxw, hnx⟩).trans cx; have cy3 := (hK3.cell (p := ⟨by', oy + k, none⟩) ⟨hbyw, hny⟩).trans cy1; have HK3 := Lib.hid ((HK.out.next (KeepE.old ((Below.refl _ wr).drew))).next hK3); clear hK3))
              all_goals
                go_wp2_with fail
                go_ret
                rw [HRN.out]
                exact ⟨(KeepE.old HB2.out).next HK3.out, rfl⟩
            | some rk =>
              obtain ⟨im2, b2'⟩ := rk
              have HSO := Lib.hid (HST.out.2 im2 b2' rfl)
              go_wp2_with fail
              go_region_held3 (fun w' => w'.cell? ⟨bx, ox + k, none⟩ = some (.int .i64 x1) ∧ w'.cell? ⟨by', oy + k, none⟩ = some (.int .i64 y1))
                (first | go_keep | assumption | (exact ⟨by assumption, by assumption⟩))
                ((go_at_call 98; refine (C3.out _ ((Below.refl _ _).drew)).mono ?_; rintro e w3 ⟨hK3, rfl, hi3⟩; have cx3 := (hK3.cell (p := ⟨bx, ox + k, none⟩) ⟨hbxw, hnx⟩).trans cx; have cy3 := (hK3.cell (p := ⟨by', oy + k, none⟩) ⟨hbyw, hny⟩).trans cy1; have HK3 := Lib.hid ((HK.out.next (KeepE.old ((Below.refl _ wr).drew))).next hK3); have HI3 := Lib.hid hi3; clear hK3 hi3))
              all_goals
                go_wp2_with fail
                go_roundw
                case rel => exact ⟨k + 1, im2, by omega, by go_num, Lib.hid HSO.out.2, HI3.out, HK3.out⟩
                case measure => simp [intOf]; omega
          · obtain rfl : k = r := by omega
            obtain ⟨b', hb'⟩ := HEND.out im' HM.out
            have HR9 := Lib.hid hb'
            clear him' hKE hb'
            go_wp2_with fail
            go_ret
            rw [HR9.out]
            exact ⟨(KeepE.old HB2.out).next HK.out, rfl, HIM'.out⟩
      · rw [if_neg hyz]
        have hzy : (z != y) = true := by simp; omega
        clear hs ha hb hP hQ hp hscp hz hy hR hcells1 hcells2 hsc hsc1 hzb ih him hm hl1 hl2 hneg
        go_enter Tryz.func98, Tryz.ntmps98
        go_wp2_with fail
        go_quiet (fail)
        go_wp2
        go_ret
        exact ⟨(KeepE.refl _ w).drewN nq, rfl⟩

end Go.Proofs.YtapcdhagkbfccaaGreat

namespace Go.Proofs.YtapcdhagkbfccaaGreat
open Go.RowKit
attribute [local go_sem] eql_nil0 eql_nil1 neq_nil0 neq_nil1

/-- What the call of matched at the beginning hands back. -/
def RetE (w : World) (R : Option (List (List Int) × List Int)) (e : Ending) (w' : World) : Prop :=
  Below w.heap.size w w' ∧ match R with
  | none => e = .returned (.bool false)
  | some r => e = .returned (.bool true) ∧ ImsAt w' w.heap.size r.1
theorem below_draw {w V w' : World} {e e' : Ending} (hV : Below w.heap.size w V) (hsz : V.heap.size = w.heap.size) (h : e = e' ∧ ∃ k, w' = V.drewN k) : e = e' ∧ Below w.heap.size w w' ∧ w'.heap.size = w.heap.size := by
  obtain ⟨h1, k, rfl⟩ := h
  exact ⟨h1, below_drewN hV k, hsz⟩

set_option maxRecDepth 100000 in
set_option maxHeartbeats 4000000 in
theorem refMatch_any (As Aa Ab : Option Addr) (ns cs na ca nb cb : Nat) (ss : Sg) (za zb : List Int) (w : World) (hs : SigAt w w.heap.size As ns ss) (ha : IntsAt w w.heap.size Aa na za) (hb : IntsAt w w.heap.size Ab nb zb) (hc : nb ≤ cb) (hc2 : cb ≤ 9223372036854775807) :
    Calls Tryz.prog 64 #[.slice As ns cs, .slice Aa na ca, .slice Ab nb cb] w (RetB w (matZ ss za zb).1 (matZ ss za zb).2) := by
  obtain ⟨i0, hi, hz0, hz1, hz2⟩ := info_parts info_bind
  have C1 := Lib.hid ((refValid_any As Aa ns cs na ca ss za w _ hs ha).mono fun e w' h => below_draw (Below.refl _ _) rfl h)
  have C2 := Lib.hid (fun V (h : Below w.heap.size w V) (hsz : V.heap.size = w.heap.size) => (refValid_any As Ab ns cs nb cb ss zb V _ (hs.up h) (hb.up h)).mono fun e w' h' => below_draw h hsz h')
  cases hva : valOk ss za
  · rw [matZ_bad (by simp [hva])]
    rw [hva] at C1
    clear hs ha hb hva
    go_enter Tryz.func64, Tryz.ntmps64
    go_wp2_with (go_at_call 43; refine C1.out.mono ?_; rintro e w1 ⟨rfl, hB1, hz1⟩; have HB1 := Lib.hid hB1; clear hB1)
    go_ret2
    exact ⟨none, 0, 0, [], rfl, BindsAt.none _ _, HB1.out⟩
  · rw [hva] at C1
    cases hvb : valOk ss zb
    · rw [matZ_bad (by simp [hvb])]
      simp only [hvb] at C2
      clear hs ha hb hva hvb
      go_enter Tryz.func64, Tryz.ntmps64
      go_wp2_with (first
        | (go_at_call 43; ((with_reducible refine C1.out.mono ?_); clear C1; rintro e w1 ⟨rfl, hB1, hz1⟩; have HB1 := Lib.hid hB1; have HZ1 := Lib.hid hz1; clear hB1 hz1))
        | (go_at_call 43; ((with_reducible refine (C2.out _ HB1.out HZ1.out).mono ?_); rintro e w2 ⟨rfl, hB2, hz2⟩; have HB2 := Lib.hid hB2; have HZ2 := Lib.hid hz2; clear hB2 hz2)))
      go_ret2
      exact ⟨none, 0, 0, [], rfl, BindsAt.none _ _, HB2.out⟩
    · simp only [hvb] at C2
      rw [matZ_good (by simp [hva, hvb])]
      obtain ⟨a1, a2, a3, a4⟩ := valOk_term hva
      obtain ⟨b1, b2, b3, b4⟩ := valOk_term hvb
      have hl1 := ha.len
      have hl2 := hb.len
      obtain ⟨R, hR⟩ : ∃ R, mtc ss za zb ini = R := ⟨_, rfl⟩
      rw [hR]
      have C3 := Lib.hid (fun (V : World) (h : Below w.heap.size w V) (hsz : V.heap.size = w.heap.size) => show Calls Tryz.prog 98 #[.slice As ns cs, .slice Aa na ca, .slice Ab nb cb, .int .i64 0, .int .i64 0, .pointer (some ⟨w.heap.size, 0, none⟩)] (V.alloc (.cells #[.slice none 0 0, .slice none 0 0, .slice none 0 0, .slice none 0 0, .slice none 0 0, .slice none 0 0, .slice none 0 0, .slice none 0 0, .slice none 0 0, .slice none 0 0, .slice none 0 0, .slice none 0 0] 120)) (RetE w R) from by
        have hB0 := bel_al h (.cells #[.slice none 0 0, .slice none 0 0, .slice none 0 0, .slice none 0 0, .slice none 0 0, .slice none 0 0, .slice none 0 0, .slice none 0 0, .slice none 0 0, .slice none 0 0, .slice none 0 0, .slice none 0 0] 120)
        have him := Blk.new V 120 #[.slice none 0 0, .slice none 0 0, .slice none 0 0, .slice none 0 0, .slice none 0 0, .slice none 0 0, .slice none 0 0, .slice none 0 0, .slice none 0 0, .slice none 0 0, .slice none 0 0, .slice none 0 0]
        rw [hsz] at him
        have := refMatched_any As Aa Ab ns cs na ca nb cb ss za zb w.heap.size (sigOk_ar (valOk_sig hva)) (fun z hz => (a3 z hz).2) (fun z hz => (b3 z hz).2) (fun z hz => (a3 z hz).1) (by omega) (by omega) hc hc2 _ 0 0 [] [] ini _ (Nat.le_refl _) (hs.below hB0) (ha.below hB0) (hb.below hB0) (by omega) (by simpa using a4) (by omega) (by simpa using b4) (ImsAt.new him)
        rw [prt_whole a4, List.drop_zero, hR] at this
        refine this.mono fun e w' ⟨k1, k2⟩ => ⟨hB0.trans (k1.low (by have := hB0.size; exact this)), k2⟩)
      clear hs ha hb hva hvb a1 a2 a3 a4 b1 b2 b3 b4 hl1 hl2 hR
      cases R with
      | none =>
        simp only
        go_enter Tryz.func64, Tryz.ntmps64
        go_wp2_with (first
          | (go_at_call 43; ((with_reducible refine C1.out.mono ?_); clear C1; rintro e w1 ⟨rfl, hB1, hz1⟩; have HB1 := Lib.hid hB1; have HZ1 := Lib.hid hz1; clear hB1 hz1))
          | (go_at_call 43; ((with_reducible refine (C2.out _ HB1.out HZ1.out).mono ?_); rintro e w2 ⟨rfl, hB2, hz2⟩; have HB2 := Lib.hid hB2; have HZ2 := Lib.hid hz2; clear hB2 hz2))
          | (go_at_call 98; rw [HZ2.out]; refine (C3.out _ HB2.out HZ2.out).mono ?_; rintro e w3 ⟨hB3, rfl⟩; have HB3 := Lib.hid hB3; clear hB3))
        go_ret2
        exact ⟨none, 0, 0, [], rfl, BindsAt.none _ _, HB3.out⟩
      | some r =>
        obtain ⟨im, b'⟩ := r
        simp only
        go_enter Tryz.func64, Tryz.ntmps64
        go_wp2_with (first
          | (go_at_call 43; ((with_reducible refine C1.out.mono ?_); clear C1; rintro e w1 ⟨rfl, hB1, hz1⟩; have HB1 := Lib.hid hB1; have HZ1 := Lib.hid hz1; clear hB1 hz1))
          | (go_at_call 43; ((with_reducible refine (C2.out _ HB1.out HZ1.out).mono ?_); rintro e w2 ⟨rfl, hB2, hz2⟩; have HB2 := Lib.hid hB2; have HZ2 := Lib.hid hz2; clear hB2 hz2))
          | (go_at_call 98; rw [HZ2.out]; refine (C3.out _ HB2.out HZ2.out).mono ?_; rintro e w3 ⟨hB3, rfl, him⟩; have HB3 := Lib.hid hB3; have HIM := Lib.hid him; clear hB3 him))
        go_loopw [9, 10] (fun ov kv wr => ∃ (k L : Nat) (Av : Option Addr) (cv : Nat) (lr : List Hd) (cc : List Bd), k ≤ 12 ∧ kv = .int .i64 k ∧ ov = .slice Av L cv ∧ Hid (cc = bX (imX im) k) ∧ BRowAt wr w3.heap.size (.slice Av L cv) L lr cc ∧ Below w3.heap.size w3 wr) (fun _ kv _ => 12 - (intOf kv).toNat)
        case atStart => exact ⟨0, 0, none, 0, [], [], Nat.zero_le _, rfl, rfl, Lib.hid rfl, BRowAt.nil _ _, Below.refl _ _⟩
        case round =>
          obtain ⟨v, L, Av, cv, lr, cc, hv, rfl, rfl, HCC, hrow, hBr⟩ := hrel
          have hLc := hrow.bl
          have hLe := bX_le (imX im) v
          rw [← HCC.out] at hLe
          have HROW := Lib.hid hrow
          have HBR := Lib.hid hBr
          by_cases hv12 : v < 12
          · have hsucc := bX_succ (imX im) v
            rw [← HCC.out] at hsucc
            obtain ⟨A4, m4, c4, g1, g2, g3, g4, g5⟩ := (HIM.out.get hv12)
            have hdw := HIM.out.lt
            have g1w := (hBr.cell (p := ⟨w.heap.size, v, none⟩) hdw).trans g1
            have hv0 : (0 : Int) ≤ (v : Int) := by omega
            have hv1 : (v : Int) < 12 := by omega
            have CVAR := Lib.hid (fun V => refVar_any (v : Int) V (by omega) (by omega))
            by_cases hnil : im.getD v [] = []
            · obtain ⟨rfl, rfl, rfl⟩ := g4 hnil
              have hX : imX im v = [-(v : Int) - 1] := by unfold imX; rw [if_pos hnil]
              rw [if_pos hX, List.append_nil] at hsucc
              have HC2 := Lib.hid hsucc.symm
              clear hrow hBr hLc hLe hsucc g1 g2 g3 g4 g5 hX hnil
              go_wp2_with fail
              go_quiet (fail)
              go_wp2_with fail
              go_roundw
              case rel => exact ⟨v + 1, L, Av, cv, lr, cc, by omega, by go_num, rfl, HC2, HROW.out.below (below_drewN (Below.refl _ _) nq), below_drewN HBR.out nq⟩
              case measure => simp [intOf]; omega
            · have hX : imX im v = im.getD v [] := by unfold imX; rw [if_neg hnil]
              rw [hX] at hsucc
              obtain ⟨b4, off4, rfl⟩ := g5 hnil
              obtain ⟨ts, hts⟩ : ∃ ts, im.getD v [] = ts := ⟨_, rfl⟩
              rw [hts] at hsucc g3
              have hdwr : w.heap.size < wr.heap.size := Nat.lt_of_lt_of_le hdw hBr.size
              have CV := Lib.hid (fun V (h : Below wr.heap.size wr V) => (CVAR.out V).mono (R' := fun e w' => ∃ A5, e = .returned (.slice A5 1 1) ∧ IntsAt w' w'.heap.size A5 1 [-(v : Int) - 1] ∧ Below wr.heap.size wr w') (fun e w' ⟨e1, e2⟩ => ⟨_, e1, by rw [e2]; exact ints_var _ _, by rw [e2]; exact bel_al h _⟩))
              have CSM := Lib.hid (fun (V : World) (A5 : Option Addr) (h : Below wr.heap.size wr V) (h5 : IntsAt V V.heap.size A5 1 [-(v : Int) - 1]) => (same_any (some ⟨b4, off4, none⟩) A5 m4 c4 1 1 ts [-(v : Int) - 1] V V.heap.size (g3.up (below_then hBr h)) h5).mono (R' := fun e w' => e = .returned (.bool (decide (ts = [-(v : Int) - 1]))) ∧ Below wr.heap.size wr w') (fun e w' ⟨e1, k, e2⟩ => ⟨e1, by rw [e2]; exact below_drewN h k⟩))
              by_cases hq : ts = [-(v : Int) - 1]
              · rw [if_pos hq, List.append_nil] at hsucc
                have HC2 := Lib.hid hsucc.symm
                have HQ := Lib.hid (show decide (ts = [-(v : Int) - 1]) = true from decide_eq_true hq)
                clear hrow hBr hLc hLe hsucc g1 g2 g3 g4 g5 hX hnil hts hq CVAR
                go_wp2_with fail
                go_region_held3 (fun w' => w'.cell? ⟨w.heap.size, v, none⟩ = some (.slice (some ⟨b4, off4, none⟩) m4 c4))
                  (first | go_keep | assumption)
                  (first
                    | (go_at_call 99; refine (CV.out _ ((Below.refl _ _).drew)).mono ?_; rintro e V5 ⟨A5, rfl, hI5, hB5⟩; have x5 := (hB5.cell (p := ⟨w.heap.size, v, none⟩) hdwr).trans g1w; have HB5 := Lib.hid hB5; have HI5 := Lib.hid hI5; clear hI5 hB5)
                    | (go_at_call 25; refine (CSM.out _ _ HB5.out HI5.out).mono ?_; rintro e V6 ⟨rfl, hB6⟩; rw [HQ.out]; have x6 := (hB6.cell (p := ⟨w.heap.size, v, none⟩) hdwr).trans g1w; have HB6 := Lib.hid hB6; clear hB6))
                all_goals
                  go_wp2_with fail
                  go_roundw
                  case rel => exact ⟨v + 1, L, Av, cv, lr, cc, by omega, by go_num, rfl, HC2, HROW.out.below HB6.out, below_then HBR.out HB6.out⟩
                  case measure => simp [intOf]; omega
              · rw [if_neg hq] at hsucc
                have HC2 := Lib.hid hsucc.symm
                have HQ := Lib.hid (show decide (ts = [-(v : Int) - 1]) = false from decide_eq_false hq)
                have HBT := Lib.hid (fun (V : World) (h : Below wr.heap.size wr V) => but_of_old g3 (below_then hBr h) (fun g e => (hrow.row.lt g e).1))
                have hL12 : L ≤ 12 := by omega
                clear hrow hBr hLc hLe hsucc g1 g2 g3 g4 g5 hX hnil hts hq CVAR
                go_wp2_with fail
                go_region_held3 (fun w' => w'.cell? ⟨w.heap.size, v, none⟩ = some (.slice (some ⟨b4, off4, none⟩) m4 c4))
                  (first | go_keep | assumption)
                  (first
                    | (go_at_call 99; refine (CV.out _ ((Below.refl _ _).drew)).mono ?_; rintro e V5 ⟨A5, rfl, hI5, hB5⟩; have x5 := (hB5.cell (p := ⟨w.heap.size, v, none⟩) hdwr).trans g1w; have HB5 := Lib.hid hB5; have HI5 := Lib.hid hI5; clear hI5 hB5)
                    | (go_at_call 25; refine (CSM.out _ _ HB5.out HI5.out).mono ?_; rintro e V6 ⟨rfl, hB6⟩; rw [HQ.out]; have x6 := (hB6.cell (p := ⟨w.heap.size, v, none⟩) hdwr).trans g1w; have HB6 := Lib.hid hB6; clear hB6))
                all_goals
                  have HB7 := Lib.hid (bel_al HB6.out (.cells #[.int .i64 (v : Int), .slice (some ⟨b4, off4, none⟩) m4 c4] 134))
                  go_wp2_with (first
                    | (at_builtin
                       refine wpList_append_own_at _ rfl _ _ 86 rfl w3.heap.size 134 i0 _ 2 32 Tryz.underlying86 hi hz0 hz1 hz2 rfl (by omega) (.slice Av L cv) L (flatB lr cc) rfl (HROW.out.below HB7.out).row ⟨V6.heap.size, 0, none⟩ 1 1 [.int .i64 (v : Int), .slice (some ⟨b4, off4, none⟩) m4 c4] rfl rfl
                         ?_ (by simp [Value.oneCell']) (by unfold maxLen; omega) (by omega) (Nat.le_trans HBR.out.size HB7.out.size) ?_
                       · exact World.news_of_block (cs := #[.int .i64 (v : Int), .slice (some ⟨b4, off4, none⟩) m4 c4]) (t := 134) (fr := (0, 0)) (heap_alloc_new V6 _)
                       intro v7 w7 hown7 hg7 _ hv7
                       have hrow7 := (HROW.out.below HB7.out).push (x := (some ⟨b4, off4, none⟩, m4, c4)) (t := ((v : Int), ts)) (HBT.out _ HB7.out) hown7 hg7 hv7
                       have HB8 := Lib.hid ((below_then HBR.out HB7.out).grown hg7 (Nat.le_trans HBR.out.size HB7.out.size) (fun k e => (HROW.out.row.lt k e).1))
                       obtain ⟨A7, c7, e7, _⟩ := hrow7.binds (by omega)
                       subst e7
                       have HROW7 := Lib.hid hrow7
                       clear hrow7 hown7 hg7 hv7))
                  go_roundw
                  case rel => exact ⟨v + 1, L + 1, A7, c7, _, _, by omega, by go_num, rfl, HC2, HROW7.out, HB8.out⟩
                  case measure => simp [intOf]; omega
          · obtain rfl : v = 12 := by omega
            obtain ⟨Ar, cr, er, hr⟩ := hrow.binds (by omega)
            cases er
            have HRR := Lib.hid hr
            clear hrow hBr hLc hLe hr
            go_wp2_with fail
            go_ret2
            refine ⟨Av, L, cv, lr, rfl, ?_, below_then HB3.out HBR.out⟩
            rw [← HCC.out]
            exact HRR.out

set_option maxRecDepth 100000 in
theorem refInstance_any (As Aa Ab : Option Addr) (ns cs na ca nb cb : Nat) (ss : Sg) (za zb : List Int) (w : World) (hs : SigAt w w.heap.size As ns ss) (ha : IntsAt w w.heap.size Aa na za) (hb : IntsAt w w.heap.size Ab nb zb) (hc : nb ≤ cb) (hc2 : cb ≤ 9223372036854775807) :
    Calls Tryz.prog 45 #[.slice As ns cs, .slice Aa na ca, .slice Ab nb cb] w fun e w' => e = .returned (.bool (insB ss za zb)) ∧ Below w.heap.size w w' := by
  have C1 := Lib.hid (refMatch_any As Aa Ab ns cs na ca nb cb ss za zb w hs ha hb hc hc2)
  obtain ⟨q, hq⟩ : ∃ q, insB ss za zb = q := ⟨_, rfl⟩
  have HQ : Hid (∀ e : Int, e = (matZ ss za zb).2 → decide (e = 0) = q) := Lib.hid (fun e h => by rw [h]; exact hq)
  rw [hq]
  obtain ⟨Z, hZ⟩ : ∃ Z, matZ ss za zb = Z := ⟨_, rfl⟩
  rw [hZ] at C1 HQ
  obtain ⟨bb, er⟩ := Z
  clear hs ha hb hq hZ
  by_cases h0 : er = 0
  · obtain rfl := HQ.out er rfl
    subst h0
    go_enter Tryz.func45, Tryz.ntmps45
    go_wp2_with (go_at_call 64; refine C1.out.mono ?_; rintro e w1 ⟨A, n, c, ls, rfl, _, hB1⟩; have HB1 := Lib.hid hB1; clear hB1)
    go_ret
    exact ⟨rfl, HB1.out⟩
  · obtain rfl := HQ.out er rfl
    have hd : decide (er = 0) = false := decide_eq_false h0
    have hb0 : (er == 0) = false := by simpa using h0
    rw [hd]
    clear hd
    go_enter Tryz.func45, Tryz.ntmps45
    go_wp2_with (go_at_call 64; refine C1.out.mono ?_; rintro e w1 ⟨A, n, c, ls, rfl, _, hB1⟩; have HB1 := Lib.hid hB1; clear hB1)
    go_ret
    refine ⟨?_, HB1.out⟩
    first | rfl | simp [h0]

end Go.Proofs.YtapcdhagkbfccaaGreat
