/- Contracts: locate, At. -/
import Derived.Test.YtojofbmpknpggaaD1g
import Derived.Test.YtojofbmpknpggaaY21g
import Derived.Test.YtojofbmpknpggaaB4g
/- The depth of a term by its parts: the plain mathematics. -/
namespace Go.Proofs.Ytojofbmpknpggaa
open Go.RowKit

end Go.Proofs.Ytojofbmpknpggaa

/- Paths in a term, and what is put at them: the plain mathematics. -/
namespace Go.Proofs.Ytojofbmpknpggaa
open Go.RowKit

theorem endI_scan {ss : Sg} {zs : List Int} {x y : Nat} (h : scan ss 1 (zs.drop x) = some (zs.drop y)) (hy : y ≤ zs.length) : endI ss zs x = (y : Int) := by
  unfold endI
  rw [h]
  simp only [List.length_drop]
  congr 1; omega
theorem drop_at {l : List Int} {j : Nat} {k : Int} (h : l[j]? = some k) : l.drop j = k :: l.drop (j + 1) := by
  obtain ⟨hj, rfl⟩ := List.getElem?_eq_some_iff.1 h
  exact List.drop_eq_getElem_cons hj

/-- Where a path leads that goes on from an index. -/
def locN (ss : Sg) (zs : List Int) : List Int → Nat → Option Nat
  | [], a => some a
  | k :: p, a => if k < 0 ∨ (arOf ss (zs.getD a 0) : Int) ≤ k then none else locN ss zs p (psA ss zs a k.toNat)
def atR (ss : Sg) (zs p : List Int) : List Int × Int :=
  if valOk ss zs = false then ([], 1) else
  match locN ss zs p 0 with
  | none => ([], 8)
  | some a => (prt ss zs a, 0)
/-- There is a part at an index. -/
def PartAt (ss : Sg) (zs : List Int) (a : Nat) : Prop := a < zs.length ∧ ∃ r0, scan ss 1 (zs.drop a) = some r0
theorem PartAt.is {ss : Sg} {zs : List Int} {a : Nat} (h : PartAt ss zs a) : PrtIs ss zs a (prt ss zs a) := by
  obtain ⟨_, r0, h1⟩ := h
  exact prt_is h1
theorem PartAt.getD {ss : Sg} {zs : List Int} {a : Nat} (h : PartAt ss zs a) : zs.getD a 0 = zs[a]'h.1 := by
  rw [List.getD_eq_getElem?_getD, List.getElem?_eq_getElem h.1]; rfl
theorem PartAt.arg {ss : Sg} {zs : List Int} {a k : Nat} (h : PartAt ss zs a) (hk : k < arOf ss (zs.getD a 0)) : PartAt ss zs (psA ss zs a k) := by
  rw [h.getD] at hk
  obtain ⟨s1, s2, s3, _⟩ := prt_step h.is h.1 hk
  exact ⟨by omega, _, s1⟩
theorem PartAt.zero {ss : Sg} {zs : List Int} (h : valOk ss zs = true) : PartAt ss zs 0 := by
  obtain ⟨h1, _, _, h4⟩ := valOk_term h
  exact ⟨by omega, [], by simpa using h4⟩
theorem locN_nil (ss : Sg) (zs : List Int) (a : Nat) : locN ss zs [] a = some a := rfl
theorem locN_bad {ss : Sg} {zs p : List Int} {a : Nat} {k : Int} (h : k < 0 ∨ (arOf ss (zs.getD a 0) : Int) ≤ k) : locN ss zs (k :: p) a = none := by
  simp only [locN]; rw [if_pos h]
theorem locN_step {ss : Sg} {zs p : List Int} {a k : Nat} (h : k < arOf ss (zs.getD a 0)) : locN ss zs ((k : Int) :: p) a = locN ss zs p (psA ss zs a k) := by
  simp only [locN]
  rw [if_neg (by omega), Int.toNat_natCast]
theorem locN_inv {ss : Sg} {zs p : List Int} {a b : Nat} {k : Int} (h : locN ss zs (k :: p) a = some b) : ∃ j : Nat, k = (j : Int) ∧ j < arOf ss (zs.getD a 0) ∧ locN ss zs p (psA ss zs a j) = some b := by
  by_cases hk : k < 0 ∨ (arOf ss (zs.getD a 0) : Int) ≤ k
  · rw [locN_bad hk] at h; cases h
  · obtain ⟨j, rfl⟩ : ∃ j : Nat, k = (j : Int) := ⟨k.toNat, by omega⟩
    have hj : j < arOf ss (zs.getD a 0) := by omega
    rw [locN_step hj] at h
    exact ⟨j, rfl, hj, h⟩
theorem locN_part {ss : Sg} {zs : List Int} : ∀ (p : List Int) (a b : Nat), PartAt ss zs a → locN ss zs p a = some b → PartAt ss zs b ∧ a ≤ b
  | [], a, b, h, e => by cases e; exact ⟨h, Nat.le_refl _⟩
  | k :: p, a, b, h, e => by
    obtain ⟨j, rfl, hj, e'⟩ := locN_inv e
    have hp := h.arg hj
    obtain ⟨q1, q2⟩ := locN_part p _ b hp e'
    have hj' := hj
    rw [h.getD] at hj'
    have := (prt_pos h.is h.1 (Nat.le_of_lt hj')).1
    exact ⟨q1, by omega⟩
theorem atR_mk {ss : Sg} {zs p : List Int} {a : Nat} (hv : valOk ss zs = true) (e : locN ss zs p 0 = some a) : atR ss zs p = (prt ss zs a, 0) := by
  unfold atR
  rw [if_neg (by simp [hv]), e]
end Go.Proofs.Ytojofbmpknpggaa

namespace Go.Proofs.Ytojofbmpknpggaa
open Go.RowKit

def locV (ss : Sg) (zs : List Int) : Option Nat → Array Value
  | none => #[.int .i64 0, .int .i64 0, .bool false]
  | some a => #[.int .i64 (a : Int), .int .i64 ((a + (prt ss zs a).length : Nat) : Int), .bool true]
set_option maxRecDepth 100000 in
set_option maxHeartbeats 2000000 in
theorem locate_any (As At Ap : Option Addr) (ns cs nt ct np cp : Nat) (ss : Sg) (zs path : List Int) (w : World) (hs : SigAt w w.heap.size As ns ss) (ht : IntsAt w w.heap.size At nt zs) (hp : IntsAt w w.heap.size Ap np path) (hv : valOk ss zs = true) (hnp : np ≤ 1000) :
    Calls Try.prog 95 #[.slice As ns cs, .slice At nt ct, .slice Ap np cp] w fun e w' => e = .returned (.tuple (locV ss zs (locN ss zs path 0))) ∧ Below w.heap.size w w' := by
  have h0 := PartAt.zero hv
  obtain ⟨h1, h60, hnum, hscan⟩ := valOk_term hv
  have har := sigOk_ar (valOk_sig hv)
  have hsl := sigOk_len (valOk_sig hv)
  have hh : HeadsOk ss zs := fun z hz => (hnum z hz).2
  have hls := hs.len
  have hlt := ht.len
  have hlp := hp.len
  rw [← hls] at hsl
  rw [← hlt] at h1 h60
  have HE := Lib.hid (fun V (hb : Below w.heap.size w V) (i : Nat) (hi : i ≤ 1000000) => end_any ss zs har hh As At ns cs nt ct i V (hs.up hb) (ht.up hb) hsl.1 h1 (by omega) (by omega) hi)
  have HEP := Lib.hid (fun b (hb : PartAt ss zs b) i (hi : i < arOf ss (zs.getD b 0)) => show endI ss zs (psA ss zs b i) = ((psA ss zs b (i + 1) : Nat) : Int) ∧ psA ss zs b i ≤ 60 ∧ psA ss zs b (i + 1) ≤ 60 by
    have hi' := hi
    rw [hb.getD] at hi'
    obtain ⟨s1, s2, s3, _⟩ := prt_step hb.is hb.1 hi'
    exact ⟨endI_scan s1 s3, by omega, by omega⟩)
  have HEW := Lib.hid (fun b (hb : PartAt ss zs b) => show endI ss zs b = ((b + (prt ss zs b).length : Nat) : Int) ∧ b + (prt ss zs b).length ≤ 60 by
    have hle := hb.is.le
    exact ⟨endI_scan hb.is.whole hle, by omega⟩)
  have HP0 := Lib.hid (fun b (hb : PartAt ss zs b) => show psA ss zs b 0 = b + 1 ∧ b < nt by
    have := hb.1
    exact ⟨psA_zero hb.1, by omega⟩)
  have HPA := Lib.hid (fun b (hb : PartAt ss zs b) k (hk : k < arOf ss (zs.getD b 0)) => hb.arg hk)
  have HT := Lib.hid (fun V (hb : Below w.heap.size w V) => ht.up hb)
  have HPP := Lib.hid (fun V (hb : Below w.heap.size w V) => hp.up hb)
  obtain ⟨bs, offs, rfl, hbs, hsg⟩ := hs.mem (by omega)
  have HSG := Lib.hid hsg
  have HAR := Lib.hid har
  have HHH := Lib.hid hh
  have HLS := Lib.hid hls
  have HLT := Lib.hid hlt
  have HLP := Lib.hid hlp
  obtain ⟨R, hR⟩ : ∃ R, locN ss zs path 0 = R := ⟨_, rfl⟩
  rw [hR]
  have HR0 := Lib.hid (show locN ss zs (path.drop 0) 0 = R by simpa using hR)
  have HPT := Lib.hid h0
  clear hs ht hp hv h0 hnum hscan har hh hls hlt hlp hsg hR
  go_enter Try.func95, Try.ntmps95
  go_wp2
  go_loopw [6, 14] (fun f i wr => ∃ j b : Nat, j ≤ np ∧ i = .int .i64 j ∧ f = .int .i64 b ∧ Hid (PartAt ss zs b) ∧ Hid (locN ss zs (path.drop j) b = R) ∧ Below w.heap.size w wr) (fun _ i _ => np - (intOf i).toNat)
  case atStart => exact ⟨0, 0, Nat.zero_le _, rfl, rfl, HPT, HR0, Below.refl _ _⟩
  case round =>
    obtain ⟨j, b, hj, rfl, rfl, hPT, hLR, hB⟩ := hrel
    have HB := Lib.hid hB
    obtain ⟨hp0, hbn⟩ := HP0.out b hPT.out
    by_cases hlt : j < np
    · obtain ⟨bp, op, k, hAp, c1, k1, e1⟩ := (HPP.out wr hB).cellAt hlt
      obtain ⟨bt, ot, x, hAt, c2, k2, e2⟩ := (HT.out wr hB).cellAt hbn
      subst hAp hAt
      have hd := drop_at (l := path) (j := j) (k := k) (by rw [List.getElem?_eq_getElem k1, e1])
      have hLR2 := hLR.out
      rw [hd] at hLR2
      have hg : zs.getD b 0 = x := by rw [List.getD_eq_getElem?_getD, List.getElem?_eq_getElem k2, e2]; rfl
      have hxl := HHH.out _ (List.getElem_mem k2)
      rw [e2] at hxl
      have hbad := fun h => (locN_bad (ss := ss) (zs := zs) (p := path.drop (j + 1)) (a := b) (k := k) h).symm.trans hLR2
      have hstep := fun i (h : i < arOf ss (zs.getD b 0)) (e : k = (i : Int)) => (locN_step (ss := ss) (zs := zs) (p := path.drop (j + 1)) h).symm.trans (e ▸ hLR2)
      have hep := fun i (h : i < arOf ss (zs.getD b 0)) => HEP.out b hPT.out i h
      have hpa := fun i (h : i < arOf ss (zs.getD b 0)) => HPA.out b hPT.out i h
      rw [hg] at hbad hstep hep hpa
      have hj0 : (0 : Int) ≤ (j : Int) := by omega
      have hj1 : (j : Int) < (np : Int) := by omega
      have hb0 : (0 : Int) ≤ (b : Int) := by omega
      have hb1 : (b : Int) < (nt : Int) := by omega
      clear hd hLR hLR2 hg e1 e2 k1 k2 hB
      by_cases hx : x < 0
      · have ha : arOf ss x = 0 := by simp [arOf, hx]
        have H := Lib.hid (show none = R from hbad (by rw [ha]; omega))
        clear hbad hstep hep hpa ha hxl
        go_wp2
        go_ret3
        exact ⟨by rw [← H.out]; rfl, HB.out⟩
      · obtain ⟨q, rfl⟩ : ∃ q : Nat, x = (q : Int) := ⟨x.toNat, by omega⟩
        have hql : q < ss.length := by omega
        have har1 := arOf_at hql
        have hc3 := (HB.out.cell (p := ⟨bs, offs + q * 2 + 1, none⟩) hbs).trans (HSG.out.ar q hql)
        obtain ⟨ha0, ha3⟩ := HAR.out _ (List.getElem_mem hql)
        obtain ⟨r, hr⟩ : ∃ r : Nat, ss[q].2 = (r : Int) := ⟨ss[q].2.toNat, by omega⟩
        rw [hr] at hc3 har1 ha3
        rw [Int.toNat_natCast] at har1
        rw [har1] at hbad hstep hep hpa
        have hq0 : (0 : Int) ≤ (q : Int) := by omega
        have hq1 : (q : Int) < (ns : Int) := by have := HLS.out; omega
        clear hr ha0 har1
        by_cases hk0 : k < 0
        · have H := Lib.hid (show none = R from hbad (by omega))
          clear hbad hstep hep hpa
          go_wp2
          go_ret3
          exact ⟨by rw [← H.out]; rfl, HB.out⟩
        · by_cases hkr : (r : Int) ≤ k
          · have H := Lib.hid (show none = R from hbad (by omega))
            clear hbad hstep hep hpa
            go_wp2
            go_ret3
            exact ⟨by rw [← H.out]; rfl, HB.out⟩
          · obtain ⟨kk, rfl⟩ : ∃ kk : Nat, k = (kk : Int) := ⟨k.toNat, by omega⟩
            have hkk : kk < r := by omega
            have H := Lib.hid (hstep kk hkk rfl)
            have H2 := Lib.hid (hpa kk hkk)
            have HEPP := Lib.hid hep
            clear hbad hstep hep hpa
            have HP1 := Lib.hid hp0
            clear hp0
            go_wp2
            go_loopw [6, 40] (fun f c w2 => ∃ i : Nat, i ≤ kk ∧ c = .int .i64 i ∧ f = .int .i64 (psA ss zs b i : Nat) ∧ Below w.heap.size w w2) (fun _ c _ => kk - (intOf c).toNat)
            case atStart => exact ⟨0, Nat.zero_le _, rfl, by rw [HP1.out]; go_num, HB.out⟩
            case round =>
              obtain ⟨i, hi, rfl, rfl, hB5⟩ := hrel
              have HB5 := Lib.hid hB5
              by_cases hlt2 : i < kk
              · obtain ⟨f1, f2, f3⟩ := HEPP.out i (by omega)
                obtain ⟨s, hs⟩ : ∃ s, psA ss zs b i = s := ⟨_, rfl⟩
                obtain ⟨s', hs'⟩ : ∃ s', psA ss zs b (i + 1) = s' := ⟨_, rfl⟩
                have HS' := Lib.hid hs'
                rw [hs, hs'] at f1
                rw [hs] at f2
                rw [hs'] at f3
                rw [hs]
                have C := Lib.hid (HE.out _ hB5 s (by omega))
                rw [f1] at C
                clear f1 hs hs' hB5
                go_wp2_with (go_at_call 84; refine C.out.mono ?_; rintro e w6 ⟨rfl, hB6⟩; have HB6 := Lib.hid (below_then HB5.out hB6); clear hB6)
                go_roundw
                case rel => exact ⟨i + 1, by omega, by go_num, by rw [HS'.out], HB6.out⟩
                case measure => simp [intOf]; omega
              · obtain rfl : i = kk := by omega
                go_wp2
                go_roundw
                case rel => exact ⟨j + 1, psA ss zs b i, by omega, by go_num, rfl, H2, H, HB5.out⟩
                case measure => simp [intOf]; omega
    · obtain rfl : j = np := by omega
      have hd : path.drop j = [] := List.drop_of_length_le (by have := HLP.out; omega)
      have hLR2 := hLR.out
      rw [hd, locN_nil] at hLR2
      have H := Lib.hid hLR2
      obtain ⟨f1, f2⟩ := HEW.out b hPT.out
      have C := Lib.hid (HE.out wr hB b (by omega))
      rw [f1] at C
      obtain ⟨s, hs⟩ : ∃ s, b + (prt ss zs b).length = s := ⟨_, rfl⟩
      have HSS := Lib.hid hs
      rw [hs] at C f2
      clear f1 hd hLR2 hs hLR hB
      go_wp2_with (go_at_call 84; refine C.out.mono ?_; rintro e w6 ⟨rfl, hB6⟩; have HB6 := Lib.hid (below_then HB.out hB6); clear hB6)
      go_ret3
      exact ⟨by rw [← H.out, ← HSS.out]; rfl, HB6.out⟩

set_option maxHeartbeats 400000 in
theorem at_any (As At Ap : Option Addr) (ns cs nt ct np cp : Nat) (ss : Sg) (zs path : List Int) (w : World) (hs : SigAt w w.heap.size As ns ss) (ht : IntsAt w w.heap.size At nt zs) (hp : IntsAt w w.heap.size Ap np path) (hct : nt ≤ ct) (hct2 : ct ≤ 9223372036854775807) (hnp : np ≤ 1000) :
    Calls Try.prog 85 #[.slice As ns cs, .slice At nt ct, .slice Ap np cp] w (RetT w (atR ss zs path).1 (atR ss zs path).2) := by
  have C := Lib.hid (valid_any As At ns cs nt ct ss zs w hs ht)
  cases hv : valOk ss zs
  · have hr : atR ss zs path = ([], 1) := by unfold atR; rw [if_pos hv]
    rw [hr]
    rw [hv] at C
    clear hs ht hp hv hr
    go_enter Try.func85, Try.ntmps85
    go_wp2_with (go_at_call 70; refine C.out.mono ?_; rintro e w1 ⟨rfl, hB⟩; have HB := Lib.hid hB)
    go_ret2
    exact ⟨none, 0, 0, rfl, IntsAt.nil _ _ 0, HB.out⟩
  · have C2 := Lib.hid (fun V (hb : Below w.heap.size w V) => locate_any As At Ap ns cs nt ct np cp ss zs path V (hs.up hb) (ht.up hb) (hp.up hb) hv hnp)
    rw [hv] at C
    cases hl : locN ss zs path 0 with
    | none =>
      have hr : atR ss zs path = ([], 8) := by unfold atR; rw [if_neg (by simp [hv]), hl]
      rw [hr]
      simp only [hl, locV] at C2
      clear hs ht hp hv hr hl
      go_enter Try.func85, Try.ntmps85
      go_wp2_with (first
        | (go_at_call 70; refine C.out.mono ?_; rintro e w1 ⟨rfl, hB⟩; have HB := Lib.hid hB; clear hB)
        | (go_at_call 95; refine (C2.out _ HB.out).mono ?_; rintro e w2 ⟨rfl, hB2⟩; have HB2 := Lib.hid (below_then HB.out hB2); clear hB2))
      go_ret2
      exact ⟨none, 0, 0, rfl, IntsAt.nil _ _ 0, HB2.out⟩
    | some a =>
      have hr := atR_mk hv hl
      rw [hr]
      simp only [hl, locV] at C2
      have hpa := (locN_part path 0 a (PartAt.zero hv) hl).1
      have hP := hpa.is
      obtain ⟨h1, h60, _, _⟩ := valOk_term hv
      have hlt := ht.len
      obtain ⟨P, hPP⟩ : ∃ P, prt ss zs a = P := ⟨_, rfl⟩
      rw [hPP] at hP C2 ⊢
      have hl1 := hP.len
      have hl2 := hP.le
      have hal := hpa.1
      obtain ⟨bt, offt, rfl, hbt, htc⟩ := ht.mem (by omega)
      obtain ⟨m, hm⟩ : ∃ m, P.length = m := ⟨_, rfl⟩
      obtain ⟨e, he⟩ : ∃ e, a + m = e := ⟨_, rfl⟩
      have hcells : ∀ j (h : j < P.length), w.cell? ⟨bt, offt + a + j, none⟩ = some (.int .i64 P[j]) := by
        intro j hj
        have e1 : (zs.drop a)[j]? = some P[j] := by rw [hP.split, List.getElem?_append_left hj, List.getElem?_eq_getElem hj]
        rw [List.getElem?_drop] at e1
        obtain ⟨hj2, e2⟩ := List.getElem?_eq_some_iff.1 e1
        rw [Nat.add_assoc, ← e2]
        exact htc (a + j) hj2
      have C3 := Lib.hid (fun V (hb : Below w.heap.size w V) c => cloneT_any V bt (offt + a) m c P (by omega) (by omega) hm (fun j hj => (hb.cell (p := ⟨bt, offt + a + j, none⟩) hbt).trans (hcells j hj)) (Nat.lt_of_lt_of_le hbt hb.size))
      have HM := Lib.hid hm
      rw [hm, he] at C2
      have hea : e - a = m := by omega
      have g1 : a ≤ e := by omega
      have g2 : e ≤ ct := by omega
      have g3 : ct ≠ a := by omega
      have g4 : (0 : Int) ≤ (a : Int) := by omega
      have g5 : m ≤ 60 := by omega
      clear hs ht hp hv hr hl hpa hP h1 h60 hlt hPP hm htc hcells hl1 hl2 hal he
      go_enter Try.func85, Try.ntmps85
      go_wp2_with (first
        | (go_at_call 70; refine C.out.mono ?_; rintro e w1 ⟨rfl, hB⟩; have HB := Lib.hid hB; clear hB)
        | (go_at_call 95; refine (C2.out _ HB.out).mono ?_; rintro e w2 ⟨rfl, hB2⟩; have HB2 := Lib.hid (below_then HB.out hB2); clear hB2)
        | (go_at_call 87; refine (C3.out _ HB2.out _).mono ?_; rintro e w3 ⟨v3, rfl, hrow3, hB3⟩; simp only [List.length_map] at hrow3; obtain ⟨A3, c3, e3, hI3⟩ := row_ints hrow3 (by rw [HM.out]; omega); subst e3; have HI3 := Lib.hid hI3; have HB3 := Lib.hid (below_then HB2.out hB3); clear hrow3 hI3 hB3))
      go_ret2
      exact ⟨_, _, _, rfl, HI3.out, HB3.out⟩

end Go.Proofs.Ytojofbmpknpggaa
