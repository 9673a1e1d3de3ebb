/- Contracts: the reference's walk, At. -/
import Derived.Test.YtafpcpdafojgkaaH8
import Derived.Test.YtafpcpdafojgkaaB5
namespace Go.Proofs.Ytafpcpdafojgkaa
open Go.RowKit

def walkI : Option Nat → Int
  | none => -1
  | some a => (a : Int)

set_option maxRecDepth 100000 in
set_option maxHeartbeats 2000000 in
theorem refWalk_any (As At Ap : Option Addr) (ns cs nt ct np cp : Nat) (ss : Sg) (zs path : List Int) (w : World) (hs : SigAt w w.heap.size As ns ss) (ht : IntsAt w w.heap.size At nt zs) (hp : IntsAt w w.heap.size Ap np path) (hv : valOk ss zs = true) (hnp : np ≤ 1000) :
    Calls Try.prog 74 #[.slice As ns cs, .slice At nt ct, .slice Ap np cp] w fun e w' => e = .returned (.int .i64 (walkI (locN ss zs path 0))) ∧ Below w.heap.size w w' := by
  have h0 := PartAt.zero hv
  obtain ⟨h1, h60, hnum, hscan⟩ := valOk_term hv
  have har := sigOk_ar (valOk_sig hv)
  have hh : HeadsOk ss zs := fun z hz => (hnum z hz).2
  have hlt := ht.len
  have hlp := hp.len
  have C1 := Lib.hid (fun V (hb : Below w.heap.size w V) b (hpt : PartAt ss zs b) => by
    obtain ⟨p1, r0, p2⟩ := hpt
    have := refArgs_any As At ns cs nt ct ss zs r0 b V (hs.up hb) (ht.up hb) har hh (by omega) p1 p2
    rw [← PartAt.getD ⟨p1, r0, p2⟩] at this
    exact this)
  have HAR3 := Lib.hid (fun z => arOf_le har z)
  have HPA := Lib.hid (fun b (hb : PartAt ss zs b) k (hk : k < arOf ss (zs.getD b 0)) => hb.arg hk)
  have HPL := Lib.hid (fun b (hb : PartAt ss zs b) => show b < 60 by have := hb.1; omega)
  have HP := Lib.hid hp
  have HLP := Lib.hid hlp
  obtain ⟨R, hR⟩ : ∃ R, locN ss zs path 0 = R := ⟨_, rfl⟩
  rw [hR]
  have HR0 := Lib.hid (show locN ss zs (path.drop 0) 0 = R by simpa using hR)
  have HPT := Lib.hid h0
  clear hs ht hp hv h0 hnum hscan har hh hlt hlp hR h1 h60
  go_enter Try.func74, Try.ntmps74
  go_wp2
  go_loopw [7, 8] (fun f i wr => ∃ j b : Nat, j ≤ np ∧ i = .int .i64 j ∧ f = .int .i64 b ∧ Hid (PartAt ss zs b) ∧ Hid (locN ss zs (path.drop j) b = R) ∧ Below w.heap.size w wr) (fun _ i _ => np - (intOf i).toNat)
  case atStart => exact ⟨0, 0, Nat.zero_le _, rfl, rfl, HPT, HR0, Below.refl _ _⟩
  case round =>
    obtain ⟨j, b, hj, rfl, rfl, hPT, hLR, hB⟩ := hrel
    have HB := Lib.hid hB
    by_cases hlt : j < np
    · obtain ⟨bp, op, k, rfl, c1, k1, e1⟩ := HP.out.cellAt hlt
      obtain ⟨bp', op', he', hbp, _⟩ := HP.out.mem (by omega)
      cases he'
      have HC := Lib.hid (fun V (hV : Below w.heap.size w V) => (hV.cell (p := ⟨bp, op + j, none⟩) hbp).trans c1)
      have hd := drop_at (l := path) (j := j) (k := k) (by rw [List.getElem?_eq_getElem k1, e1])
      have hLR2 := hLR.out
      rw [hd] at hLR2
      have hbad := fun h => (locN_bad (ss := ss) (zs := zs) (p := path.drop (j + 1)) (a := b) (k := k) h).symm.trans hLR2
      have hstep := fun i (h : i < arOf ss (zs.getD b 0)) (e : k = (i : Int)) => (locN_step (ss := ss) (zs := zs) (p := path.drop (j + 1)) h).symm.trans (e ▸ hLR2)
      have hpa := fun i (h : i < arOf ss (zs.getD b 0)) => HPA.out b hPT.out i h
      have hr3 := HAR3.out (zs.getD b 0)
      have hbl := HPL.out b hPT.out
      have C2 := Lib.hid (C1.out wr hB b hPT.out)
      obtain ⟨r, hr⟩ : ∃ r, arOf ss (zs.getD b 0) = r := ⟨_, rfl⟩
      rw [hr] at hbad hstep hpa hr3 C2
      have HBG := Lib.hid (fun k (hk : k < r) => show (begs ss zs b r)[k]? = some ((psA ss zs b k : Nat) : Int) by simp [begs, hk])
      obtain ⟨bg, hbg⟩ : ∃ bg, begs ss zs b r = bg := ⟨_, rfl⟩
      rw [hbg] at C2 HBG
      have hj0 : (0 : Int) ≤ (j : Int) := by omega
      have hj1 : (j : Int) < (np : Int) := by omega
      clear hd hLR hLR2 e1 k1 hr hbg c1 hB
      by_cases hk : k < 0 ∨ (r : Int) ≤ k
      · have H := Lib.hid (show none = R from hbad hk)
        have HW := Lib.hid (witB_false (n := k) (lo := 0) (hi := (r : Int) - 1) (by omega))
        clear hbad hstep hpa hk
        go_wp2_with (first
          | (go_at_call 70; refine C2.out.mono ?_; rintro e w2 ⟨v, rfl, hrow, hB2⟩; obtain ⟨Ar, cr, her, hra⟩ := row_ints hrow (by omega); subst her; have HB2 := Lib.hid (below_then HB.out hB2); have cp2 := HC.out _ HB2.out; clear hrow hB2 hra)
          | (go_at_call 60; refine (within_any _ _ _ _).mono ?_; rintro e w3 ⟨rfl, rfl⟩; rw [HW.out]))
        go_ret
        exact ⟨by rw [← H.out]; rfl, HB2.out⟩
      · obtain ⟨kk, rfl⟩ : ∃ kk : Nat, k = (kk : Int) := ⟨k.toNat, by omega⟩
        have hkk : kk < r := by omega
        have H := Lib.hid (hstep kk hkk rfl)
        have H2 := Lib.hid (hpa kk hkk)
        have HW := Lib.hid (witB_true (n := (kk : Int)) (lo := 0) (hi := (r : Int) - 1) (by omega) (by omega))
        have hk0 : (0 : Int) ≤ (kk : Int) := by omega
        have hk1 : (kk : Int) < (r : Int) := by omega
        clear hbad hstep hpa hk
        go_wp2_with (first
          | (go_at_call 70; refine C2.out.mono ?_; rintro e w2 ⟨v, rfl, hrow, hB2⟩; obtain ⟨Ar, cr, her, hra⟩ := row_ints hrow (by omega); subst her; have HB2 := Lib.hid (below_then HB.out hB2); have cp2 := HC.out _ HB2.out
             obtain ⟨b3, o3, y, e3, cy, ky, ey⟩ := hra.cellAt hkk
             subst e3
             have hy := HBG.out kk hkk
             rw [List.getElem?_eq_getElem ky, ey] at hy
             obtain rfl := Option.some.inj hy
             clear hrow hB2 hra hy ey ky)
          | (go_at_call 60; refine (within_any _ _ _ _).mono ?_; rintro e w3 ⟨rfl, rfl⟩; rw [HW.out]))
        go_roundw
        case rel => exact ⟨j + 1, psA ss zs b kk, by omega, by go_num, rfl, H2, H, HB2.out⟩
        case measure => simp [intOf]; omega
    · obtain rfl : j = np := by omega
      have hd : path.drop j = [] := List.drop_of_length_le (by have := HLP.out; omega)
      have hLR2 := hLR.out
      rw [hd, locN_nil] at hLR2
      have H := Lib.hid hLR2
      clear hd hLR2 hLR hB
      go_wp2
      go_ret
      exact ⟨by rw [← H.out]; rfl, HB.out⟩

set_option maxHeartbeats 400000 in
theorem refAt_any (As At Ap : Option Addr) (ns cs nt ct np cp : Nat) (ss : Sg) (zs path : List Int) (w : World) (hs : SigAt w w.heap.size As ns ss) (ht : IntsAt w w.heap.size At nt zs) (hp : IntsAt w w.heap.size Ap np path) (hct : nt ≤ ct) (hct2 : ct ≤ 9223372036854775807) (hnp : np ≤ 1000) :
    Calls Try.prog 34 #[.slice As ns cs, .slice At nt ct, .slice Ap np cp] w (RetT w (atR ss zs path).1 (atR ss zs path).2) := by
  have C := Lib.hid (refValid_any As At ns cs nt ct ss zs w _ hs ht)
  have HD : Hid (∀ k, Below w.heap.size w (w.drewN k)) := fun k => below_drewN (Below.refl _ _) k
  cases hv : valOk ss zs
  · have hr : atR ss zs path = ([], 1) := by unfold atR; rw [if_pos hv]
    rw [hr]
    rw [hv] at C
    clear hs ht hp hv hr
    go_enter Try.func34, Try.ntmps34
    go_wp2_with (go_at_call 19; refine C.out.mono ?_; rintro e w1 ⟨rfl, j1, rfl⟩)
    go_ret2
    exact ⟨none, 0, 0, rfl, IntsAt.nil _ _ 0, HD.out _⟩
  · have C2 := Lib.hid (fun V (hb : Below w.heap.size w V) => refWalk_any As At Ap ns cs nt ct np cp ss zs path V (hs.up hb) (ht.up hb) (hp.up hb) hv hnp)
    rw [hv] at C
    cases hl : locN ss zs path 0 with
    | none =>
      have hr : atR ss zs path = ([], 8) := by unfold atR; rw [if_neg (by simp [hv]), hl]
      rw [hr]
      simp only [hl, walkI] at C2
      clear hs ht hp hv hr hl
      go_enter Try.func34, Try.ntmps34
      go_wp2_with (first
        | (go_at_call 19; refine C.out.mono ?_; rintro e w1 ⟨rfl, j1, rfl⟩)
        | (go_at_call 74; refine (C2.out _ (HD.out _)).mono ?_; rintro e w2 ⟨rfl, hB2⟩; have HB2 := Lib.hid (below_then (HD.out _) hB2); clear hB2))
      go_ret2
      exact ⟨none, 0, 0, rfl, IntsAt.nil _ _ 0, HB2.out⟩
    | some a =>
      have hr := atR_mk hv hl
      rw [hr]
      simp only [hl, walkI] at C2
      have hpa := (locN_part path 0 a (PartAt.zero hv) hl).1
      obtain ⟨h1, h60, hnum, _⟩ := valOk_term hv
      have hlt := ht.len
      have hple := hpa.is.le
      obtain ⟨p1, r0, p2⟩ := hpa
      have C3 := Lib.hid (fun V (hb : Below w.heap.size w V) => refPart_any As At ns cs nt ct ss zs r0 a V (hs.up hb) (ht.up hb) (sigOk_ar (valOk_sig hv)) (fun z hz => (hnum z hz).2) (by omega) hct hct2 p1 p2)
      obtain ⟨P, hPP⟩ : ∃ P, prt ss zs a = P := ⟨_, rfl⟩
      rw [hPP] at hple C3 ⊢
      have hpl : P.length ≤ 60 := by omega
      have ha60 : a ≤ 60 := by omega
      have hneg : ¬ (a : Int) < 0 := by omega
      clear hs ht hp hv hr hl h1 h60 hlt hPP p1 p2 hnum hple
      go_enter Try.func34, Try.ntmps34
      go_wp2_with (first
        | (go_at_call 19; refine C.out.mono ?_; rintro e w1 ⟨rfl, j1, rfl⟩)
        | (go_at_call 74; refine (C2.out _ (HD.out _)).mono ?_; rintro e w2 ⟨rfl, hB2⟩; have HB2 := Lib.hid (below_then (HD.out _) hB2); clear hB2)
        | (go_at_call 71; refine (C3.out _ HB2.out).mono ?_; rintro e w3 ⟨v3, rfl, hrow3, hB3⟩; obtain ⟨A3, c3, e3, hI3⟩ := row_ints hrow3 (by omega); subst e3; have HI3 := Lib.hid hI3; have HB3 := Lib.hid (below_then HB2.out hB3); clear hrow3 hI3 hB3))
      go_ret2
      exact ⟨_, _, _, rfl, HI3.out, HB3.out⟩

end Go.Proofs.Ytafpcpdafojgkaa
