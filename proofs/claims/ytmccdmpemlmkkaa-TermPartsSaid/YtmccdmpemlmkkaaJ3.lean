/- Contract: the reference's Parts. -/
import Derived.Test.YtmccdmpemlmkkaaJ2
import Derived.Test.YtmccdmpemlmkkaaH9
namespace Go.Proofs.Ytmccdmpemlmkkaa
open Go.RowKit

/-- The parts that begin before a place, in order, each once. -/
def partsTo (ss : Sg) (zs : List Int) : Nat → List (List Int)
  | 0 => []
  | k + 1 => withL (prt ss zs k) (partsTo ss zs k)
theorem partsTo_mem (ss : Sg) (zs z : List Int) : ∀ k, z ∈ partsTo ss zs k ↔ ∃ i, i < k ∧ z = prt ss zs i
  | 0 => by simp [partsTo]
  | k + 1 => by
    rw [partsTo, withL_mem, partsTo_mem ss zs z k]
    constructor
    · rintro (h | ⟨i, h1, h2⟩)
      · exact ⟨k, by omega, h⟩
      · exact ⟨i, by omega, h2⟩
    · rintro ⟨i, h1, h2⟩
      by_cases e : i = k
      · subst e; exact .inl h2
      · exact .inr ⟨i, by omega, h2⟩
theorem partsTo_ord (ss : Sg) (zs : List Int) : ∀ k, InOrd (partsTo ss zs k)
  | 0 => by simp [partsTo, InOrd]
  | k + 1 => withL_ord (partsTo_ord ss zs k)
theorem partsTo_len (ss : Sg) (zs : List Int) : ∀ k, (partsTo ss zs k).length ≤ k
  | 0 => by simp [partsTo]
  | k + 1 => by
    have := withL_len (t := prt ss zs k) (partsTo ss zs k)
    have := partsTo_len ss zs k
    rw [partsTo]
    omega
theorem row_low {w : World} {base n : Nat} {v : Value} {zs : List Int} (h : w.ownsRow base 3 1 v n (zs.map (Value.int .i64))) (hn : n ≤ 1000000) : ∃ A c, v = .slice A n c ∧ IntsAt w w.heap.size A n zs := row_ints h hn

set_option maxHeartbeats 400000 in
theorem refParts_bad (As At : Option Addr) (ns cs nt ct : Nat) (ss : Sg) (zs : List Int) (w : World) (hs : SigAt w w.heap.size As ns ss) (ht : IntsAt w w.heap.size At nt zs) (hv : valOk ss zs = false) :
    Calls Try.prog 37 #[.slice As ns cs, .slice At nt ct] w (RetTs w [] 1) := by
  have C := Lib.hid (refValid_any As At ns cs nt ct ss zs w _ hs ht)
  have HV := Lib.hid hv
  clear hv hs ht
  go_enter Try.func37, Try.ntmps37
  go_wp2_with (go_at_call 15; refine C.out.mono ?_; rintro e w1 ⟨rfl, k1, rfl⟩; rw [HV.out])
  go_ret2
  exact ⟨none, 0, 0, [], rfl, TermsAt.nil _ _, below_drewN (Below.refl _ _) _⟩

set_option maxRecDepth 100000 in
set_option maxHeartbeats 2000000 in
theorem refParts_ok (As At : Option Addr) (ns cs nt ct : Nat) (ss : Sg) (zs : List Int) (w : World) (hs : SigAt w w.heap.size As ns ss) (ht : IntsAt w w.heap.size At nt zs) (hct : nt ≤ ct) (hct2 : ct ≤ 9223372036854775807) (hv : valOk ss zs = true) :
    Calls Try.prog 37 #[.slice As ns cs, .slice At nt ct] w (RetTs w (partsTo ss zs zs.length) 0) := by
  have C := Lib.hid (refValid_any As At ns cs nt ct ss zs w _ hs ht)
  rw [hv] at C
  obtain ⟨h1, h60, hnum, _⟩ := valOk_term hv
  have hlt := ht.len
  have hw := walk_of hv
  have C4 := Lib.hid (fun V (hb : Below w.heap.size w V) a (ha : a < nt) => by
    obtain ⟨p1, r0, p2⟩ := hw.part a (by omega)
    exact refPart_any As At ns cs nt ct ss zs r0 a V (hs.up hb) (ht.up hb) (sigOk_ar (valOk_sig hv)) (fun z hz => (hnum z hz).2) (by omega) hct hct2 p1 p2)
  have HPL := Lib.hid (fun a (ha : a < nt) => show (prt ss zs a).length ≤ 60 by
    have := (hw.part a (by omega)).is.le
    omega)
  have HS := Lib.hid (fun k => show partsTo ss zs (k + 1) = withL (prt ss zs k) (partsTo ss zs k) from rfl)
  have HLE := Lib.hid (fun k => partsTo_len ss zs k)
  have hnt60 : nt ≤ 60 := by omega
  obtain ⟨pt, hpt⟩ : ∃ pt, partsTo ss zs = pt := ⟨_, rfl⟩
  simp only [hpt] at HS HLE
  have HP0 := Lib.hid (show pt 0 = [] by rw [← hpt]; rfl)
  rw [hpt, ← hlt]
  clear hs ht hv h1 h60 hnum hlt hw hpt hct hct2
  go_enter Try.func37, Try.ntmps37
  go_wp2_with (go_at_call 15; refine C.out.mono ?_; rintro e w1 ⟨rfl, j1, rfl⟩; have HB1 := Lib.hid (below_drewN (Below.refl w.heap.size w) j1))
  go_loopw [6, 7] (fun v i wr => ∃ (k m : Nat) (Av : Option Addr) (cv : Nat) (ls : List Hd), k ≤ nt ∧ i = .int .i64 k ∧ v = .slice Av m cv ∧ TermsAt wr wr.heap.size Av m ls (pt k) ∧ Below w.heap.size w wr) (fun _ i _ => nt - (intOf i).toNat)
  case atStart => exact ⟨0, 0, none, 0, [], Nat.zero_le _, rfl, rfl, by rw [HP0.out]; exact TermsAt.nil _ _, HB1.out⟩
  case round =>
    obtain ⟨k, m, Av, cv, ls, hk, rfl, rfl, hT, hB⟩ := hrel
    have HT := Lib.hid hT
    have HB := Lib.hid hB
    have hm := hT.len
    have hm2 := HLE.out k
    have hm3 : m ≤ 60 := by omega
    clear hm hm2
    by_cases hlt : k < nt
    · have C5 := Lib.hid (C4.out wr HB.out k hlt)
      have hpl := HPL.out k hlt
      have H := Lib.hid (HS.out k)
      obtain ⟨P, hP⟩ : ∃ P, prt ss zs k = P := ⟨_, rfl⟩
      rw [hP] at C5 hpl H
      have hk0 : (0 : Int) ≤ (k : Int) := by omega
      have hk1 : (k : Int) < (nt : Int) := by omega
      clear hT hB hP
      go_wp2_with (first
        | (go_at_call 52; refine C5.out.mono ?_; rintro e w3 ⟨v3, rfl, hrow3, hB3⟩
           obtain ⟨A3, c3, e3, hI3⟩ := row_low hrow3 (by omega)
           subst e3
           have HI3 := Lib.hid hI3
           have HT3 := Lib.hid (HT.out.up hB3)
           have HB3 := Lib.hid (below_then HB.out hB3)
           clear hrow3 hI3 hB3)
        | (go_at_call 63; ((with_reducible refine (with_any _ _ _ _ _ _ _ _ P _ HT3.out HI3.out (by omega)).mono ?_); rintro e w4 ⟨A4, m4, d4, l4, rfl, hT4, hB4⟩)
           have HT4 := Lib.hid hT4
           have HB4 := Lib.hid (below_then HB3.out hB4)
           clear hT4 hB4))
      go_roundw
      case rel => exact ⟨k + 1, m4, A4, d4, l4, by omega, by go_num, rfl, by rw [H.out]; exact HT4.out, HB4.out⟩
      case measure => simp [intOf]; omega
    · obtain rfl : k = nt := by omega
      clear hT hB
      go_wp2
      go_ret2
      exact ⟨_, _, _, _, rfl, HT.out, HB.out⟩

end Go.Proofs.Ytmccdmpemlmkkaa
