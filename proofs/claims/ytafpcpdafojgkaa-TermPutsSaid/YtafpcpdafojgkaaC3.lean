/- Contract: Put. -/
import Derived.Test.YtafpcpdafojgkaaC2
import Derived.Test.YtafpcpdafojgkaaB8
import Derived.Deep.RegionHeld3
import Derived.Deep.RegionHeldLaw
namespace Go.Proofs.Ytafpcpdafojgkaa
open Go.RowKit

theorem ints_take {w : World} {B n b off a : Nat} {zs : List Int} (h : IntsAt w B (some ⟨b, off, none⟩) n zs) (ha : a ≤ n) : IntsAt w B (some ⟨b, off, none⟩) a (zs.take a) := by
  have hl := h.len
  have hm := h.max
  refine ⟨by rw [List.length_take]; omega, by omega, fun h0 => ?_⟩
  obtain ⟨b', off', e, hb, hc⟩ := h.mem (by omega)
  cases e
  exact ⟨b, off, rfl, hb, fun j hj => by rw [List.length_take] at hj; rw [hc j (by omega), List.getElem_take]⟩
theorem ints_drop {w : World} {B n b off e : Nat} {zs : List Int} (h : IntsAt w B (some ⟨b, off, none⟩) n zs) (he : e ≤ n) : IntsAt w B (some ⟨b, off + e, none⟩) (n - e) (zs.drop e) := by
  have hl := h.len
  have hm := h.max
  refine ⟨by rw [List.length_drop]; omega, by omega, fun h0 => ?_⟩
  obtain ⟨b', off', e', hb, hc⟩ := h.mem (by omega)
  cases e'
  exact ⟨b, off + e, rfl, hb, fun j hj => by rw [List.length_drop] at hj; rw [Nat.add_assoc, hc (e + j) (by omega), List.getElem_drop]⟩
theorem terms3 {V : World} {A1 A2 A3 : Option Addr} {n1 c1 n2 c2 n3 c3 : Nat} {x y z : List Int} (h1 : IntsAt V V.heap.size A1 n1 x) (h2 : IntsAt V V.heap.size A2 n2 y) (h3 : IntsAt V V.heap.size A3 n3 z) :
    TermsAt (V.alloc (.cells #[.slice A1 n1 c1, .slice A2 n2 c2, .slice A3 n3 c3] 25)) (V.alloc (.cells #[.slice A1 n1 c1, .slice A2 n2 c2, .slice A3 n3 c3] 25)).heap.size (some ⟨V.heap.size, 0, none⟩) 3 [(A1, n1, c1), (A2, n2, c2), (A3, n3, c3)] [x, y, z] := by
  refine ⟨HdsAt.of_blk _ (Blk.new V _ _) rfl rfl (by simp), rfl, fun j a b => ?_⟩
  match j, a, b with
  | 0, _, _ => exact h1.alloc _
  | 1, _, _ => exact h2.alloc _
  | 2, _, _ => exact h3.alloc _
theorem putL_flat (ss : Sg) (zs us : List Int) (a : Nat) : [zs.take a, us, zs.drop (a + (prt ss zs a).length)].flatten = putL ss zs us a := by
  unfold putL
  simp

/-- A slice of ints, with its capacity, and an error are returned. -/
def RetTc (w : World) (zs : List Int) (er : Int) (e : Ending) (w' : World) : Prop :=
  ∃ A n c, e = .returned (.tuple #[.slice A n c, .int .i64 er]) ∧ IntsAt w' w'.heap.size A n zs ∧ Below w.heap.size w w' ∧ n ≤ c ∧ c ≤ 9223372036854775807
set_option maxHeartbeats 400000 in
theorem put_bad (As At Ap Au : Option Addr) (ns cs nt ct np cp nu cu : Nat) (ss : Sg) (zs path us : List Int) (w : World) (hs : SigAt w w.heap.size As ns ss) (ht : IntsAt w w.heap.size At nt zs) (hu : IntsAt w w.heap.size Au nu us) (hv : (valOk ss zs && valOk ss us) = false) :
    Calls Try.prog 35 #[.slice As ns cs, .slice At nt ct, .slice Ap np cp, .slice Au nu cu] w (RetTc w (putR ss zs path us).1 (putR ss zs path us).2) := by
  have hr : putR ss zs path us = ([], 1) := by unfold putR; rw [if_pos hv]
  rw [hr]
  have C := Lib.hid (valid_any As At ns cs nt ct ss zs w hs ht)
  cases h1 : valOk ss zs
  · rw [h1] at C
    clear hs ht hu hv hr h1
    go_enter Try.func35, Try.ntmps35
    go_wp2_with (go_at_call 18; refine C.out.mono ?_; rintro e w1 ⟨rfl, hB⟩; have HB := Lib.hid hB)
    go_ret2
    exact ⟨none, 0, 0, rfl, IntsAt.nil _ _ 0, HB.out, by omega, by omega⟩
  · have hsl := sigOk_len (valOk_sig h1)
    rw [← hs.len] at hsl
    have htu : termOk ss us = false := by rw [h1] at hv; simpa [valOk, valOk_sig h1] using hv
    have C2 := Lib.hid (fun V (hb : Below w.heap.size w V) => validTerm_any As Au ns cs nu cu ss us V (hs.up hb) (hu.up hb) (sigOk_ar (valOk_sig h1)) hsl.1 hsl.2)
    rw [h1] at C
    simp only [htu] at C2
    clear hs ht hu hv hr h1 htu
    go_enter Try.func35, Try.ntmps35
    go_wp2_with (first
      | (go_at_call 18; refine C.out.mono ?_; rintro e w1 ⟨rfl, hB⟩; have HB := Lib.hid hB; clear hB)
      | (go_at_call 62; refine (C2.out _ HB.out).mono ?_; rintro e w2 ⟨rfl, hB2⟩; have HB2 := Lib.hid (below_then HB.out hB2); clear hB2))
    go_ret2
    exact ⟨none, 0, 0, rfl, IntsAt.nil _ _ 0, HB2.out, by omega, by omega⟩

set_option maxRecDepth 100000 in
set_option maxHeartbeats 1000000 in
theorem put_any (As At Ap Au : Option Addr) (ns cs nt ct np cp nu cu : Nat) (ss : Sg) (zs path us : List Int) (w : World) (hs : SigAt w w.heap.size As ns ss) (ht : IntsAt w w.heap.size At nt zs) (hp : IntsAt w w.heap.size Ap np path) (hu : IntsAt w w.heap.size Au nu us) (hct : nt ≤ ct) (hct2 : ct ≤ 9223372036854775807) (hnp : np ≤ 1000) :
    Calls Try.prog 35 #[.slice As ns cs, .slice At nt ct, .slice Ap np cp, .slice Au nu cu] w (RetTc w (putR ss zs path us).1 (putR ss zs path us).2) := by
  cases hvv : (valOk ss zs && valOk ss us)
  · exact put_bad As At Ap Au ns cs nt ct np cp nu cu ss zs path us w hs ht hu hvv
  obtain ⟨hv, hvu⟩ : valOk ss zs = true ∧ valOk ss us = true := by simpa using hvv
  have C := Lib.hid (valid_any As At ns cs nt ct ss zs w hs ht)
  rw [hv] at C
  have hsl := sigOk_len (valOk_sig hv)
  rw [← hs.len] at hsl
  have htu : termOk ss us = true := by simpa [valOk, valOk_sig hv] using hvu
  have C2 := Lib.hid (fun V (hb : Below w.heap.size w V) => validTerm_any As Au ns cs nu cu ss us V (hs.up hb) (hu.up hb) (sigOk_ar (valOk_sig hv)) hsl.1 hsl.2)
  simp only [htu] at C2
  have C3 := Lib.hid (fun V (hb : Below w.heap.size w V) => locate_any As At Ap ns cs nt ct np cp ss zs path V (hs.up hb) (ht.up hb) (hp.up hb) hv hnp)
  cases hl : locN ss zs path 0 with
  | none =>
    have hr : putR ss zs path us = ([], 8) := by unfold putR; rw [if_neg (by simp [hvv]), hl]
    rw [hr]
    simp only [hl, locV] at C3
    clear hs ht hp hu hv hvv hvu hr hl htu
    go_enter Try.func35, Try.ntmps35
    go_wp2_with (first
      | (go_at_call 18; refine C.out.mono ?_; rintro e w1 ⟨rfl, hB⟩; have HB := Lib.hid hB; clear hB)
      | (go_at_call 62; refine (C2.out _ HB.out).mono ?_; rintro e w2 ⟨rfl, hB2⟩; have HB2 := Lib.hid (below_then HB.out hB2); clear hB2)
      | (go_at_call 73; refine (C3.out _ HB2.out).mono ?_; rintro e w3 ⟨rfl, hB3⟩; have HB3 := Lib.hid (below_then HB2.out hB3); clear hB3))
    go_ret2
    exact ⟨none, 0, 0, rfl, IntsAt.nil _ _ 0, HB3.out, by omega, by omega⟩
  | some a =>
    have hr := putR_mk (p := path) hv hvu hl
    rw [hr]
    simp only [hl, locV] at C3
    have hpa := (locN_part path 0 a (PartAt.zero hv) hl).1
    have hfl := putL_flat ss zs us a
    have hPle := hpa.is.le
    have hal := hpa.1
    obtain ⟨h1, h60, _, _⟩ := valOk_term hv
    obtain ⟨u1, u60, _, _⟩ := valOk_term hvu
    have hlt := ht.len
    have hlu := hu.len
    obtain ⟨e, he⟩ : ∃ e, a + (prt ss zs a).length = e := ⟨_, rfl⟩
    have hln : (putL ss zs us a).length = a + nu + (nt - e) := by
      unfold putL
      simp only [List.length_append, List.length_take, List.length_drop, he]
      omega
    rw [he] at hPle C3 hfl
    obtain ⟨F, hF⟩ : ∃ F, putL ss zs us a = F := ⟨_, rfl⟩
    rw [hF] at hfl hln ⊢
    obtain ⟨bt, offt, rfl, hbt, _⟩ := ht.mem (by omega)
    obtain ⟨bu, offu, rfl, hbu, _⟩ := hu.mem (by omega)
    have ha60 : a ≤ 60 := by omega
    have he60 : e ≤ 60 := by omega
    have hent : e ≤ nt := by omega
    have hnt60 : nt ≤ 60 := by omega
    have hnu60 : nu ≤ 60 := by omega
    have hact : a ≤ ct := by omega
    have hect : e ≤ ct := by omega
    by_cases h60' : 60 < F.length
    · rw [if_pos h60']
      have hgt : (60 : Int) < (a : Int) + (nu : Int) + (nt : Int) - (e : Int) := by omega
      clear hs ht hp hu hv hvv hvu hr hl htu hpa hfl hlt hlu hal h1 h60 u1 u60 hF he hbt hbu hln h60'
      go_enter Try.func35, Try.ntmps35
      go_wp2_with (first
        | (go_at_call 18; refine C.out.mono ?_; rintro e w1 ⟨rfl, hB⟩; have HB := Lib.hid hB; clear hB)
        | (go_at_call 62; refine (C2.out _ HB.out).mono ?_; rintro e w2 ⟨rfl, hB2⟩; have HB2 := Lib.hid (below_then HB.out hB2); clear hB2)
        | (go_at_call 73; refine (C3.out _ HB2.out).mono ?_; rintro e w3 ⟨rfl, hB3⟩; have HB3 := Lib.hid (below_then HB2.out hB3); clear hB3))
      go_ret2
      exact ⟨none, 0, 0, rfl, IntsAt.nil _ _ 0, HB3.out, by omega, by omega⟩
    · rw [if_neg h60']
      have hgt : ¬ (60 : Int) < (a : Int) + (nu : Int) + (nt : Int) - (e : Int) := by omega
      have hF1 : 1 ≤ F.length := by omega
      have hF60 : F.length ≤ 60 := by omega
      have HT := Lib.hid (fun V (hb : Below w.heap.size w V) => ht.up hb)
      have HU := Lib.hid (fun V (hb : Below w.heap.size w V) => hu.up hb)
      have HFL := Lib.hid hfl
      have ha0 : (0 : Int) ≤ (a : Int) := by omega
      have he0 : (0 : Int) ≤ (e : Int) := by omega
      have hct0 : ct ≠ 0 := by omega
      have C4 := Lib.hid (fun V (hb : Below w.heap.size w V) off3 n3 c3 (h3 : IntsAt V V.heap.size (some ⟨bt, off3, none⟩) n3 (zs.drop e)) => by
        have T3 := (terms3 (c1 := ct) (c2 := cu) (c3 := c3) (ints_take (HT.out V hb) (a := a) (by omega)) (HU.out V hb) h3).keep (w' := (V.alloc (.cells #[.slice (some ⟨bt, offt, none⟩) a ct, .slice (some ⟨bu, offu, none⟩) nu cu, .slice (some ⟨bt, off3, none⟩) n3 c3] 25)).drew) (fun _ _ => rfl)
        have := concat_any _ 3 3 _ _ _ T3 (by simp) (by omega) (by rw [hfl]; exact hF1) (by rw [hfl]; omega)
        rw [hfl] at this
        refine this.mono (R' := fun e w' => ∃ A n c, e = .returned (.slice A n c) ∧ IntsAt w' w'.heap.size A n F ∧ Below w.heap.size w w' ∧ n ≤ c ∧ c ≤ 9223372036854775807) ?_
        rintro e' w' ⟨v, rfl, ho, hB⟩
        obtain ⟨A, c, rfl, hI, hc⟩ := row_ints_c ho (by omega)
        exact ⟨A, _, c, rfl, hI, (hb.alloc hb.size _).drew.trans (hB.mono (by have := hb.size; simp; omega)), hc⟩)
      have HD := Lib.hid (fun V (hb : Below w.heap.size w V) => ints_drop (HT.out V hb) hent)
      have HZ := Lib.hid (fun V (h : ct = e) => show IntsAt V V.heap.size (some ⟨bt, offt, none⟩) 0 (zs.drop e) by
        have hz2 : zs.drop e = [] := List.drop_of_length_le (by omega)
        rw [hz2]
        exact ⟨rfl, by omega, fun h => absurd h (by omega)⟩)
      clear hs ht hp hu hv hvv hvu hr hl htu hpa hfl hlt hlu hal h1 h60 u1 u60 hF he hbt hbu hln h60'
      by_cases hce : ct = e
      · have HI := Lib.hid (fun V => HZ.out V hce)
        clear HD HZ
        subst hce
        go_enter Try.func35, Try.ntmps35
        go_wp2_with (first
          | (go_at_call 18; refine C.out.mono ?_; rintro e w1 ⟨rfl, hB⟩; have HB := Lib.hid hB; clear hB)
          | (go_at_call 62; refine (C2.out _ HB.out).mono ?_; rintro e w2 ⟨rfl, hB2⟩; have HB2 := Lib.hid (below_then HB.out hB2); clear hB2)
          | (go_at_call 73; refine (C3.out _ HB2.out).mono ?_; rintro e w3 ⟨rfl, hB3⟩; have HB3 := Lib.hid (below_then HB2.out hB3); clear hB3))
        go_region_held3 (fun _ => True) (first | trivial | assumption)
          ((go_at_call 75; refine (C4.out _ HB3.out _ _ _ (HI.out _)).mono ?_; rintro e w4 ⟨A4, n4, c4, rfl, hI4, hB4, hc4⟩; have HC4 := Lib.hid hc4; have HI4 := Lib.hid hI4; have HB4 := Lib.hid hB4; clear hI4 hB4 hc4))
        all_goals
          go_wp2
          go_ret2
          exact ⟨_, _, _, rfl, HI4.out, HB4.out, HC4.out⟩
      · have HI := Lib.hid (fun V hb => HD.out V hb)
        clear HD HZ
        have hec : ct ≠ e := hce
        go_enter Try.func35, Try.ntmps35
        go_wp2_with (first
          | (go_at_call 18; refine C.out.mono ?_; rintro e w1 ⟨rfl, hB⟩; have HB := Lib.hid hB; clear hB)
          | (go_at_call 62; refine (C2.out _ HB.out).mono ?_; rintro e w2 ⟨rfl, hB2⟩; have HB2 := Lib.hid (below_then HB.out hB2); clear hB2)
          | (go_at_call 73; refine (C3.out _ HB2.out).mono ?_; rintro e w3 ⟨rfl, hB3⟩; have HB3 := Lib.hid (below_then HB2.out hB3); clear hB3))
        go_region_held3 (fun _ => True) (first | trivial | assumption)
          ((go_at_call 75; refine (C4.out _ HB3.out _ _ _ (HI.out _ HB3.out)).mono ?_; rintro e w4 ⟨A4, n4, c4, rfl, hI4, hB4, hc4⟩; have HC4 := Lib.hid hc4; have HI4 := Lib.hid hI4; have HB4 := Lib.hid hB4; clear hI4 hB4 hc4))
        all_goals
          go_wp2
          go_ret2
          exact ⟨_, _, _, rfl, HI4.out, HB4.out, HC4.out⟩

end Go.Proofs.Ytafpcpdafojgkaa
