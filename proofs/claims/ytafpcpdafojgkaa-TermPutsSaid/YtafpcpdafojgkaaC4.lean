/- Contract: the reference's Put. -/
import Derived.Test.YtafpcpdafojgkaaC3
import Derived.Test.YtafpcpdafojgkaaB9
namespace Go.Proofs.Ytafpcpdafojgkaa
open Go.RowKit

theorem row_form {w : World} {base n : Nat} {v : Value} {e : TypeId} {size : Nat} {xs : List Value} (h : w.ownsRow base e size v n xs) : ∃ A c, v = .slice A n c := by
  obtain ⟨_, ⟨rfl, h0⟩ | ⟨g, cap, cur, rfl, _⟩⟩ := h
  · exact ⟨none, 0, by rw [h0]⟩
  · exact ⟨_, _, rfl⟩

set_option maxHeartbeats 400000 in
theorem refPut_bad (As At Ap Au : Option Addr) (ns cs nt ct np cp nu cu : Nat) (ss : Sg) (zs path us : List Int) (w : World) (hs : SigAt w w.heap.size As ns ss) (ht : IntsAt w w.heap.size At nt zs) (hu : IntsAt w w.heap.size Au nu us) (hv : (valOk ss zs && valOk ss us) = false) :
    Calls Try.prog 36 #[.slice As ns cs, .slice At nt ct, .slice Ap np cp, .slice Au nu cu] w (RetT w (putR ss zs path us).1 (putR ss zs path us).2) := by
  have hr : putR ss zs path us = ([], 1) := by unfold putR; rw [if_pos hv]
  rw [hr]
  have C := Lib.hid (refValid_any As At ns cs nt ct ss zs w _ hs ht)
  have C2 := Lib.hid (fun m => refValid_any As Au ns cs nu cu ss us (w.drewN m) w.heap.size (hs.keep fun _ _ => rfl) (hu.keep fun _ _ => rfl))
  have HD : Hid (∀ k, Below w.heap.size w (w.drewN k)) := fun k => below_drewN (Below.refl _ _) k
  cases h1 : valOk ss zs
  · rw [h1] at C
    clear hs ht hu hv hr h1
    go_enter Try.func36, Try.ntmps36
    go_wp2_with (go_at_call 19; refine C.out.mono ?_; rintro e w1 ⟨rfl, j1, rfl⟩)
    go_ret2
    exact ⟨none, 0, 0, rfl, IntsAt.nil _ _ 0, HD.out _⟩
  · have h2 : valOk ss us = false := by simpa [h1] using hv
    rw [h1] at C
    simp only [h2] at C2
    clear hs ht hu hv hr h1 h2
    go_enter Try.func36, Try.ntmps36
    go_wp2_with (first
      | (go_at_call 19; with_reducible refine C.out.mono ?_; rintro e w1 ⟨rfl, j1, rfl⟩)
      | (go_at_call 19; refine (C2.out _).mono ?_; rintro e w2 ⟨rfl, j2, rfl⟩))
    go_ret2
    exact ⟨none, 0, 0, rfl, IntsAt.nil _ _ 0, HD.out _⟩

set_option maxRecDepth 100000 in
set_option maxHeartbeats 2000000 in
theorem refPut_any (As At Ap Au : Option Addr) (ns cs nt ct np cp nu cu : Nat) (ss : Sg) (zs path us : List Int) (w : World) (hs : SigAt w w.heap.size As ns ss) (ht : IntsAt w w.heap.size At nt zs) (hp : IntsAt w w.heap.size Ap np path) (hu : IntsAt w w.heap.size Au nu us) (hct : nt ≤ ct) (hct2 : ct ≤ 9223372036854775807) (hnp : np ≤ 1000) :
    Calls Try.prog 36 #[.slice As ns cs, .slice At nt ct, .slice Ap np cp, .slice Au nu cu] w (RetT w (putR ss zs path us).1 (putR ss zs path us).2) := by
  cases hvv : (valOk ss zs && valOk ss us)
  · exact refPut_bad As At Ap Au ns cs nt ct np cp nu cu ss zs path us w hs ht hu hvv
  obtain ⟨hv, hvu⟩ : valOk ss zs = true ∧ valOk ss us = true := by simpa using hvv
  obtain ⟨i0, hi, hz0, hz1, hz2⟩ := info_parts info_int
  have C := Lib.hid (refValid_any As At ns cs nt ct ss zs w _ hs ht)
  rw [hv] at C
  have C2 := Lib.hid (fun m => refValid_any As Au ns cs nu cu ss us (w.drewN m) w.heap.size (hs.keep fun _ _ => rfl) (hu.keep fun _ _ => rfl))
  simp only [hvu] at C2
  have HD : Hid (∀ k, Below w.heap.size w (w.drewN k)) := fun k => below_drewN (Below.refl _ _) k
  have C3 := Lib.hid (fun V (hb : Below w.heap.size w V) => refWalk_any As At Ap ns cs nt ct np cp ss zs path V (hs.up hb) (ht.up hb) (hp.up hb) hv hnp)
  cases hl : locN ss zs path 0 with
  | none =>
    have hr : putR ss zs path us = ([], 8) := by unfold putR; rw [if_neg (by simp [hvv]), hl]
    rw [hr]
    simp only [hl, walkI] at C3
    clear hs ht hp hu hv hvv hvu hr hl hi hz0 hz1 hz2
    go_enter Try.func36, Try.ntmps36
    go_wp2_with (first
      | (go_at_call 19; with_reducible refine C.out.mono ?_; rintro e w1 ⟨rfl, j1, rfl⟩)
      | (go_at_call 19; refine (C2.out _).mono ?_; rintro e w2 ⟨rfl, j2, rfl⟩)
      | (go_at_call 74; refine (C3.out _ (HD.out _)).mono ?_; rintro e w3 ⟨rfl, hB3⟩; have HB3 := Lib.hid (below_then (HD.out _) hB3); clear hB3))
    go_ret2
    exact ⟨none, 0, 0, rfl, IntsAt.nil _ _ 0, HB3.out⟩
  | some a =>
    have hr := putR_mk (p := path) hv hvu hl
    rw [hr]
    simp only [hl, walkI] at C3
    have hpa := (locN_part path 0 a (PartAt.zero hv) hl).1
    have hPle := hpa.is.le
    have hal := hpa.1
    obtain ⟨h1, h60, hnum, _⟩ := valOk_term hv
    obtain ⟨u1, u60, _, _⟩ := valOk_term hvu
    have hlt := ht.len
    have hlu := hu.len
    have hwh := hpa.is.whole
    obtain ⟨e, he⟩ : ∃ e, a + (prt ss zs a).length = e := ⟨_, rfl⟩
    have hF0 : putL ss zs us a = zs.take a ++ us ++ zs.drop e := by unfold putL; rw [he]
    have hln : (putL ss zs us a).length = a + nu + (nt - e) := by
      rw [hF0]
      simp only [List.length_append, List.length_take, List.length_drop]
      omega
    rw [he] at hPle hwh
    have CE := Lib.hid (fun V (hb : Below w.heap.size w V) => by
      have := refEnd_any As At ns cs nt ct ss zs _ a V w.heap.size (hs.below hb) (ht.below hb) (sigOk_ar (valOk_sig hv)) (fun z hz => (hnum z hz).2) (by omega) (by omega) hwh
      rw [show zs.length - (zs.drop e).length = e from by rw [List.length_drop]; omega] at this
      exact this)
    obtain ⟨F, hF⟩ : ∃ F, putL ss zs us a = F := ⟨_, rfl⟩
    rw [hF] at hF0 hln ⊢
    obtain ⟨bt, offt, rfl, hbt, _⟩ := ht.mem (by omega)
    obtain ⟨bu, offu, rfl, hbu, _⟩ := hu.mem (by omega)
    have ha60 : a ≤ 60 := by omega
    have he60 : e ≤ 60 := by omega
    have hent : e ≤ nt := by omega
    have hnt60 : nt ≤ 60 := by omega
    have hnu60 : nu ≤ 60 := by omega
    have hact : a ≤ ct := by omega
    have hect : e ≤ ct := by omega
    have ha0 : (0 : Int) ≤ (a : Int) := by omega
    have hneg : ¬ (a : Int) < 0 := by omega
    have he0 : (0 : Int) ≤ (e : Int) := by omega
    have hct0 : ct ≠ 0 := by omega
    have N1 := Lib.hid (fun V (hb : Below w.heap.size w V) => ints_news' (ints_take (ht.up hb) (a := a) (by omega)))
    have N2 := Lib.hid (fun V (hb : Below w.heap.size w V) => ints_news' (hu.up hb))
    have L1 := Lib.hid (show ((zs.take a).map (Value.int .i64)).length = a * 1 by simp only [List.length_map, List.length_take]; omega)
    have L2 := Lib.hid (show (us.map (Value.int .i64)).length = nu * 1 by simp only [List.length_map]; omega)
    have L3 := Lib.hid (show ((zs.drop e).map (Value.int .i64)).length = (nt - e) * 1 by simp only [List.length_map, List.length_drop]; omega)
    have O1 := Lib.hid (ints_one (zs.take a))
    have O2 := Lib.hid (ints_one us)
    have O3 := Lib.hid (ints_one (zs.drop e))
    have HFIN : Hid (∀ (V : World) (base : Nat) (v : Value) (m : Nat), m = a + nu + (nt - e) → V.ownsRow base 3 1 v m ((zs.take a).map (Value.int .i64) ++ us.map (Value.int .i64) ++ (zs.drop e).map (Value.int .i64)) → ∃ A c, v = .slice A m c ∧ IntsAt V V.heap.size A m F) := Lib.hid (fun V base v m hm h => by
      rw [← List.map_append, ← List.map_append, ← hF0] at h
      exact row_ints h (by omega))
    have N3 : Hid (∀ V, Below w.heap.size w V → ∀ (off3 : Nat) (_ : Nat), ((off3 = offt + e ∧ ct ≠ e) ∨ (off3 = offt ∧ ct = e)) → ∀ j u, ((zs.drop e).map (Value.int .i64))[j]? = some u → V.cell? ((⟨bt, off3, none⟩ : Addr).add j) = some u) := Lib.hid (fun V hb off3 _ hor => by
      rcases hor with ⟨rfl, _⟩ | ⟨rfl, hce⟩
      · exact ints_news' (ints_drop (ht.up hb) hent)
      · have : zs.drop e = [] := List.drop_of_length_le (by omega)
        rw [this]
        intro j u hu
        simp at hu)
    have hnte : nt - e ≤ 60 := by omega
    by_cases hce : ct = e
    · have hz : nt - e = 0 := by omega
      have HM := Lib.hid (show a + nu = a + nu + (nt - e) by omega)
      have N3' := Lib.hid (fun V hb => N3.out V hb offt 0 (.inr ⟨rfl, hce⟩))
      rw [hz] at L3
      have hFl' : F.length = a + nu := by omega
      rw [hFl']
      clear N3 hnte hs ht hp hu hv hvv hvu hr hl hpa hlt hlu hal h1 h60 u1 u60 hF he hbt hbu hln hF0 hFl' hwh hnum hz
      subst hce
      by_cases h60' : 60 < a + nu
      · rw [if_pos h60']
        have hgt : (60 : Int) < (a : Int) + (nu : Int) := by omega
        go_enter Try.func36, Try.ntmps36
        go_wp2_with (first
          | (go_at_call 19; with_reducible refine C.out.mono ?_; rintro e w1 ⟨rfl, j1, rfl⟩)
          | (go_at_call 19; refine (C2.out _).mono ?_; rintro e w2 ⟨rfl, j2, rfl⟩)
          | (go_at_call 74; refine (C3.out _ (HD.out _)).mono ?_; rintro e w3 ⟨rfl, hB3⟩; have HB3 := Lib.hid (below_then (HD.out _) hB3); have HO3 := Lib.hid (World.ownsRow_lit (base := w3.heap.size) (e := 3) (size := 1) w3 #[] 0 (Nat.le_refl _) (by unfold maxLen; omega) rfl); have HB3a := Lib.hid (HB3.out.alloc HB3.out.size (.cells #[] 3)); clear hB3)
          | (at_builtin
             refine wpList_append_own_at _ rfl _ _ 25 rfl w3.heap.size 3 i0 _ 1 8 Try.underlying25 hi hz0 hz1 hz2 rfl (by omega) (.slice (some ⟨w3.heap.size, 0, none⟩) 0 0) 0 [] rfl HO3.out ⟨bt, offt, none⟩ a _ ((zs.take a).map (Value.int .i64)) rfl L1.out (N1.out _ HB3a.out) O1.out (by unfold maxLen; omega) (by omega) (by simp) ?_
             intro v4 w4 hown4 hg4 _ _
             have HB4 := Lib.hid (HB3a.out.grown hg4 (by have := HB3.out.size; simp; omega) (fun k e => by cases e; exact HB3.out.size))
             rw [Nat.zero_add, List.nil_append] at hown4
             obtain ⟨A4, c4, e4⟩ := row_form hown4
             subst e4
             have HO4 := Lib.hid hown4
             have HS4 := Lib.hid (Nat.le_trans (show w3.heap.size ≤ (w3.alloc (.cells #[] 3)).heap.size by simp) hg4.size)
             clear hown4 hg4)
          | (at_builtin
             refine wpList_append_own_at _ rfl _ _ 25 rfl w3.heap.size 3 i0 _ 1 8 Try.underlying25 hi hz0 hz1 hz2 rfl (by omega) (.slice A4 a c4) a _ rfl HO4.out ⟨bu, offu, none⟩ nu _ (us.map (Value.int .i64)) rfl L2.out (N2.out _ HB4.out) O2.out (by unfold maxLen; omega) (by omega) HS4.out ?_
             intro v5 w5 hown5 hg5 _ _
             have HB5 := Lib.hid (HB4.out.grown hg5 HB4.out.size (fun k e => Nat.le_trans HB3.out.size (HO4.out.lt k e).1))
             obtain ⟨A5, c5, e5⟩ := row_form hown5
             subst e5
             have HO5 := Lib.hid hown5
             have HS5 := Lib.hid (Nat.le_trans HS4.out hg5.size)
             clear hown5 hg5)
          | (go_at_call 76; refine (CE.out _ HB5.out).mono ?_; rintro e w6 ⟨rfl, j6, rfl⟩; have HB6 := Lib.hid (below_drewN HB5.out j6))
          | (at_builtin
             refine wpList_append_own_at _ rfl _ _ 25 rfl w3.heap.size 3 i0 _ 1 8 Try.underlying25 hi hz0 hz1 hz2 rfl (by omega) (.slice A5 (a + nu) c5) (a + nu) _ rfl (show (w5.drewN j6).ownsRow _ _ _ _ _ _ from HO5.out) ⟨bt, offt, none⟩ 0 _ ((zs.drop ct).map (Value.int .i64)) rfl L3.out (N3'.out _ HB6.out) O3.out (by unfold maxLen; omega) (by omega) HS5.out ?_
             intro v7 w7 hown7 hg7 _ _
             have HB7 := Lib.hid (HB6.out.grown hg7 HB6.out.size (fun k e => Nat.le_trans HB3.out.size (HO5.out.lt k e).1))
             rw [Nat.add_zero] at hown7
             obtain ⟨A7, c7, e7, hI7⟩ := HFIN.out _ _ _ _ HM.out hown7
             subst e7
             have HI7 := Lib.hid hI7
             clear hown7 hg7 hI7))
        go_ret2
        exact ⟨none, 0, 0, rfl, IntsAt.nil _ _ 0, HB7.out⟩
      · rw [if_neg h60']
        have hgt : ¬ (60 : Int) < (a : Int) + (nu : Int) := by omega
        go_enter Try.func36, Try.ntmps36
        go_wp2_with (first
          | (go_at_call 19; with_reducible refine C.out.mono ?_; rintro e w1 ⟨rfl, j1, rfl⟩)
          | (go_at_call 19; refine (C2.out _).mono ?_; rintro e w2 ⟨rfl, j2, rfl⟩)
          | (go_at_call 74; refine (C3.out _ (HD.out _)).mono ?_; rintro e w3 ⟨rfl, hB3⟩; have HB3 := Lib.hid (below_then (HD.out _) hB3); have HO3 := Lib.hid (World.ownsRow_lit (base := w3.heap.size) (e := 3) (size := 1) w3 #[] 0 (Nat.le_refl _) (by unfold maxLen; omega) rfl); have HB3a := Lib.hid (HB3.out.alloc HB3.out.size (.cells #[] 3)); clear hB3)
          | (at_builtin
             refine wpList_append_own_at _ rfl _ _ 25 rfl w3.heap.size 3 i0 _ 1 8 Try.underlying25 hi hz0 hz1 hz2 rfl (by omega) (.slice (some ⟨w3.heap.size, 0, none⟩) 0 0) 0 [] rfl HO3.out ⟨bt, offt, none⟩ a _ ((zs.take a).map (Value.int .i64)) rfl L1.out (N1.out _ HB3a.out) O1.out (by unfold maxLen; omega) (by omega) (by simp) ?_
             intro v4 w4 hown4 hg4 _ _
             have HB4 := Lib.hid (HB3a.out.grown hg4 (by have := HB3.out.size; simp; omega) (fun k e => by cases e; exact HB3.out.size))
             rw [Nat.zero_add, List.nil_append] at hown4
             obtain ⟨A4, c4, e4⟩ := row_form hown4
             subst e4
             have HO4 := Lib.hid hown4
             have HS4 := Lib.hid (Nat.le_trans (show w3.heap.size ≤ (w3.alloc (.cells #[] 3)).heap.size by simp) hg4.size)
             clear hown4 hg4)
          | (at_builtin
             refine wpList_append_own_at _ rfl _ _ 25 rfl w3.heap.size 3 i0 _ 1 8 Try.underlying25 hi hz0 hz1 hz2 rfl (by omega) (.slice A4 a c4) a _ rfl HO4.out ⟨bu, offu, none⟩ nu _ (us.map (Value.int .i64)) rfl L2.out (N2.out _ HB4.out) O2.out (by unfold maxLen; omega) (by omega) HS4.out ?_
             intro v5 w5 hown5 hg5 _ _
             have HB5 := Lib.hid (HB4.out.grown hg5 HB4.out.size (fun k e => Nat.le_trans HB3.out.size (HO4.out.lt k e).1))
             obtain ⟨A5, c5, e5⟩ := row_form hown5
             subst e5
             have HO5 := Lib.hid hown5
             have HS5 := Lib.hid (Nat.le_trans HS4.out hg5.size)
             clear hown5 hg5)
          | (go_at_call 76; refine (CE.out _ HB5.out).mono ?_; rintro e w6 ⟨rfl, j6, rfl⟩; have HB6 := Lib.hid (below_drewN HB5.out j6))
          | (at_builtin
             refine wpList_append_own_at _ rfl _ _ 25 rfl w3.heap.size 3 i0 _ 1 8 Try.underlying25 hi hz0 hz1 hz2 rfl (by omega) (.slice A5 (a + nu) c5) (a + nu) _ rfl (show (w5.drewN j6).ownsRow _ _ _ _ _ _ from HO5.out) ⟨bt, offt, none⟩ 0 _ ((zs.drop ct).map (Value.int .i64)) rfl L3.out (N3'.out _ HB6.out) O3.out (by unfold maxLen; omega) (by omega) HS5.out ?_
             intro v7 w7 hown7 hg7 _ _
             have HB7 := Lib.hid (HB6.out.grown hg7 HB6.out.size (fun k e => Nat.le_trans HB3.out.size (HO5.out.lt k e).1))
             rw [Nat.add_zero] at hown7
             obtain ⟨A7, c7, e7, hI7⟩ := HFIN.out _ _ _ _ HM.out hown7
             subst e7
             have HI7 := Lib.hid hI7
             clear hown7 hg7 hI7))
        go_ret2
        exact ⟨_, _, _, rfl, HI7.out, HB7.out⟩
    · have N3' := Lib.hid (fun V hb => N3.out V hb (offt + e) 0 (.inl ⟨rfl, hce⟩))
      have hec : ct ≠ e := hce
      have hFl' : F.length = a + nu + (nt - e) := by omega
      rw [hFl']
      clear N3 hs ht hp hu hv hvv hvu hr hl hpa hlt hlu hal h1 h60 u1 u60 hF he hbt hbu hln hF0 hFl' hwh hnum
      by_cases h60' : 60 < a + nu + (nt - e)
      · rw [if_pos h60']
        have hgt : (60 : Int) < ((a + nu + (nt - e) : Nat) : Int) := by omega
        go_enter Try.func36, Try.ntmps36
        go_wp2_with (first
          | (go_at_call 19; with_reducible refine C.out.mono ?_; rintro e w1 ⟨rfl, j1, rfl⟩)
          | (go_at_call 19; refine (C2.out _).mono ?_; rintro e w2 ⟨rfl, j2, rfl⟩)
          | (go_at_call 74; refine (C3.out _ (HD.out _)).mono ?_; rintro e w3 ⟨rfl, hB3⟩; have HB3 := Lib.hid (below_then (HD.out _) hB3); have HO3 := Lib.hid (World.ownsRow_lit (base := w3.heap.size) (e := 3) (size := 1) w3 #[] 0 (Nat.le_refl _) (by unfold maxLen; omega) rfl); have HB3a := Lib.hid (HB3.out.alloc HB3.out.size (.cells #[] 3)); clear hB3)
          | (at_builtin
             refine wpList_append_own_at _ rfl _ _ 25 rfl w3.heap.size 3 i0 _ 1 8 Try.underlying25 hi hz0 hz1 hz2 rfl (by omega) (.slice (some ⟨w3.heap.size, 0, none⟩) 0 0) 0 [] rfl HO3.out ⟨bt, offt, none⟩ a _ ((zs.take a).map (Value.int .i64)) rfl L1.out (N1.out _ HB3a.out) O1.out (by unfold maxLen; omega) (by omega) (by simp) ?_
             intro v4 w4 hown4 hg4 _ _
             have HB4 := Lib.hid (HB3a.out.grown hg4 (by have := HB3.out.size; simp; omega) (fun k e => by cases e; exact HB3.out.size))
             rw [Nat.zero_add, List.nil_append] at hown4
             obtain ⟨A4, c4, e4⟩ := row_form hown4
             subst e4
             have HO4 := Lib.hid hown4
             have HS4 := Lib.hid (Nat.le_trans (show w3.heap.size ≤ (w3.alloc (.cells #[] 3)).heap.size by simp) hg4.size)
             clear hown4 hg4)
          | (at_builtin
             refine wpList_append_own_at _ rfl _ _ 25 rfl w3.heap.size 3 i0 _ 1 8 Try.underlying25 hi hz0 hz1 hz2 rfl (by omega) (.slice A4 a c4) a _ rfl HO4.out ⟨bu, offu, none⟩ nu _ (us.map (Value.int .i64)) rfl L2.out (N2.out _ HB4.out) O2.out (by unfold maxLen; omega) (by omega) HS4.out ?_
             intro v5 w5 hown5 hg5 _ _
             have HB5 := Lib.hid (HB4.out.grown hg5 HB4.out.size (fun k e => Nat.le_trans HB3.out.size (HO4.out.lt k e).1))
             obtain ⟨A5, c5, e5⟩ := row_form hown5
             subst e5
             have HO5 := Lib.hid hown5
             have HS5 := Lib.hid (Nat.le_trans HS4.out hg5.size)
             clear hown5 hg5)
          | (go_at_call 76; refine (CE.out _ HB5.out).mono ?_; rintro e w6 ⟨rfl, j6, rfl⟩; have HB6 := Lib.hid (below_drewN HB5.out j6))
          | (at_builtin
             refine wpList_append_own_at _ rfl _ _ 25 rfl w3.heap.size 3 i0 _ 1 8 Try.underlying25 hi hz0 hz1 hz2 rfl (by omega) (.slice A5 (a + nu) c5) (a + nu) _ rfl (show (w5.drewN j6).ownsRow _ _ _ _ _ _ from HO5.out) ⟨bt, offt + e, none⟩ (nt - e) _ ((zs.drop e).map (Value.int .i64)) rfl L3.out (N3'.out _ HB6.out) O3.out (by unfold maxLen; omega) (by omega) HS5.out ?_
             intro v7 w7 hown7 hg7 _ _
             have HB7 := Lib.hid (HB6.out.grown hg7 HB6.out.size (fun k e => Nat.le_trans HB3.out.size (HO5.out.lt k e).1))
             skip
             obtain ⟨A7, c7, e7, hI7⟩ := HFIN.out _ _ _ _ rfl hown7
             subst e7
             have HI7 := Lib.hid hI7
             clear hown7 hg7 hI7))
        go_ret2
        exact ⟨none, 0, 0, rfl, IntsAt.nil _ _ 0, HB7.out⟩
      · rw [if_neg h60']
        have hgt : ¬ (60 : Int) < ((a + nu + (nt - e) : Nat) : Int) := by omega
        go_enter Try.func36, Try.ntmps36
        go_wp2_with (first
          | (go_at_call 19; with_reducible refine C.out.mono ?_; rintro e w1 ⟨rfl, j1, rfl⟩)
          | (go_at_call 19; refine (C2.out _).mono ?_; rintro e w2 ⟨rfl, j2, rfl⟩)
          | (go_at_call 74; refine (C3.out _ (HD.out _)).mono ?_; rintro e w3 ⟨rfl, hB3⟩; have HB3 := Lib.hid (below_then (HD.out _) hB3); have HO3 := Lib.hid (World.ownsRow_lit (base := w3.heap.size) (e := 3) (size := 1) w3 #[] 0 (Nat.le_refl _) (by unfold maxLen; omega) rfl); have HB3a := Lib.hid (HB3.out.alloc HB3.out.size (.cells #[] 3)); clear hB3)
          | (at_builtin
             refine wpList_append_own_at _ rfl _ _ 25 rfl w3.heap.size 3 i0 _ 1 8 Try.underlying25 hi hz0 hz1 hz2 rfl (by omega) (.slice (some ⟨w3.heap.size, 0, none⟩) 0 0) 0 [] rfl HO3.out ⟨bt, offt, none⟩ a _ ((zs.take a).map (Value.int .i64)) rfl L1.out (N1.out _ HB3a.out) O1.out (by unfold maxLen; omega) (by omega) (by simp) ?_
             intro v4 w4 hown4 hg4 _ _
             have HB4 := Lib.hid (HB3a.out.grown hg4 (by have := HB3.out.size; simp; omega) (fun k e => by cases e; exact HB3.out.size))
             rw [Nat.zero_add, List.nil_append] at hown4
             obtain ⟨A4, c4, e4⟩ := row_form hown4
             subst e4
             have HO4 := Lib.hid hown4
             have HS4 := Lib.hid (Nat.le_trans (show w3.heap.size ≤ (w3.alloc (.cells #[] 3)).heap.size by simp) hg4.size)
             clear hown4 hg4)
          | (at_builtin
             refine wpList_append_own_at _ rfl _ _ 25 rfl w3.heap.size 3 i0 _ 1 8 Try.underlying25 hi hz0 hz1 hz2 rfl (by omega) (.slice A4 a c4) a _ rfl HO4.out ⟨bu, offu, none⟩ nu _ (us.map (Value.int .i64)) rfl L2.out (N2.out _ HB4.out) O2.out (by unfold maxLen; omega) (by omega) HS4.out ?_
             intro v5 w5 hown5 hg5 _ _
             have HB5 := Lib.hid (HB4.out.grown hg5 HB4.out.size (fun k e => Nat.le_trans HB3.out.size (HO4.out.lt k e).1))
             obtain ⟨A5, c5, e5⟩ := row_form hown5
             subst e5
             have HO5 := Lib.hid hown5
             have HS5 := Lib.hid (Nat.le_trans HS4.out hg5.size)
             clear hown5 hg5)
          | (go_at_call 76; refine (CE.out _ HB5.out).mono ?_; rintro e w6 ⟨rfl, j6, rfl⟩; have HB6 := Lib.hid (below_drewN HB5.out j6))
          | (at_builtin
             refine wpList_append_own_at _ rfl _ _ 25 rfl w3.heap.size 3 i0 _ 1 8 Try.underlying25 hi hz0 hz1 hz2 rfl (by omega) (.slice A5 (a + nu) c5) (a + nu) _ rfl (show (w5.drewN j6).ownsRow _ _ _ _ _ _ from HO5.out) ⟨bt, offt + e, none⟩ (nt - e) _ ((zs.drop e).map (Value.int .i64)) rfl L3.out (N3'.out _ HB6.out) O3.out (by unfold maxLen; omega) (by omega) HS5.out ?_
             intro v7 w7 hown7 hg7 _ _
             have HB7 := Lib.hid (HB6.out.grown hg7 HB6.out.size (fun k e => Nat.le_trans HB3.out.size (HO5.out.lt k e).1))
             skip
             obtain ⟨A7, c7, e7, hI7⟩ := HFIN.out _ _ _ _ rfl hown7
             subst e7
             have HI7 := Lib.hid hI7
             clear hown7 hg7 hI7))
        go_ret2
        exact ⟨_, _, _, rfl, HI7.out, HB7.out⟩

end Go.Proofs.Ytafpcpdafojgkaa
