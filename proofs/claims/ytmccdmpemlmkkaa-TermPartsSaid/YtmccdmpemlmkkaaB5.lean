/- Contracts: the reference's Part, Args. -/
import Derived.Test.YtmccdmpemlmkkaaB4
import Derived.Test.YtmccdmpemlmkkaaH2
namespace Go.Proofs.Ytmccdmpemlmkkaa
open Go.RowKit

set_option maxRecDepth 100000 in
set_option maxHeartbeats 1000000 in
theorem refPart_any (As At : Option Addr) (ns cs nt ct : Nat) (ss : Sg) (zs r0 : List Int) (a : Nat) (w : World) (hs : SigAt w w.heap.size As ns ss) (ht : IntsAt w w.heap.size At nt zs) (har : ArOk ss) (hh : HeadsOk ss zs) (hn : nt ≤ 1000) (hct : nt ≤ ct) (hct2 : ct ≤ 9223372036854775807) (ha : a < zs.length) (hsc : scan ss 1 (zs.drop a) = some r0) :
    Calls Try.prog 52 #[.slice As ns cs, .slice At nt ct, .int .i64 a] w fun e w' => ∃ v, e = .returned v ∧ w'.ownsRow w.heap.size 3 1 v (prt ss zs a).length ((prt ss zs a).map (Value.int .i64)) ∧ Below w.heap.size w w' := by
  obtain ⟨i0, hi, hz0, hz1, hz2⟩ := info_parts info_int
  have hP := prt_is hsc
  have hlt := ht.len
  obtain ⟨bt, offt, rfl, hbt, htc⟩ := ht.mem (by omega)
  obtain ⟨P, hPP⟩ : ∃ P, prt ss zs a = P := ⟨_, rfl⟩
  rw [hPP] at hP ⊢
  have hl1 := hP.len
  have hl2 := hP.le
  have HE := Lib.hid (fun W (hb : Below w.heap.size w W) => by
    have := refEnd_any As (some ⟨bt, offt, none⟩) ns cs nt ct ss zs _ a W w.heap.size (hs.below hb) (ht.below hb) har hh hn (by omega) hP.whole
    rw [show zs.length - (zs.drop (a + P.length)).length = a + P.length from by rw [List.length_drop]; omega] at this
    exact this)
  have HN1 : Hid (∀ W, Below w.heap.size w W → ∀ j u, (P.map (Value.int .i64))[j]? = some u → W.cell? ((⟨bt, offt + a, none⟩ : Addr).add j) = some u) := by
    refine Lib.hid (fun W hb j u hu => ?_)
    rw [add0, hb.cell (p := ⟨bt, offt + a + j, none⟩) hbt]
    simp only [List.getElem?_map, Option.map_eq_some_iff] at hu
    obtain ⟨z, hz, rfl⟩ := hu
    have h1 : (zs.drop a)[j]? = some z := by
      rw [hP.split, List.getElem?_append_left (List.getElem?_eq_some_iff.1 hz).1]; exact hz
    rw [List.getElem?_drop] at h1
    obtain ⟨hj, rfl⟩ := List.getElem?_eq_some_iff.1 h1
    rw [Nat.add_assoc]
    exact htc (a + j) hj
  obtain ⟨m, hm⟩ : ∃ m, P.length = m := ⟨_, rfl⟩
  rw [hm] at hl1 hl2 HE ⊢
  have HN0 := Lib.hid (show (P.map (Value.int .i64)).length = m * 1 by simp [hm])
  have HN2 := Lib.hid (ints_one P)
  obtain ⟨e, he⟩ : ∃ e, a + m = e := ⟨_, rfl⟩
  have hea : e - a = m := by omega
  rw [he] at HE hl2
  have h1 : a ≤ e := by omega
  have h2 : e ≤ ct := by omega
  have h3 : a ≠ ct := by omega
  have h4 : (0 : Int) ≤ (a : Int) := by omega
  have h5 : m ≤ 1000 := by omega
  have h6 : a ≤ 1000 := by omega
  have h7 : e ≤ 1000 := by omega
  have HO' : Hid ((w.alloc (.cells #[] 3)).ownsRow w.heap.size 3 1 (.slice (some ⟨w.heap.size, 0, none⟩) 0 0) 0 []) :=
    Lib.hid ⟨rfl, .inr ⟨w.heap.size, 0, #[], rfl, Nat.le_refl _, heap_alloc_new w _, Nat.le_refl _, by unfold maxLen; omega, rfl, rfl⟩⟩
  have HB0 : Hid (Below w.heap.size w (w.alloc (.cells #[] 3))) := Lib.hid ((Below.refl _ _).alloc (Nat.le_refl _) _)
  clear hs ht har hh hsc hP hlt htc hPP hm he hn ha hct
  go_enter Try.func52, Try.ntmps52
  go_wp2_with (first
    | (go_at_call 57; refine (HE.out _ HB0.out).mono ?_; rintro e' w1 ⟨rfl, j1, rfl⟩)
    | (at_builtin
       refine wpList_append_own_at _ rfl _ _ 25 rfl w.heap.size 3 i0 _ 1 8 Try.underlying25 hi hz0 hz1 hz2 rfl (by omega) (.slice (some ⟨w.heap.size, 0, none⟩) 0 0) 0 [] rfl HO'.out ⟨bt, offt + a, none⟩ m _ (P.map (Value.int .i64)) rfl HN0.out (HN1.out _ (below_drewN HB0.out j1)) HN2.out (by unfold maxLen; omega) (by omega) (by simp) ?_
       intro v' w2 hown hg _ _
       have HW := Lib.hid hown
       have HG := Lib.hid ((below_drewN HB0.out j1).grown hg (by simp) (fun k e => by cases e; exact Nat.le_refl _))
       clear hown hg))
  go_ret
  refine ⟨_, rfl, ?_, HG.out⟩
  have := HW.out
  simpa using this

/-- The arguments of a term. -/
def argsTo (ss : Sg) (zs : List Int) (k : Nat) : List (List Int) := (List.range k).map (argL ss zs)
theorem argsTo_zero (ss : Sg) (zs : List Int) : argsTo ss zs 0 = [] := rfl
theorem argsTo_succ (ss : Sg) (zs : List Int) (k : Nat) : argsTo ss zs (k + 1) = argsTo ss zs k ++ [argL ss zs k] := by simp [argsTo, List.range_succ]
def argsL (ss : Sg) (zs : List Int) : List (List Int) := argsTo ss zs (arOf ss (zs.headD 0))
/-- A slice of terms and an error are returned. -/
def RetTs (w : World) (tt : List (List Int)) (er : Int) (e : Ending) (w' : World) : Prop :=
  ∃ A n c ls, e = .returned (.tuple #[.slice A n c, .int .i64 er]) ∧ TermsAt w' w'.heap.size A n ls tt ∧ Below w.heap.size w w'
theorem TermsAt.nil (w : World) (B : Nat) : TermsAt w B none 0 [] [] := ⟨⟨rfl, by omega, fun h => absurd h (by omega)⟩, rfl, fun j hj => by simp at hj⟩

set_option maxHeartbeats 400000 in
theorem refArgsL_bad (As At : Option Addr) (ns cs nt ct : Nat) (ss : Sg) (zs : List Int) (w : World) (hs : SigAt w w.heap.size As ns ss) (ht : IntsAt w w.heap.size At nt zs) (hv : valOk ss zs = false) :
    Calls Try.prog 24 #[.slice As ns cs, .slice At nt ct] w (RetTs w [] 1) := by
  have C := Lib.hid (refValid_any As At ns cs nt ct ss zs w _ hs ht)
  have HV := Lib.hid hv
  clear hv hs ht
  go_enter Try.func24, Try.ntmps24
  go_wp2_with (go_at_call 15; refine C.out.mono ?_; rintro e w1 ⟨rfl, k1, rfl⟩; rw [HV.out])
  go_ret2
  exact ⟨none, 0, 0, [], rfl, TermsAt.nil _ _, below_drewN (Below.refl _ _) _⟩

set_option maxRecDepth 100000 in
set_option maxHeartbeats 1000000 in
theorem refArgsL_ok (As At : Option Addr) (ns cs nt ct : Nat) (ss : Sg) (zs : List Int) (w : World) (hs : SigAt w w.heap.size As ns ss) (ht : IntsAt w w.heap.size At nt zs) (hct : nt ≤ ct) (hct2 : ct ≤ 9223372036854775807) (hv : valOk ss zs = true) :
    Calls Try.prog 24 #[.slice As ns cs, .slice At nt ct] w (RetTs w (argsL ss zs) 0) := by
  obtain ⟨i0, hi, hz0, hz1, hz2⟩ := info_parts info_term
  have C := Lib.hid (refValid_any As At ns cs nt ct ss zs w _ hs ht)
  rw [hv] at C
  obtain ⟨h1, h60, hnum, hscan⟩ := valOk_term hv
  have har := sigOk_ar (valOk_sig hv)
  have hh : HeadsOk ss zs := fun z hz => (hnum z hz).2
  have hl := ht.len
  have h0 : 0 < zs.length := by omega
  have hP := prt_is (a := 0) (ss := ss) (zs := zs) (r0 := []) (by simpa using hscan)
  rw [prt_whole hscan] at hP
  have hhd : zs.headD 0 = zs[0] := by cases zs with
    | nil => simp at h0
    | cons z r => rfl
  have C2 := Lib.hid (fun V (hb : Below w.heap.size w V) => refArgs_any As At ns cs nt ct ss zs [] 0 V (hs.up hb) (ht.up hb) har hh (by omega) h0 (by simpa using hscan))
  have hst := fun k hk => prt_step hP h0 (k := k) hk
  have hr3 := arOf_le har zs[0]
  have HRES := Lib.hid (show argsL ss zs = argsTo ss zs (arOf ss zs[0]) by unfold argsL; rw [hhd])
  obtain ⟨r, hr⟩ : ∃ r, arOf ss zs[0] = r := ⟨_, rfl⟩
  rw [hr] at HRES C2 hr3
  simp only [hr] at hst
  have C3 := Lib.hid (fun V (hb : Below w.heap.size w V) k (hk : k < r) => by
    obtain ⟨s1, s2, s3, s4⟩ := hst k hk
    have := refPart_any As At ns cs nt ct ss zs _ (psA ss zs 0 k) V (hs.up hb) (ht.up hb) har hh (by omega) hct hct2 (by omega) s1
    rw [s4] at this
    exact this)
  have HAL := Lib.hid (fun k (hk : k < r) => show (argL ss zs k).length ≤ 60 by
    have := (argL_ok (prt_ar hP h0) h1 (k := k) (by rw [hr]; exact hk)).2
    have := (pos_scan (prt_ar hP h0) h1 (k := k + 1) (by rw [hr]; exact hk)).2.2
    omega)
  have HBL := Lib.hid (begs_len ss zs 0 r)
  have HBG := Lib.hid (fun k (hk : k < r) => show (begs ss zs 0 r)[k]? = some ((psA ss zs 0 k : Nat) : Int) by simp [begs, hk])
  have HAS := Lib.hid (argsTo_succ ss zs)
  obtain ⟨bg, hbg⟩ : ∃ bg, begs ss zs 0 r = bg := ⟨_, rfl⟩
  rw [hbg] at HBL HBG C2
  obtain ⟨ar, har'⟩ : ∃ ar, argsTo ss zs = ar := ⟨_, rfl⟩
  simp only [har'] at HRES HAS
  have HA0 := Lib.hid (show ar 0 = [] by rw [← har']; rfl)
  clear hst hs ht hscan hP hl h0 hhd hv h1 h60 hnum har hh hr hbg har' hct hct2
  go_enter Try.func24, Try.ntmps24
  go_wp2_with (first
    | (go_at_call 15; refine C.out.mono ?_; rintro e w1 ⟨rfl, j1, rfl⟩; have HB1 := Lib.hid (below_drewN (Below.refl w.heap.size w) j1))
    | (go_at_call 51; refine (C2.out _ HB1.out).mono ?_; rintro e w2 ⟨v, rfl, hrow, hB2⟩; obtain ⟨Ar, cr, her, hra⟩ := row_ints hrow (by omega); subst her; have HB2 := Lib.hid (below_then HB1.out hB2); have HRA := Lib.hid hra; clear hrow hB2 hra))
  go_loopw [7, 8] (fun v i wr => ∃ (k : Nat) (ls : List Hd) (Av : Option Addr) (cv : Nat), k ≤ r ∧ i = .int .i64 k ∧ v = .slice Av k cv ∧ RowsAt 25 wr w2.heap.size (.slice Av k cv) k ls (ar k) ∧ Below w2.heap.size w2 wr) (fun _ i _ => r - (intOf i).toNat)
  case atStart => exact ⟨0, [], none, 0, Nat.zero_le _, rfl, rfl, by rw [HA0.out]; exact RowsAt.nil _ _ _, Below.refl _ _⟩
  case round =>
    obtain ⟨k, ls, Av, cv, hk, rfl, rfl, hR, hB⟩ := hrel
    have HR := Lib.hid hR
    have HBw := Lib.hid (below_then HB2.out hB)
    by_cases hlt : k < r
    · obtain ⟨b', off, y, rfl, c0, k1, e1⟩ := HRA.out.cellAt hlt
      obtain ⟨b2, off2, he', hbl, _⟩ := HRA.out.mem (by omega)
      cases he'
      have c1 := (hB.cell (p := ⟨b', off + k, none⟩) hbl).trans c0
      have hy := HBG.out k hlt
      rw [List.getElem?_eq_getElem k1, e1] at hy
      obtain rfl := Option.some.inj hy
      have C4 := Lib.hid (C3.out wr HBw.out k hlt)
      have hal := HAL.out k hlt
      have H := Lib.hid (HAS.out k)
      obtain ⟨q, hq⟩ : ∃ q, psA ss zs 0 k = q := ⟨_, rfl⟩
      rw [hq] at c1 C4
      obtain ⟨L, hL⟩ : ∃ L, argL ss zs k = L := ⟨_, rfl⟩
      rw [hL] at C4 H hal
      have hk0 : (0 : Int) ≤ (k : Int) := by omega
      have hk1 : (k : Int) < (r : Int) := by omega
      have HBR := Lib.hid hB
      clear hR hB c0 hy e1 k1 hq hL
      go_wp2_with (first
        | (go_at_call 52; refine C4.out.mono ?_; rintro e w3 ⟨v3, rfl, hrow3, hB3⟩
           obtain ⟨A3, c3, e3, hI3⟩ := IntsBut.of_row (g := (Value.slice Av k cv).ownBlock) hrow3 (by omega) (fun k e => (HR.out.row.lt k e).2)
           subst e3
           have HI3 := Lib.hid hI3
           have HR3 := Lib.hid (HR.out.below hB3)
           have HB3 := Lib.hid hB3
           clear hrow3 hI3 hB3)
        | (at_builtin
           refine wpList_append_own_at _ rfl _ _ 36 rfl w2.heap.size 25 i0 _ 1 24 Try.underlying36 hi hz0 hz1 hz2 rfl (by omega) (.slice Av k cv) k (ls.map Hd.val) rfl (HR3.out.row.alloc _) ⟨w3.heap.size, 0, none⟩ 1 1 [Hd.val (A3, L.length, c3)] rfl rfl
             (World.news_of_block (cs := #[Hd.val (A3, L.length, c3)]) (t := 25) (fr := (0, 0)) (heap_alloc_new w3 _)) (by simp [Value.oneCell', Hd.val]) (by unfold maxLen; omega) (by omega) (by have h1 := HBR.out.size; have h2 := HB3.out.size; simp; omega) ?_
           intro v4 w4 hown4 hg4 _ hv4
           have HB4 := Lib.hid (((HBR.out.trans (HB3.out.mono HBR.out.size)).alloc (Nat.le_trans HBR.out.size HB3.out.size) (.cells #[Hd.val (A3, L.length, c3)] 25)).grown hg4 (by have h1 := HBR.out.size; have h2 := HB3.out.size; simp; omega) (fun j e => (HR.out.row.lt j e).1))
           have HR4 := Lib.hid ((HR3.out.below ((Below.refl _ _).alloc (Nat.le_refl _) _)).push (x := (A3, L.length, c3)) (HI3.out.below ((Below.refl _ _).alloc (Nat.le_refl _) _)) hown4 hg4 hv4)
           obtain ⟨g4, cap4, e4, _⟩ := hown4.form (by omega)
           subst e4
           clear hown4 hg4 hv4))
      go_roundw
      case rel => exact ⟨k + 1, ls ++ [(A3, L.length, c3)], some ⟨g4, 0, none⟩, cap4, by omega, by go_num, rfl, by rw [H.out]; exact HR4.out, HB4.out⟩
      case measure => simp [intOf]; omega
    · obtain rfl : k = r := by omega
      obtain ⟨A5, c5, e5, hT⟩ := hR.terms (by omega)
      cases e5
      rw [← HRES.out] at hT
      have HT := Lib.hid hT
      clear hR hB hT
      go_wp2
      go_ret2
      exact ⟨_, _, _, _, rfl, HT.out, HBw.out⟩

end Go.Proofs.Ytmccdmpemlmkkaa
