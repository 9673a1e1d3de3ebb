/- Contract: the reference's depth. -/
import Derived.Test.YtafpcpdafojgkaaH2
namespace Go.Proofs.Ytafpcpdafojgkaa
open Go.RowKit

set_option maxRecDepth 100000 in
set_option maxHeartbeats 1000000 in
theorem refdep_any (As At : Option Addr) (ns cs nt ct : Nat) (ss : Sg) (zs : List Int) (har : ArOk ss) (hh : HeadsOk ss zs) (hn : nt ≤ 1000) (b : Nat) :
    ∀ (f a : Nat) (r0 : List Int) (w : World), f ≤ 1000 → (prt ss zs a).length ≤ f → a < zs.length → scan ss 1 (zs.drop a) = some r0 → SigAt w b As ns ss → IntsAt w b At nt zs → b ≤ w.heap.size →
    Calls Try.prog 65 #[.slice As ns cs, .slice At nt ct, .int .i64 a] w fun e w' => e = .returned (.int .i64 (dep ss f (prt ss zs a) : Nat)) ∧ Below w.heap.size w w' := by
  intro f
  induction f with
  | zero =>
    intro a r0 w hf hl ha hsc
    have := (prt_is hsc).len
    omega
  | succ f ih =>
    intro a r0 w hf hl ha hsc hs ht hb
    have hP := prt_is hsc
    have hlt := ht.len
    have hr3 := arOf_le har zs[a]
    have hhd : (prt ss zs a).headD 0 = zs[a] := by
      have := hP.head ha
      cases hq : prt ss zs a with
      | nil => rw [hq] at this; cases this
      | cons y l => rw [hq] at this; simpa using this
    have hsc1 := prt_ar hP ha
    have hl1 := hP.len
    have HDEP := Lib.hid (show dep ss (f + 1) (prt ss zs a) = depTo ss f (prt ss zs a) (arOf ss zs[a]) + 1 by rw [dep_succ, hhd])
    have HDL := Lib.hid (dep_le ss (f + 1) (prt ss zs a))
    have C1 := Lib.hid (refArgs_any As At ns cs nt ct ss zs r0 a w (hs.more hb) (ht.more hb) har hh hn ha hsc)
    obtain ⟨r, hr⟩ : ∃ r, arOf ss zs[a] = r := ⟨_, rfl⟩
    obtain ⟨P, hPP⟩ : ∃ P, prt ss zs a = P := ⟨_, rfl⟩
    have hst := fun k (hk : k < r) => prt_step hP ha (k := k) (by rw [hr]; exact hk)
    rw [hr] at hr3 HDEP C1 hsc1
    simp only [hPP] at hst HDEP HDL hl hsc1 hl1 ⊢
    have C2 := Lib.hid (fun W (hbl : Below b w W) k (hk : k < r) => by
      obtain ⟨s1, s2, s3, s4⟩ := hst k hk
      have hal := (argL_ok hsc1 hl1 hk).2
      have hps := pos_scan hsc1 hl1 (show k + 1 ≤ r from hk)
      have hp0 := pos_scan hsc1 hl1 (Nat.zero_le r)
      have hpz := pos_zero ss hl1
      have hp3 := pos_scan hsc1 hl1 (Nat.le_of_lt hk)
      have := ih (psA ss zs a k) _ W (by omega) (by rw [s4, hal]; omega) (by omega) s1 (hs.below hbl) (ht.below hbl) (Nat.le_trans hb hbl.size)
      rw [s4] at this
      exact this)
    have HBL := Lib.hid (begs_len ss zs a r)
    have HBG := Lib.hid (fun k (hk : k < r) => show (begs ss zs a r)[k]? = some ((psA ss zs a k : Nat) : Int) by simp [begs, hk])
    have HD0 := Lib.hid (depTo_zero ss f P)
    have HDS := Lib.hid (depTo_succ ss f P)
    have HDT := Lib.hid (fun k (hk : k ≤ r) => show depTo ss f P k ≤ f from foldl_max_le _ f _ 0 (Nat.zero_le _) (fun j _ => dep_le ss f _))
    have HDF := Lib.hid (fun k => dep_le ss f (argL ss P k))
    obtain ⟨bg, hbg⟩ : ∃ bg, begs ss zs a r = bg := ⟨_, rfl⟩
    rw [hbg] at HBL HBG C1
    obtain ⟨dt, hdt⟩ : ∃ dt, depTo ss f P = dt := ⟨_, rfl⟩
    simp only [hdt] at HDEP HD0 HDS HDT
    have hlP : P.length ≤ 1000 := by have := hP.le; rw [hPP] at this; omega
    clear hst hs ht hsc hP hlt hhd hsc1 hl1 ih har hh hr hPP hbg hdt
    go_enter Try.func65, Try.ntmps65
    go_wp2_with (go_at_call 70; refine C1.out.mono ?_; rintro e w1 ⟨v, rfl, hrow, hB1⟩; obtain ⟨Ar, cr, her, hra⟩ := row_ints hrow (by omega); subst her; have HB1 := Lib.hid hB1; have HRA := Lib.hid hra; clear hrow hB1 hra)
    go_loopw [8, 9] (fun m i wr => ∃ k : Nat, k ≤ r ∧ i = .int .i64 k ∧ m = .int .i64 (dt k : Nat) ∧ Below w1.heap.size w1 wr) (fun _ i _ => r - (intOf i).toNat)
    case atStart => exact ⟨0, Nat.zero_le _, rfl, by rw [HD0.out]; rfl, Below.refl _ _⟩
    case round =>
      obtain ⟨k, hk, rfl, rfl, hB⟩ := hrel
      have HB := Lib.hid hB
      have hm := HDT.out k hk
      obtain ⟨m, hm'⟩ : ∃ m, dt k = m := ⟨_, rfl⟩
      have HM := Lib.hid hm'
      rw [hm'] at hm
      rw [hm']
      by_cases hlt : k < r
      · obtain ⟨b', off, y, rfl, c0, k1, e1⟩ := HRA.out.cellAt hlt
        obtain ⟨b2, off2, he', hbl, _⟩ := HRA.out.mem (by omega)
        cases he'
        have c1 := (hB.cell (p := ⟨b', off + k, none⟩) hbl).trans c0
        have hy := HBG.out k hlt
        rw [List.getElem?_eq_getElem k1, e1] at hy
        obtain rfl := Option.some.inj hy
        have HS := Lib.hid (HDS.out k)
        have hd := HDF.out k
        have C3 := Lib.hid (C2.out wr (HB1.out.mono hb |>.trans (hB.mono (Nat.le_trans hb HB1.out.size))) k hlt)
        obtain ⟨q, hq⟩ : ∃ q, psA ss zs a k = q := ⟨_, rfl⟩
        obtain ⟨d, hd'⟩ : ∃ d, dep ss f (argL ss P k) = d := ⟨_, rfl⟩
        rw [hq] at c1 C3
        rw [hd'] at hd C3 HS
        have hk0 : (0 : Int) ≤ (k : Int) := by omega
        have hk1 : (k : Int) < (r : Int) := by omega
        rw [HM.out] at HS
        clear c0 hy e1 k1 hq hd' hB hm'
        by_cases hgt : m < d
        · have H := Lib.hid (show dt (k + 1) = d by rw [HS.out]; omega)
          have hg : (m : Int) < (d : Int) := by omega
          clear HS
          go_wp2_with (go_at_call 65; refine C3.out.mono ?_; rintro e w2 ⟨rfl, hB2⟩; have HB2 := Lib.hid hB2; clear hB2)
          go_roundw
          case rel => exact ⟨k + 1, by omega, by go_num, by rw [H.out], HB.out.trans (HB2.out.mono HB.out.size)⟩
          case measure => simp [intOf]; omega
        · have H := Lib.hid (show dt (k + 1) = m by rw [HS.out]; omega)
          have hg : ¬ (m : Int) < (d : Int) := by omega
          clear HS
          go_wp2_with (go_at_call 65; refine C3.out.mono ?_; rintro e w2 ⟨rfl, hB2⟩; have HB2 := Lib.hid hB2; clear hB2)
          go_roundw
          case rel => exact ⟨k + 1, by omega, by go_num, by rw [H.out], HB.out.trans (HB2.out.mono HB.out.size)⟩
          case measure => simp [intOf]; omega
      · obtain rfl : k = r := by omega
        have hdl := HDL.out
        rw [HDEP.out, HM.out] at hdl
        clear hB hm'
        go_wp2
        go_ret
        exact ⟨ret_i (by rw [HDEP.out, HM.out]; go_num), HB1.out.trans (HB.out.mono HB1.out.size)⟩

end Go.Proofs.Ytafpcpdafojgkaa
