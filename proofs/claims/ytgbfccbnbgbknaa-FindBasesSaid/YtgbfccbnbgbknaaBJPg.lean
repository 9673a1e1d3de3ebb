/- lemmarylaw05.FindBases: for every input the statement's function returns true, and its arguments read behind the call as they read before. No condition. -/
import Derived.Test.YtgbfccbnbgbknaaBIg
import Derived.Test.YtgbfccbnbgbknaaFEg
import Derived.Test.YtgbfccbnbgbknaaG1g
import Derived.Test.YtgbfccbnbgbknaaK11g
/- The walk of FindBases. -/
namespace Go.Proofs.Ytgbfccbnbgbknaa
open Go.RowKit

set_option maxRecDepth 100000 in
set_option maxHeartbeats 4000000 in
theorem bases_small (As At Ab : Option Addr) (ns cs n c nb cb : Nat) (ls : List Hd) (w : World) (ht : HdsAt w w.heap.size At n ls) (h : fewB ns n 70 ls = false ∨ 100 < nb) :
    Calls Try.prog 15 #[.slice As ns cs, .slice At n c, .slice Ab nb cb] w fun e w' => e = .returned (.bool true) ∧ Below w.heap.size w w' := by
  have C1 := Lib.hid (few5_any As At ns cs n c 70 ls w _ ht)
  cases h1 : fewB ns n 70 ls
  · rw [h1] at C1
    clear ht h h1
    go_enter Try.func15, Try.ntmps15
    go_wp2_with (first
      | (go_at_call 54; refine C1.out.mono ?_; rintro e w' ⟨rfl, rfl⟩)
      | (go_at_call 55; refine (awakeF_any _).mono ?_; rintro e w3 ⟨rfl, hB3⟩; have HB3 := Lib.hid hB3; clear hB3))
    go_ret
    exact ⟨rfl, HB3.out⟩
  · rw [h1] at h C1
    have h0 : 100 < nb := by rcases h with h | h; cases h; exact h
    have d1 : decide ((100 : Int) < (nb : Int)) = true := decide_eq_true (by omega)
    clear ht h h1
    go_enter Try.func15, Try.ntmps15
    go_wp2_with (first
      | (go_at_call 54; refine C1.out.mono ?_; rintro e w' ⟨rfl, rfl⟩)
      | (go_at_call 55; refine (awakeF_any _).mono ?_; rintro e w3 ⟨rfl, hB3⟩; have HB3 := Lib.hid hB3; clear hB3))
    go_ret
    exact ⟨rfl, HB3.out⟩

set_option maxRecDepth 100000 in
set_option maxHeartbeats 8000000 in
theorem bases_ok (As At Ab : Option Addr) (ns cs n c nb cb : Nat) (ss : Sg) (ls : List Hd) (tt : List (List Int)) (xs : List Int) (w : World) (hs : SigAt w w.heap.size As ns ss) (ht : TermsAt w w.heap.size At n ls tt) (hx : IntsAt w w.heap.size Ab nb xs) (hcap : ∀ x ∈ ls, capOk x) (hf : fewB ns n 70 ls = true) (hnb : ¬ 100 < nb) :
    Calls Try.prog 15 #[.slice As ns cs, .slice At n c, .slice Ab nb cb] w fun e w' => e = .returned (.bool true) ∧ Below w.heap.size w w' := by
  have h70 : n ≤ 70 := by
    unfold fewB at hf
    rw [Bool.and_eq_true, decide_eq_true_eq] at hf
    omega
  have C1 := Lib.hid (few5_any As At ns cs n c 70 ls w _ ht.hds)
  rw [hf] at C1
  have hlt := ht.len
  have dnb : decide ((100 : Int) < (nb : Int)) = false := decide_eq_false (by omega)
  have P0 := Lib.hid (fun V (h : Below w.heap.size w V) => fBase_any As At ns cs n c ss ls tt V (hs.up h) (ht.up h) (by omega) hcap)
  have R0 := Lib.hid (fun V (h : Below w.heap.size w V) => rBase_any As At ns cs n c ss ls tt V (hs.up h) (ht.up h) (by omega) hcap)
  have PI := Lib.hid (fun V (h : Below w.heap.size w V) => fIsBase_any As At Ab ns cs n c nb cb ss ls tt xs V (hs.up h) (ht.up h) (hx.up h) (by omega) hcap)
  have RI := Lib.hid (fun V (h : Below w.heap.size w V) => rIsBase_any As At Ab ns cs n c nb cb ss ls tt xs V (hs.up h) (ht.up h) (hx.up h) (by omega) hcap)
  obtain ⟨ok, hok⟩ : ∃ ok, isbB ss tt xs = ok := ⟨_, rfl⟩
  rw [hok] at PI RI
  have b1 : (ok != ok) = false := by simp
  have HOK := Lib.hid hok
  cases hv : shOk ss tt
  · have e1 : basZ ss tt = ([], 1) := by unfold basZ; rw [hv]; rfl
    simp only [e1] at P0 R0
    clear hs ht hx hcap hf hlt hok hv e1
    go_enter Try.func15, Try.ntmps15
    go_wp2_with (first
      | (go_at_call 54; refine C1.out.mono ?_; rintro e w' ⟨rfl, rfl⟩)
      | (go_at_call 89; refine (P0.out _ (Below.refl _ _)).mono ?_; rintro e w1 ⟨A1, n1, c1, rfl, hI1, _, hB1⟩; have HI1 := Lib.hid hI1; have HB1 := Lib.hid hB1; clear hI1 hB1)
      | (go_at_call 90; refine (R0.out _ HB1.out).mono ?_; rintro e w2 ⟨A2, n2, c2, rfl, hI2, _, hB2⟩; have HI2 := Lib.hid hI2; have HI1b := Lib.hid (HI1.out.up hB2); have HB2 := Lib.hid (below_then HB1.out hB2); clear hI2 hB2)
      | (go_at_call 91; refine (PI.out _ HB2.out).mono ?_; rintro e w3 ⟨rfl, hB3⟩; have HI2b := Lib.hid (HI2.out.up hB3); have HI1c := Lib.hid (HI1b.out.up hB3); have HB3 := Lib.hid (below_then HB2.out hB3); clear hB3)
      | (go_at_call 58; (with_reducible refine (sameInts_any A1 A2 n1 c1 n2 c2 [] [] _ _ HI1c.out HI2b.out).mono ?_); rintro e w4 ⟨rfl, k4, hw4⟩; rw [decide_eq_true (show ([] : List Int) = [] from rfl)]; have HB4 := Lib.hid (show Below w.heap.size w w4 from by rw [hw4]; exact below_drewN HB3.out _); clear hw4)
      | (go_at_call 92; refine (RI.out _ HB4.out).mono ?_; rintro e w5 ⟨rfl, hB5⟩; have HB5 := Lib.hid (below_then HB4.out hB5); clear hB5)
      | (go_at_call 55; refine (awakeF_any _).mono ?_; rintro e w6 ⟨rfl, hB6⟩; have HB6 := Lib.hid (below_then HB5.out hB6); clear hB6))
    go_ret
    exact ⟨rfl, HB6.out⟩
  · have e1 : basZ ss tt = (chF (basP ss tt n) n, 0) := by unfold basZ; rw [hv, hlt]; rfl
    have hisb := bas_isb hv
    rw [← hlt] at hisb
    have HIN := Lib.hid (fun (z : Int) (hz : z ∈ chF (basP ss tt n) n) => chF_mem.1 hz)
    obtain ⟨L, hL⟩ : ∃ L, chF (basP ss tt n) n = L := ⟨_, rfl⟩
    simp only [e1, hL] at P0 R0
    rw [hL] at hisb
    simp only [hL] at HIN
    have PL := Lib.hid (fun V A1 n1 c1 (h : Below w.heap.size w V) (hI : IntsAt V V.heap.size A1 n1 L) => fIsBase_any As At A1 ns cs n c n1 c1 ss ls tt L V (hs.up h) (ht.up h) hI (by omega) hcap)
    simp only [hisb] at PL
    have CO := Lib.hid (fun V (i : Int) (h : Below w.heap.size w V) => fOver_any As At ns cs n c i ss ls tt V (hs.up h) (ht.up h) (by omega) hcap)
    have CA := Lib.hid (fun V Aq nq cq zq (h : Below w.heap.size w V) (hq : IntsAt V V.heap.size Aq nq zq) (hcq : nq ≤ cq ∧ cq ≤ 9223372036854775807) => fAlike_any As At Aq ns cs n c nq cq ss ls tt zq V (hs.up h) (ht.up h) hq (by omega) hcap hcq)
    have HT := Lib.hid ht
    have HX := Lib.hid hx
    have HCAP := Lib.hid hcap
    have HV := Lib.hid hv
    have HLT := Lib.hid hlt
    clear hs ht hx hcap hf hlt hok hv e1 hisb hL
    go_enter Try.func15, Try.ntmps15
    go_wp2_with (first
      | (go_at_call 54; refine C1.out.mono ?_; rintro e w' ⟨rfl, rfl⟩)
      | (go_at_call 89; refine (P0.out _ (Below.refl _ _)).mono ?_; rintro e w1 ⟨A1, n1, c1, rfl, hI1, _, hB1⟩; have HI1 := Lib.hid hI1; have HB1 := Lib.hid hB1; clear hI1 hB1)
      | (go_at_call 90; refine (R0.out _ HB1.out).mono ?_; rintro e w2 ⟨A2, n2, c2, rfl, hI2, _, hB2⟩; have HI2 := Lib.hid hI2; have HI1b := Lib.hid (HI1.out.up hB2); have HB2 := Lib.hid (below_then HB1.out hB2); clear hI2 hB2)
      | (go_at_call 91; ((with_reducible refine (PI.out _ HB2.out).mono ?_); rintro e w3 ⟨rfl, hB3⟩); have HI2b := Lib.hid (HI2.out.up hB3); have HI1c := Lib.hid (HI1b.out.up hB3); have HB3 := Lib.hid (below_then HB2.out hB3); clear hB3)
      | (go_at_call 58; (with_reducible refine (sameInts_any A1 A2 n1 c1 n2 c2 L L _ _ HI1c.out HI2b.out).mono ?_); rintro e w4 ⟨rfl, k4, hw4⟩; rw [decide_eq_true (show L = L from rfl)]; have HB4 := Lib.hid (show Below w.heap.size w w4 from by rw [hw4]; exact below_drewN HB3.out _); have HI1d := Lib.hid (show IntsAt w4 w4.heap.size A1 n1 L from by rw [hw4]; exact HI1c.out.keep fun _ _ => rfl); clear hw4)
      | (go_at_call 92; refine (RI.out _ HB4.out).mono ?_; rintro e w5 ⟨rfl, hB5⟩; have HI1e := Lib.hid (HI1d.out.up hB5); have HB5 := Lib.hid (below_then HB4.out hB5); clear hB5)
      | (go_at_call 91; ((with_reducible refine (PL.out _ _ _ _ HB5.out HI1e.out).mono ?_); rintro e w6 ⟨rfl, hB6⟩); have HI1f := Lib.hid (HI1e.out.up hB6); have HB6 := Lib.hid (below_then HB5.out hB6); clear hB6))
    have hn1 := HI1f.out.max
    go_loopw [12] (fun iv wr => ∃ i : Nat, i ≤ n1 ∧ iv = .int .i64 i ∧ Below w6.heap.size w6 wr) (fun iv _ => n1 - (intOf iv).toNat)
    case atStart => exact ⟨0, Nat.zero_le _, rfl, Below.refl _ _⟩
    case round =>
      obtain ⟨i, hi, rfl, hBr⟩ := hrel
      have hBw := HB6.out.trans (hBr.mono HB6.out.size)
      by_cases hin : i < n1
      · obtain ⟨b1, o1, rfl, hb1, hc1⟩ := HI1f.out.mem (by omega)
        have hil : i < L.length := by rw [← HI1f.out.len]; exact hin
        obtain ⟨k, hk, hkp, hkz⟩ := HIN.out _ (List.getElem_mem hil)
        have c1i := hc1 i hil
        rw [hkz] at c1i
        obtain ⟨b, off, A', n', c', rfl, hb, p1, p2⟩ := HT.out.hds.cellAt hk
        obtain ⟨t, ht1, ht2, hIt⟩ := HT.out.at p2
        have hok' := hkp
        have hov : anyB (ovr ss tt k) tt.length = false := by
          unfold basP at hkp
          rw [Bool.not_eq_true', anyB_none] at hkp
          refine anyB_none.2 fun m hm => ?_
          have := hkp m (by rw [HLT.out]; exact hm)
          rw [Bool.or_eq_false_iff] at this
          exact this.1
        have hO : ovZ ss tt (k : Int) = ([], 0) := by
          unfold ovZ
          rw [HV.out, if_pos rfl, if_pos ⟨by omega, by have := HLT.out; omega⟩, Int.toNat_natCast]
          have h0 := chF_any (ovr ss tt k) tt.length
          rw [hov, decide_eq_false_iff_not] at h0
          have hnil : chF (ovr ss tt k) tt.length = [] := List.eq_nil_of_length_eq_zero (by omega)
          rw [hnil]
        have hA : srZ ss tt t (fun m => alikeOk ss (tt.getD m []) t) = (chF (fun m => alikeOk ss (tt.getD m []) t) n, 0) := by
          unfold srZ
          rw [HV.out, shOk_each HV.out ht1, HLT.out]; rfl
        have hthere : ok = true → xs.any (fun z => (chF (fun m => alikeOk ss (tt.getD m []) t) n).contains z) = true := by
          intro h
          have := bas_there (b := xs) (by rw [← HLT.out]; exact hk) hov (by rw [HOK.out, h])
          rw [ht2, ← HLT.out] at this
          exact this
        have r1 := (hBr.cell (p := ⟨b1, o1 + i, none⟩) hb1).trans c1i
        have C2 := Lib.hid (CO.out wr (k : Int) hBw)
        rw [hO] at C2
        have C3 := Lib.hid (fun V (h : Below wr.heap.size wr V) => CA.out V A' n' c' t (below_then hBw h) (((hIt.below hBw).more hBw.size).up h) (cap_at HCAP.out p2))
        simp only [hA] at C3
        generalize chF (fun m => alikeOk ss (tt.getD m []) t) n = K at *
        have HTH := Lib.hid hthere
        have HQ1 := Lib.hid (fun V (h : Below wr.heap.size wr V) => (h.cell (p := ⟨b1, o1 + i, none⟩) (Nat.lt_of_lt_of_le hb1 hBr.size)).trans r1)
        have HQ2 := Lib.hid (fun V (h : Below wr.heap.size wr V) => (h.cell (p := ⟨b, off + k, none⟩) (Nat.lt_of_lt_of_le hb hBw.size)).trans ((hBw.cell (p := ⟨b, off + k, none⟩) hb).trans p1))
        have HXR := Lib.hid (HX.out.up hBw)
        have hi0 : (0 : Int) ≤ (i : Int) := by omega
        have hi1 : (i : Int) < (n1 : Int) := by omega
        have hk0 : (0 : Int) ≤ (k : Int) := by omega
        have hk1 : (k : Int) < (n : Int) := by omega
        have HBR := Lib.hid hBr
        have HBW := Lib.hid hBw
        obtain ⟨W7, hW7⟩ : ∃ W7, wr = W7 := ⟨_, rfl⟩
        rw [hW7] at r1 C2 C3 HQ1 HQ2 HXR HBR HBW ⊢
        clear hc1 hkp hkz c1i p1 p2 ht1 ht2 hIt hok' hov hO hA hthere hBr hBw hW7 hil
        go_wp2_with (first
          | (go_at_call 93; refine C2.out.mono ?_; rintro e w8 ⟨A8, n8, c8, rfl, hI8, _, hB8⟩; obtain rfl : n8 = 0 := hI8.len; have q1 := HQ1.out _ hB8; have q2 := HQ2.out _ hB8; have HB8 := Lib.hid hB8; clear hI8 hB8)
          | (go_at_call 65; refine (C3.out _ HB8.out).mono ?_; rintro e w9 ⟨A9, n9, c9, rfl, hI9, _, hB9⟩; have HI9 := Lib.hid hI9; have HB9 := Lib.hid (below_then HB8.out hB9); clear hI9 hB9))
        go_loopw [17, 18] (fun f jv wv => ∃ j : Nat, j ≤ nb ∧ jv = .int .i64 j ∧ f = .bool ((xs.take j).any fun z => K.contains z) ∧ wv = w9) (fun _ jv _ => nb - (intOf jv).toNat)
        case atStart => exact ⟨0, Nat.zero_le _, rfl, rfl, rfl⟩
        case round =>
          obtain ⟨j, hj, rfl, rfl, rfl⟩ := hrel
          by_cases hjn : j < nb
          · obtain ⟨bx, ox, rfl, hbx, hcx⟩ := HXR.out.mem (by omega)
            have hjx : j < xs.length := by rw [← HX.out.len]; exact hjn
            have cz := (HB9.out.cell (p := ⟨bx, ox + j, none⟩) hbx).trans (hcx j hjx)
            have HSL := Lib.hid (any_succ (q := fun z => K.contains z) hjx)
            obtain ⟨z, hz⟩ : ∃ z, xs[j] = z := ⟨_, rfl⟩
            rw [hz] at cz HSL
            have hj0 : (0 : Int) ≤ (j : Int) := by omega
            have hj1 : (j : Int) < (nb : Int) := by omega
            have CH := Lib.hid (has_any A9 n9 c9 K z wr wr.heap.size HI9.out)
            obtain ⟨x, hx⟩ : ∃ x, K.contains z = x := ⟨_, rfl⟩
            rw [hx] at CH HSL
            generalize ((xs.take j).any fun z => K.contains z) = y at *
            clear hcx hz hx
            cases y
            all_goals
              go_wp2_with (go_at_call 74; refine CH.out.mono ?_; rintro e w5 ⟨rfl, rfl⟩)
              go_roundw
              case rel => exact ⟨j + 1, by omega, by go_num, by rw [HSL.out]; simp, trivial⟩
              case measure => simp [intOf]; omega
          · obtain rfl : j = nb := by omega
            have hall : xs.take j = xs := List.take_of_length_le (by rw [← HX.out.len]; exact Nat.le_refl _)
            rw [hall]
            obtain ⟨y, hy⟩ : ∃ y, (xs.any fun z => K.contains z) = y := ⟨_, rfl⟩
            rw [hy] at HTH ⊢
            have HBN := Lib.hid (below_then HBR.out HB9.out)
            clear hall hy
            cases ok
            · go_wp2
              go_roundw
              case rel => exact ⟨i + 1, by omega, by go_num, HBN.out⟩
              case measure => simp [intOf]; omega
            · obtain rfl : y = true := HTH.out rfl
              go_wp2
              go_roundw
              case rel => exact ⟨i + 1, by omega, by go_num, HBN.out⟩
              case measure => simp [intOf]; omega
      · obtain rfl : i = n1 := by omega
        have HBW := Lib.hid hBw
        clear hBr hBw
        go_wp2_with (go_at_call 55; refine (awakeF_any _).mono ?_; rintro e w8 ⟨rfl, hB8⟩; have HB8 := Lib.hid (below_then HBW.out hB8); clear hB8)
        go_ret
        exact ⟨rfl, HB8.out⟩

theorem bases_walk (As At Ab : Option Addr) (ns cs n c nb cb : Nat) (ss : Sg) (ls : List Hd) (tt : List (List Int)) (xs : List Int) (w : World) (hs : SigAt w w.heap.size As ns ss) (ht : TermsAt w w.heap.size At n ls tt) (hx : IntsAt w w.heap.size Ab nb xs) (hcap : ∀ x ∈ ls, capOk x) :
    Calls Try.prog 15 #[.slice As ns cs, .slice At n c, .slice Ab nb cb] w fun e w' => e = .returned (.bool true) ∧ Below w.heap.size w w' := by
  cases hf : fewB ns n 70 ls
  · exact bases_small As At Ab ns cs n c nb cb ls w ht.hds (.inl hf)
  · by_cases h0 : 100 < nb
    · exact bases_small As At Ab ns cs n c nb cb ls w ht.hds (.inr h0)
    · exact bases_ok As At Ab ns cs n c nb cb ss ls tt xs w hs ht hx hcap hf h0

end Go.Proofs.Ytgbfccbnbgbknaa

namespace Go.Proofs.Ytgbfccbnbgbknaa
open Go.ChangeShapes Go.WideShapes Go.ChangeAt Go.RowKit Go.Deep

set_option maxRecDepth 100000 in
theorem bases_lifted (os : Os) (started : os.Started) (H : Type) (enc : TypeId × Value → H) :
    ReturnsInHanded {} Try.checked os 15 .any (Rows.findBasesSpec.pre6 enc Try.prog Try.f15 Rows.findBasesRow.domain false) (Rows.findBasesSpec.post enc Try.prog Try.f15 false true false false) := by
  refine returnsInHanded_of_change (C := Try.checked) own started (by kernel_rfl) Try.func15
    (ChangeSpec.witness6 (enc := enc) (C := Try.checked) false ⟨#[], #[.slice none 0 0, .slice none 0 0, .slice none 0 0], []⟩ 8 (by kernel_rfl) (by kernel_rfl) (by kernel_rfl) (by kernel_rfl)) ?_
  intro W base args ds gs before hval0 hW hcnd _
  have hval : ∀ (j : Nat) t v, Try.f15.params[j]? = some t → args[j]? = some v → Value.okWide Try.prog W .any base t v := hval0
  have hW' := hW
  obtain ⟨p, q, hA0, hV, rfl, hfz, hnd⟩ := hW
  have hA : DataW.TrodAll enc Try.prog W 0 (fun _ => true) true Try.f15.params.toList args.toList ds p := hA0
  rw [Try.params15] at hA hval
  obtain ⟨v0, vs0, d0, ds0, p0, q0, hargs, rfl, rfl, h0, r0⟩ := trodAll_cons hA
  obtain ⟨v1, vs1, d1, ds1, p1, q1, rfl, rfl, rfl, h1, r1⟩ := trodAll_cons r0
  obtain ⟨v2, vs2, d2, ds2, p2, q2, rfl, rfl, rfl, h2, r2⟩ := trodAll_cons r1
  obtain ⟨rfl, rfl, rfl⟩ := trodAll_nil r2
  obtain rfl : args = #[v0, v1, v2] := by cases args; simp_all
  obtain ⟨rfl, rfl⟩ := trodVars_none hV
  obtain ⟨a0, len0, cap0, rfl⟩ := okWide_slice Try.underlying23 (hval 0 23 v0 rfl rfl)
  obtain ⟨a1, len1, cap1, rfl⟩ := okWide_slice Try.underlying49 (hval 1 49 v1 rfl rfl)
  obtain ⟨a2, len2, cap2, rfl⟩ := okWide_slice Try.underlying24 (hval 2 24 v2 rfl rfl)
  have k0 := h0
  have k1 := h1
  have k2 := h2
  have lt0 : ∀ x ∈ p0, x.block < W.heap.size := by obtain ⟨m, hm⟩ := k0; exact DataW.trod_lt m _ _ _ hm
  have lt1 : ∀ x ∈ p1, x.block < W.heap.size := by obtain ⟨m, hm⟩ := k1; exact DataW.trod_lt m _ _ _ hm
  have lt2 : ∀ x ∈ p2, x.block < W.heap.size := by obtain ⟨m, hm⟩ := k2; exact DataW.trod_lt m _ _ _ hm
  obtain ⟨f0, e0⟩ := h0
  obtain ⟨f1, e1⟩ := h1
  obtain ⟨f2, e2⟩ := h2
  obtain ⟨As, ns, cs, ss, es, hs⟩ := read_sign e0
  cases es
  obtain ⟨At, nt, ct, ls, tt, et, ht, hkt, hcap⟩ := read_termsk e1
  cases et
  obtain ⟨Ai, ni, ci, zi, ei, hi, hki1, hki2, _⟩ := read_ints Try.underlying24 e2
  cases ei
  clear hA0 hval0
  refine (bases_walk _ _ _ _ _ _ _ _ _ ss ls tt zi W hs ht hi hcap).mono fun e W' ⟨he, bel⟩ => ?_
  subst he
  exact ⟨_, rfl, _, _, _, [], _, [], hW', trodAll_mk1 (shut_bool Try.underlying4 _), (trodAll_cons_mk (Below.trod laidOut (by kernel_rfl) (of_decide_eq_true (by kernel_rfl)) k0 bel lt0) (trodAll_cons_mk (Below.trod laidOut (by kernel_rfl) (of_decide_eq_true (by kernel_rfl)) k1 bel lt1) (trodAll_cons_mk (Below.trod laidOut (by kernel_rfl) (of_decide_eq_true (by kernel_rfl)) k2 bel lt2) trodAll_mk0))), rfl, bel.frame _, fun h => by cases h⟩

theorem bases_holds : Rows.FindBasesSaid :=
  OpenClaim.holds_of_wide 15 Try.f15 rfl rfl rfl rfl rfl rfl rfl ⟨rfl, rfl, rfl, rfl, rfl⟩ rfl rfl rfl rfl rfl (by kernel_rfl) Try.func15 (by kernel_rfl)
    (of_decide_eq_true (by kernel_rfl)) (by unfold Func.isWrapper; first | (rw [if_pos (by decide +kernel)]; kernel_rfl) | (rw [if_neg (by decide +kernel)]; exact ⟨rfl, rfl⟩))
    (fun os started H enc _ => bases_lifted os started H enc)

end Go.Proofs.Ytgbfccbnbgbknaa
