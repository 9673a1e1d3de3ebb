/- Contract: solve. -/
import Derived.Test.YtpliamckapkhmaaY11g
import Derived.Deep.QuietTactic
import Derived.BigQuiet
namespace Go.Proofs.Ytpliamckapkhmaa
open Go.RowKit

theorem info_eq : (Try.prog.info? 180).map (fun i => (i.zero, i.size, i.bytes)) = some (some (.agg #[.int .i64 0, .int .i64 0]), 2, 16) := by kernel_rfl
set_option maxRecDepth 100000 in
set_option maxHeartbeats 2000000 in
theorem solve_any (E : Nat → Prop) (fb : Nat) (S : Value) (F F' : Fd) (m a b : Nat) (ok : Bool) (m2 : Nat) (en : Bool) (w : World) (h : FAt w E fb S F) (hF : F.Ok) (hE : ∀ b, E b → b < w.heap.size) (hn : F.tops.length ≤ 100000) (har : ∀ l ∈ F.args, l.length ≤ 3) (hm : m ≤ 1000000)
    (hs : solveF m [(a, b)] F = some (ok, F')) (hen : ok = true → endlessF F' m2 a = some en) :
    Calls Try.prog 139 #[.pointer (some ⟨fb, 0, none⟩), .int .i64 (a : Int), .int .i64 (b : Int)] w fun e w' => e = .returned (.bool (ok && !en)) ∧ FAt w' E fb S F' ∧ KeepE E w w' := by
  have HH := Lib.hid h
  have HS := Lib.hid hs
  have HEN := Lib.hid hen
  have HE := Lib.hid hE
  have HFF := Lib.hid hF
  clear h hs hen hE hF
  go_enter Try.func139, Try.ntmps139
  go_wp2
  go_loopg [7] m (fun g s1 wr => ∃ (st : List (Nat × Nat)) (Fj : Fd), EqAt wr w.heap.size s1 st ∧ FAt wr E fb S Fj ∧ Fj.Ok ∧ Fj.tops = F.tops ∧ Fj.args = F.args ∧ solveF g st Fj = some (ok, F') ∧ KeepE E w wr ∧ g ≤ m ∧ st.length + 3 * g ≤ 3 * m + 1)
  case atStart =>
    have hb := (Below.refl w.heap.size w).alloc (Nat.le_refl _) (.cells #[.int .i64 (a : Int), .int .i64 (b : Int)] 180)
    refine ⟨[(a, b)], F, ⟨rfl, .inr ⟨w.heap.size, 1, #[.int .i64 (a : Int), .int .i64 (b : Int)], rfl, Nat.le_refl _, heap_alloc_new w _, Nat.le_refl _, by unfold maxLen; omega, rfl, rfl⟩⟩, HH.out.below hb, HFF.out, rfl, rfl, HS.out, KeepE.of_below hb HE.out, Nat.le_refl _, by simp; omega⟩
  case round =>
    obtain ⟨st, Fj, hst, hA, hFj, htj, haj, hsj, hK, hgm, hbd⟩ := hrel
    cases gk with
    | zero => cases hsj
    | succ gk =>
    rcases List.eq_nil_or_concat st with rfl | ⟨st', p, rfl⟩
    · obtain ⟨A, cap, rfl, _, _⟩ := hst.form
      have hres : ok = true ∧ F' = Fj := by
        unfold solveF at hsj
        simp at hsj
        exact ⟨hsj.1, hsj.2.symm⟩
      obtain ⟨rfl, rfl⟩ := hres
      have hAg := HEN.out rfl
      have CE := Lib.hid (endless_any E fb S F' m2 a en wr hA hFj (hK.lt HE.out) (by rw [htj]; exact hn) hAg)
      have HA := Lib.hid hA
      have HK := Lib.hid hK
      have HEr := Lib.hid (hK.lt HE.out)
      clear hst hA hFj htj haj hsj hK hgm hbd hAg
      go_wp2_with (go_at_call 154; refine CE.out.mono ?_; rintro e w9 ⟨rfl, hB9⟩)
      go_ret
      exact ⟨rfl, HA.out.below hB9, HK.out.trans (KeepE.of_below hB9 HEr.out)⟩
    · obtain ⟨l, r⟩ := p
      rw [List.concat_eq_append] at hst hsj hbd
      obtain ⟨q, cap, rfl, q1, q2, hst', hq, hqs, hcap, hcm, _⟩ := hst.top
      unfold solveF at hsj
      rw [List.getLast?_concat] at hsj
      simp only [List.dropLast_concat] at hsj
      rw [List.length_append, List.length_singleton] at hbd
      cases hx : rootS Fj.prox gk l with
      | none => rw [hx] at hsj; cases hsj
      | some x =>
      cases hy : rootS Fj.prox gk r with
      | none => rw [hx, hy] at hsj; cases hsj
      | some y =>
      rw [hx, hy] at hsj
      simp only at hsj
      obtain ⟨n, hn0⟩ : ∃ n, st'.length = n := ⟨_, rfl⟩
      have HN0 := Lib.hid hn0
      rw [hn0] at hst' q1 q2 hcap hbd ⊢
      have hpl : Fj.prox.length ≤ 1000000 := by rw [hFj.pl, htj]; omega
      have hB1 : Below wr.heap.size wr (wr.alloc (.cells #[.int .i64 (l : Int), .int .i64 (r : Int)] 180)) := (Below.refl _ _).alloc (Nat.le_refl _) _
      have hBj : ∀ j, Below wr.heap.size wr ((wr.alloc (.cells #[.int .i64 (l : Int), .int .i64 (r : Int)] 180)).drewN j) := fun j => ⟨hB1.os, hB1.tape, hB1.output, hB1.size, hB1.block⟩
      have CX := Lib.hid (fun j => (root_any E fb S Fj gk l x _ (hA.below (hBj j)) hx hpl).mono (R' := fun e w' => e = .returned (.int .i64 (x : Int)) ∧ w' = _) (fun e w' h => ⟨h.1, h.2.symm⟩))
      have CY := Lib.hid (fun j => (root_any E fb S Fj gk r y _ (hA.below (hBj j)) hy hpl).mono (R' := fun e w' => e = .returned (.int .i64 (y : Int)) ∧ w' = _) (fun e w' h => ⟨h.1, h.2.symm⟩))
      have e1 : ((n + 1 : Nat) : Int) - 1 = (n : Int) := by omega
      have hn0' : (0 : Int) ≤ (n : Int) := by omega
      have HA := Lib.hid hA
      have HST := Lib.hid hst'
      have HSJ := Lib.hid hsj
      have HFJ := Lib.hid hFj
      have HTJ := Lib.hid htj
      have HAJ := Lib.hid haj
      have HK := Lib.hid hK
      have HBJ := Lib.hid hBj
      have HXY := Lib.hid (And.intro hx hy)
      clear hA hst hst' hsj hFj htj haj hK hBj hB1 hx hy hpl hn0
      go_wp2_with fail
      go_quiet ((go_at_call 153; (with_reducible first | exact Calls.quiet_of_same (CX.out _) | exact Calls.quiet_of_same (CY.out _))))
      generalize hW : World.drewN (wr.alloc _) _ = W2
      have hB2 : Below wr.heap.size wr W2 := by rw [← hW]; exact HBJ.out _
      have hA2 := HA.out.below hB2
      have HST2 := Lib.hid (HST.out.below hB2)
      have HK2 := Lib.hid (HK.out.trans (KeepE.of_below hB2 (HK.out.lt HE.out)))
      have hsj := HSJ.out
      have hxl : x < F.tops.length := by have h1 := (rootS_lt HXY.out.1).2.1; rw [HFJ.out.pl, HTJ.out] at h1; exact h1
      have hyl : y < F.tops.length := by have h1 := (rootS_lt HXY.out.2).2.1; rw [HFJ.out.pl, HTJ.out] at h1; exact h1
      have HA2 := Lib.hid hA2
      by_cases hxy : x = y
      · rw [if_pos hxy] at hsj
        have HX1 := Lib.hid hsj
        subst hxy
        clear hW hB2 hA2 hsj
        go_wp2
        go_roundg gk
        case measure => omega
        case rel => exact ⟨st', Fj, HST2.out, HA2.out, HFJ.out, HTJ.out, HAJ.out, HX1.out, HK2.out, by omega, by have := HN0.out; omega⟩
      · rw [if_neg hxy] at hsj
        obtain ⟨tx, htx⟩ : ∃ tx, F.tops[x]? = some tx := ⟨_, List.getElem?_eq_getElem hxl⟩
        obtain ⟨ty, hty⟩ : ∃ ty, F.tops[y]? = some ty := ⟨_, List.getElem?_eq_getElem hyl⟩
        rw [show Fj.tops[x]? = some tx by rw [HTJ.out]; exact htx, show Fj.tops[y]? = some ty by rw [HTJ.out]; exact hty] at hsj
        simp only at hsj
        obtain ⟨gt, nt, ct, t1, hnt, htc⟩ := hA2.topAll (by rw [HTJ.out]; omega)
        rw [HTJ.out] at hnt htc
        have tcx := htc x tx htx
        have tcy := htc y ty hty
        have hbn : ((x : Int) == (y : Int)) = false := by simp; omega
        have hx0 : (0 : Int) ≤ (x : Int) := by omega
        have hy0 : (0 : Int) ≤ (y : Int) := by omega
        have hx1 : (x : Int) < (nt : Int) := by omega
        have hy1 : (y : Int) < (nt : Int) := by omega
        have hxi : ¬ (x : Int) = (y : Int) := by omega
        by_cases ht1 : ty < 0
        · simp only [if_pos ht1] at hsj
          obtain ⟨pv, hpv⟩ : ∃ pv, Fj.prox[y]? = some pv := ⟨_, List.getElem?_eq_getElem (by rw [HFJ.out.pl, HTJ.out]; exact hyl)⟩
          obtain ⟨gp, np, cp, p1, hnp, p2, p3, p4, p5, p6, p7⟩ := hA2.prxSet hpv
          clear hpv
          rw [HFJ.out.pl, HTJ.out] at hnp
          have hy2 : (y : Int) < (np : Int) := by omega
          obtain ⟨W3, hW3⟩ : ∃ W3, W2.setCell ⟨gp, y, none⟩ (.int .i64 (x : Int)) = W3 := ⟨_, rfl⟩
          have hA3 := p5 x
          have hK3 := HK2.out.trans (KeepE.set (p := ⟨gp, y, none⟩) p4 (.int .i64 (x : Int)))
          have hS3 := p6 _ (.int .i64 (x : Int)) _ _ HST2.out
          rw [hW3] at hA3 hK3 hS3
          obtain ⟨gt3, nt3, ct3, s1, hnt3, hs3⟩ := hA3.topAll (by show 0 < Fj.tops.length; rw [HTJ.out]; omega)
          have hnt4 : nt3 = F.tops.length := hnt3.trans (by show Fj.tops.length = _; rw [HTJ.out])
          have s2 := hs3 y ty (by show Fj.tops[y]? = _; rw [HTJ.out]; exact hty)
          have hy3 : (y : Int) < (nt3 : Int) := by omega
          have HX1 := Lib.hid hsj
          have HA3 := Lib.hid hA3
          have HK3 := Lib.hid hK3
          have HS3 := Lib.hid hS3
          have HTX := Lib.hid hxl
          clear hW hB2 hA2 hsj htc hnt p5 p6 hA3 hK3 hS3 hnt3 hs3 hnt4 hnp htx hty hxl hyl
          go_wp2
          go_roundg gk
          case measure => omega
          case rel => exact ⟨st', _, HS3.out, HA3.out, HFJ.out.setP (by rw [HTJ.out]; exact HTX.out), HTJ.out, HAJ.out, HX1.out, HK3.out, by omega, by have := HN0.out; omega⟩
        · simp only [if_neg ht1] at hsj
          obtain ⟨pv, hpv⟩ : ∃ pv, Fj.prox[x]? = some pv := ⟨_, List.getElem?_eq_getElem (by rw [HFJ.out.pl, HTJ.out]; exact hxl)⟩
          obtain ⟨gp, np, cp, p1, hnp, p2, p3, p4, p5, p6, p7⟩ := hA2.prxSet hpv
          clear hpv
          rw [HFJ.out.pl, HTJ.out] at hnp
          have hy2 : (x : Int) < (np : Int) := by omega
          obtain ⟨W3, hW3⟩ : ∃ W3, W2.setCell ⟨gp, x, none⟩ (.int .i64 (y : Int)) = W3 := ⟨_, rfl⟩
          have hA3 := p5 y
          have hK3 := HK2.out.trans (KeepE.set (p := ⟨gp, x, none⟩) p4 (.int .i64 (y : Int)))
          have hS3 := p6 _ (.int .i64 (y : Int)) _ _ HST2.out
          rw [hW3] at hA3 hK3 hS3
          obtain ⟨gt3, nt3, ct3, s1, hnt3, hs3⟩ := hA3.topAll (by show 0 < Fj.tops.length; rw [HTJ.out]; omega)
          have hnt4 : nt3 = F.tops.length := hnt3.trans (by show Fj.tops.length = _; rw [HTJ.out])
          have s2 := hs3 x tx (by show Fj.tops[x]? = _; rw [HTJ.out]; exact htx)
          have s3 := hs3 y ty (by show Fj.tops[y]? = _; rw [HTJ.out]; exact hty)
          have hy3 : (y : Int) < (nt3 : Int) := by omega
          have hx3 : (x : Int) < (nt3 : Int) := by omega
          have HA3 := Lib.hid hA3
          have HK3 := Lib.hid hK3
          have HS3 := Lib.hid hS3
          have HTY := Lib.hid hyl
          have HTX := Lib.hid hxl
          by_cases ht2 : tx < 0
          · rw [if_pos ht2] at hsj
            have HX1 := Lib.hid hsj
            clear hW hB2 hA2 hsj htc hnt p5 p6 hA3 hK3 hS3 hnt3 hs3 hnt4 hnp htx hty hxl hyl
            go_wp2
            go_roundg gk
            case measure => omega
            case rel => exact ⟨st', _, HS3.out, HA3.out, HFJ.out.setP (by rw [HTJ.out]; exact HTY.out), HTJ.out, HAJ.out, HX1.out, HK3.out, by omega, by have := HN0.out; omega⟩
          · rw [if_neg ht2] at hsj
            by_cases ht3 : tx = ty
            · rw [if_pos ht3] at hsj
              subst ht3
              rw [HAJ.out] at hsj
              cases hax : F.args[x]? with
              | none => rw [hax] at hsj; cases hsj
              | some ax =>
              cases hay : F.args[y]? with
              | none => rw [hax, hay] at hsj; cases hsj
              | some ay =>
              rw [hax, hay] at hsj
              simp only at hsj
              by_cases hal : ax.length ≤ ay.length
              · rw [if_pos hal] at hsj
                have hsj' : solveF gk (st' ++ ax.zip ay) (Fj.setP x y) = some (ok, F') := by
                  rw [← HAJ.out] at hsj
                  exact hsj
                have HX1 := Lib.hid hsj'
                obtain ⟨nx, hnx⟩ : ∃ nx, ax.length = nx := ⟨_, rfl⟩
                have hnx3 : nx ≤ 3 := by rw [← hnx]; exact har ax (List.mem_of_getElem? hax)
                obtain ⟨ga, na, ca, A, caa, a1, hna, a2, _, hargs⟩ := hA3.args2 (k := x) (al := ax) (by show Fj.args[x]? = _; rw [HAJ.out]; exact hax)
                rw [hnx] at a2
                have hxa : (x : Int) < (na : Int) := by
                  have h1 := (List.getElem?_eq_some_iff.1 hax).1
                  have h2 : na = F.args.length := hna.trans (by show Fj.args.length = _; rw [HAJ.out])
                  omega
                have HARG := Lib.hid hargs
                have HAY := Lib.hid (show (Fj.setP x y).args[y]? = some ay by show Fj.args[y]? = _; rw [HAJ.out]; exact hay)
                have HNX := Lib.hid hnx
                have HAL := Lib.hid hal
                have hbn3 : ((tx : Int) != (tx : Int)) = false := by simp
                have hyl2 := (List.getElem?_eq_some_iff.1 hay).1
                have HYL2 := Lib.hid hyl2
                obtain ⟨i0, hi, hz0, hz1, hz2⟩ := info_parts info_eq
                have HEr := Lib.hid (HK3.out.lt HE.out)
                clear hW hB2 hA2 hsj hsj' htc hnt p5 p6 hA3 hK3 hS3 hnt3 hs3 hnt4 hnp htx hty hxl hyl hargs hna hnx hax hay hal hyl2
                go_wp2
                go_quiet (fail)
                go_wp2
                have hbd3 := below_drewN (Below.refl W3.heap.size W3)
                generalize hW4 : W3.drewN _ = W4
                have HB4 := Lib.hid (show Below W3.heap.size W3 W4 by rw [← hW4]; exact hbd3 _)
                clear hbd3 hW4
                go_loopw [7, 90] (fun s7 c w5 => ∃ j : Nat, c = .int .i64 j ∧ j ≤ nx ∧ EqAt w5 w.heap.size s7 (st' ++ (ax.zip ay).take j) ∧ KT 180 W3 w5 ∧ KeepE E w w5) (fun _ c _ => nx - (intOf c).toNat)
                case atStart =>
                  exact ⟨0, rfl, Nat.zero_le _, by rw [List.take_zero, List.append_nil]; exact HS3.out.below HB4.out, KT.below HB4.out, HK3.out.trans (KeepE.of_below HB4.out HEr.out)⟩
                case round =>
                  obtain ⟨j, rfl, hj, hsE, hkt, hkE⟩ := hrel
                  obtain ⟨A7, c7, rfl, hc7, hc7m⟩ := hsE.form
                  have hzl : (ax.zip ay).length = nx := by rw [List.length_zip, HNX.out]; have := HAL.out; rw [HNX.out] at this; omega
                  have hstl : (st' ++ (ax.zip ay).take j).length = n + j := by rw [List.length_append, HN0.out, List.length_take, hzl]; omega
                  rw [hstl] at hc7
                  by_cases hjx : j < nx
                  · have hjax : j < ax.length := by have := HNX.out; omega
                    have hjay : j < ay.length := by have := HAL.out; omega
                    obtain ⟨g, cs, rfl, hg1, hg2⟩ := HARG.out j _ (List.getElem?_eq_getElem hjax)
                    obtain ⟨av, hav⟩ : ∃ av, ax[j] = av := ⟨_, rfl⟩
                    obtain ⟨bv, hbv⟩ : ∃ bv, ay[j] = bv := ⟨_, rfl⟩
                    rw [hav] at hg2
                    have hcx : wr.cell? ⟨g, j, none⟩ = some (.int .i64 (av : Int)) := (World.cell?_of_block ((hkt g _ hg1 (fun cs z e => by cases e)).trans hg1.symm)).trans hg2
                    have hA5 := HA3.out.kt hkt rfl
                    obtain ⟨gb, nb, cb, Ab, cbb, f1, hnb, f2, hyl3, hargy⟩ := hA5.args2 HAY.out
                    obtain ⟨g', cs', rfl, _, f3⟩ := hargy j _ (List.getElem?_eq_getElem hjay)
                    rw [hbv] at f3
                    have hnb2 : (y : Int) < (nb : Int) := by
                      have h2 : nb = F.args.length := hnb.trans (by show Fj.args.length = _; rw [HAJ.out])
                      have := HYL2.out
                      omega
                    obtain ⟨ly, hly⟩ : ∃ ly, ay.length = ly := ⟨_, rfl⟩
                    rw [hly] at f2 hjay
                    have hj0 : (0 : Int) ≤ (j : Int) := by omega
                    have hj1 : (j : Int) < (nx : Int) := by omega
                    have hj2 : (j : Int) < (ly : Int) := by omega
                    have hzj : (ax.zip ay)[j]? = some (av, bv) := by
                      rw [List.getElem?_zip_eq_some]
                      exact ⟨by rw [← hav]; exact List.getElem?_eq_getElem hjax, by rw [← hbv]; exact List.getElem?_eq_getElem (by omega)⟩
                    have htk : (ax.zip ay).take (j + 1) = (ax.zip ay).take j ++ [(av, bv)] := by
                      rw [List.take_add_one, hzj]; rfl
                    have HTK := Lib.hid htk
                    have HSE := Lib.hid hsE
                    have HKT := Lib.hid hkt
                    have HKE := Lib.hid hkE
                    have HST0 := Lib.hid hstl
                    have hbase : w.heap.size ≤ wr.heap.size := hkE.size
                    have hrow : wr.ownsRow w.heap.size 180 2 (.slice A7 (n + j) c7) (n + j) (eqv (st' ++ (ax.zip ay).take j)) := by
                      have := hsE
                      unfold EqAt at this
                      rw [hstl] at this
                      exact this
                    have HROW := Lib.hid (hrow.alloc (.cells #[.int .i64 (av : Int), .int .i64 (bv : Int)] 180))
                    have HB6 := Lib.hid ((Below.refl wr.heap.size wr).alloc (Nat.le_refl _) (.cells #[.int .i64 (av : Int), .int .i64 (bv : Int)] 180))
                    rw [hstl]
                    clear hjax hav hbv hg1 hg2 hA5 hnb hargy hly hzj htk hsE hkt hkE hzl hrow hstl
                    go_wp2_with (at_builtin
                                 refine wpList_append_own_at _ rfl _ _ 181 rfl w.heap.size 180 i0 _ 2 16 Try.underlying181 hi hz0 hz1 hz2 rfl (by omega) (.slice A7 (n + j) c7) (n + j) (eqv (st' ++ (ax.zip ay).take j)) rfl HROW.out ⟨wr.heap.size, 0, none⟩ 1 1 [.int .i64 (av : Int), .int .i64 (bv : Int)] rfl rfl
                                   (World.news_of_block (cs := #[.int .i64 (av : Int), .int .i64 (bv : Int)]) (t := 180) (fr := (0, 0)) (heap_alloc_new wr _)) (by simp [Value.oneCell']) (by unfold maxLen; omega) (by omega) (by simp; omega) ?_
                                 intro v6 w6 hown6 hg6 _ hv6
                                 have HOWN6 := Lib.hid hown6
                                 have HKT6 := Lib.hid ((HKT.out.trans (KT.below HB6.out)).trans (KT.grown HROW.out hg6))
                                 have HKE6 := Lib.hid ((HKE.out.trans (KeepE.of_below HB6.out (HKE.out.lt HE.out))).trans (KeepE.of_grown hg6 ((HKE.out.trans (KeepE.of_below HB6.out (HKE.out.lt HE.out))).lt HE.out) (fun g e he => by
                                   have h1 := (HROW.out.lt g e).1
                                   have h2 := HE.out g he
                                   omega)))
                                 clear hown6 hg6 hv6)
                    go_roundw
                    case rel =>
                      refine ⟨j + 1, by go_num, by omega, ?_, HKT6.out, HKE6.out⟩
                      have h1 := HOWN6.out
                      unfold EqAt
                      rw [HTK.out, ← List.append_assoc, List.length_append, HST0.out, eqv_app]
                      exact h1
                    case measure => simp [intOf]; omega
                  · obtain rfl : j = nx := by omega
                    have hze : (ax.zip ay).take j = ax.zip ay := by rw [← hzl]; exact List.take_length
                    rw [hze] at hsE hstl
                    have HSE := Lib.hid hsE
                    have HST0 := Lib.hid hstl
                    have HA5 := Lib.hid (HA3.out.kt hkt rfl)
                    have HKE := Lib.hid hkE
                    have hjn : ¬ (j : Int) < (j : Int) := by omega
                    rw [hze, hstl]
                    have HYL := Lib.hid (show y < F.tops.length by have h1 := HYL2.out; have h2 := HFF.out.al; omega)
                    clear hsE hkt hkE hzl hze hstl
                    go_wp2
                    go_roundg gk
                    case measure => omega
                    case rel => exact ⟨st' ++ ax.zip ay, _, by have h1 := HSE.out; rw [HST0.out] at h1; exact h1, HA5.out, HFJ.out.setP (by rw [HTJ.out]; exact HYL.out), HTJ.out, HAJ.out, HX1.out, HKE.out, by omega, by have h1 := HST0.out; omega⟩
              · rw [if_neg hal] at hsj
                cases hsj
            · rw [if_neg ht3] at hsj
              have HX1 := Lib.hid (show false = ok ∧ Fj.setP x y = F' by have hq := Prod.mk.inj (Option.some.inj hsj); exact ⟨hq.1, hq.2⟩)
              have hbn3 : ((tx : Int) != (ty : Int)) = true := by simp; omega
              clear hW hB2 hA2 hsj htc hnt p5 p6 hA3 hK3 hS3 hnt3 hs3 hnt4 hnp htx hty hxl hyl
              go_wp2
              go_quiet (fail)
              go_wp2
              go_ret
              have hbd3 := below_drewN (Below.refl W3.heap.size W3)
              exact ⟨by rw [← HX1.out.1]; rfl, by rw [← HX1.out.2]; exact HA3.out.below (hbd3 _), HK3.out.drewN _⟩

end Go.Proofs.Ytpliamckapkhmaa
