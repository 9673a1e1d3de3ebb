/- Contract: endless. -/
import Derived.Test.YtojofbmpknpggaaY4g
import Derived.Deep.RegionHeld3
import Derived.Deep.RegionHeldLaw
/- Contract: the closure of add. -/
namespace Go.Proofs.Ytojofbmpknpggaa
open Go.RowKit

/-- The boxes of add, and what they lead to. -/
structure ACtx (w : World) (E : Nat → Prop) (B fb Bt Bat Bf Bsh Bn bt offt nt ct : Nat) (As : Option Addr) (ns cs : Nat) (sh : Int) (ss : Sg) (zs : List Int) : Prop where
  low : ∀ b, b < B → E b
  high : B ≤ Bat
  eE : E Bt ∧ E Bat ∧ E Bf ∧ E Bsh ∧ E Bn
  nb : Bt ≠ Bat ∧ Bf ≠ Bat ∧ Bsh ≠ Bat ∧ Bn ≠ Bat
  t : w.cell? ⟨Bt, 0, none⟩ = some (.slice (some ⟨bt, offt, none⟩) nt ct)
  f : w.cell? ⟨Bf, 0, none⟩ = some (.pointer (some ⟨fb, 0, none⟩))
  s : w.cell? ⟨Bsh, 0, none⟩ = some (.int .i64 sh)
  n : w.cell? ⟨Bn, 0, none⟩ = some (.func (.func 103) #[] #[.pointer (some ⟨Bt, 0, none⟩), .pointer (some ⟨Bat, 0, none⟩), .pointer (some ⟨Bf, 0, none⟩), .pointer (some ⟨Bsh, 0, none⟩), .pointer (some ⟨Bn, 0, none⟩)])
  btl : bt < B
  z : ∀ j (h : j < zs.length), w.cell? ⟨bt, offt + j, none⟩ = some (.int .i64 zs[j])
  sig : SigAt w B As ns ss
  len : nt = zs.length
def But (E : Nat → Prop) (g : Nat) : Nat → Prop := fun b => E b ∧ b ≠ g
section
variable {w w' : World} {E : Nat → Prop} {B fb Bt Bat Bf Bsh Bn bt offt nt ct ns cs : Nat} {As : Option Addr} {sh : Int} {ss : Sg} {zs : List Int}
theorem ACtx.keep (h : ACtx w E B fb Bt Bat Bf Bsh Bn bt offt nt ct As ns cs sh ss zs) (hk : KeepE (But E Bat) w w') : ACtx w' E B fb Bt Bat Bf Bsh Bn bt offt nt ct As ns cs sh ss zs := by
  obtain ⟨e1, e2, e3, e4, e5⟩ := h.eE
  obtain ⟨n1, n2, n3, n4⟩ := h.nb
  have hh := h.high
  have hB : Below B w w' := hk.below (fun b hb => ⟨h.low b hb, by omega⟩)
  exact ⟨h.low, h.high, h.eE, h.nb, (hk.cell (p := ⟨Bt, 0, none⟩) ⟨e1, n1⟩).trans h.t, (hk.cell (p := ⟨Bf, 0, none⟩) ⟨e3, n2⟩).trans h.f, (hk.cell (p := ⟨Bsh, 0, none⟩) ⟨e4, n3⟩).trans h.s, (hk.cell (p := ⟨Bn, 0, none⟩) ⟨e5, n4⟩).trans h.n, h.btl,
    fun j hj => (hB.cell (p := ⟨bt, offt + j, none⟩) h.btl).trans (h.z j hj), h.sig.below hB, h.len⟩
theorem But.keep {g : Nat} (h : KeepE E w w') : KeepE (But E g) w w' := h.mono fun _ hb => hb.1
end

set_option maxRecDepth 100000 in
set_option maxHeartbeats 2000000 in
theorem addC_any (E : Nat → Prop) (B fb Bt Bat Bf Bsh Bn bt offt nt ct ns cs : Nat) (As : Option Addr) (sh : Int) (ss : Sg) (zs : List Int) (har : ArOk ss) (hh : HeadsOk ss zs) (hlo : ∀ z ∈ zs, -12 ≤ z) (hnt : zs.length ≤ 1000) (_hns : ns ≤ 1000) (hsh : 0 ≤ sh ∧ sh ≤ 1000) :
    ∀ (f p p' : Nat) (F : Fd) (w : World), (zs.drop p).length < f → p' ≤ zs.length → scan ss 1 (zs.drop p) = some (zs.drop p') → (∀ b, E b → b < w.heap.size) → ACtx w E B fb Bt Bat Bf Bsh Bn bt offt nt ct As ns cs sh ss zs →
      w.cell? ⟨Bat, 0, none⟩ = some (.int .i64 (p : Int)) → w.frozen? ⟨Bat, 0, none⟩ = false → FAt w E fb (.slice As ns cs) F → F.Ok → F.tops.length + (zs.drop p).length ≤ 100000 →
      Calls Try.prog 103 #[.pointer (some ⟨Bt, 0, none⟩), .pointer (some ⟨Bat, 0, none⟩), .pointer (some ⟨Bf, 0, none⟩), .pointer (some ⟨Bsh, 0, none⟩), .pointer (some ⟨Bn, 0, none⟩)] w fun e w' =>
        e = .returned (.int .i64 ((addF ss sh f (zs.drop p) F).1 : Int)) ∧ FAt w' E fb (.slice As ns cs) (addF ss sh f (zs.drop p) F).2.2 ∧ w'.cell? ⟨Bat, 0, none⟩ = some (.int .i64 (p' : Int)) ∧ w'.frozen? ⟨Bat, 0, none⟩ = false ∧ KeepE (But E Bat) w w' := by
  intro f
  induction f with
  | zero => intro p p' F w h; omega
  | succ f ih =>
    intro p p' F w hf hp' hsc hE hC cat fat hA hF hN
    have hpl : p < zs.length := by
      rcases Nat.lt_or_ge p zs.length with h | h
      · exact h
      · rw [List.drop_of_length_le h] at hsc; cases hsc
    have hdrop : zs.drop p = zs[p] :: zs.drop (p + 1) := List.drop_eq_getElem_cons hpl
    have hlenp : (zs.drop p).length = zs.length - p := List.length_drop
    have hz := hC.z p hpl
    have hzh := hh _ (List.getElem_mem hpl)
    have hzl := hlo _ (List.getElem_mem hpl)
    have hlen := hC.len
    have hsl := hC.sig.len
    obtain ⟨z, hzz⟩ : ∃ z, zs[p] = z := ⟨_, rfl⟩
    rw [hzz] at hdrop hz hzh hzl
    have hBe : E Bat := hC.eE.2.1
    -- behind the step of the place
    obtain ⟨W1, hW1⟩ : ∃ W1, w.setCell ⟨Bat, 0, none⟩ (.int .i64 ((p : Int) + 1)) = W1 := ⟨_, rfl⟩
    have hk1 : KeepE (But E Bat) w W1 := by rw [← hW1]; exact KeepE.set (p := ⟨Bat, 0, none⟩) (fun h => h.2 rfl) _
    have hg1 : w.grownBy W1 (some Bat) := by
      rw [← hW1]
      exact ⟨rfl, rfl, rfl, by simp, fun j _ hne => heap_setCell_other w ⟨Bat, 0, none⟩ j _ (fun e => hne (by rw [e]))⟩
    have hE1 : ∀ b, E b → b < W1.heap.size := fun b hb => Nat.lt_of_lt_of_le (hE b hb) hk1.size
    have hA1 : FAt W1 E fb (.slice As ns cs) F := by
      obtain ⟨bm, vt, va, vp, ks, hM, hks⟩ := hA
      refine ⟨bm, vt, va, vp, ks, ?_, hks⟩
      have hne : ∀ g, ¬ E g → some g ≠ some Bat := fun g hg e => hg (by cases e; exact hBe)
      refine ⟨hM.blk.grown hg1 (hne _ hM.hb), hM.hb, hM.hm, hM.ha, ⟨fun j v us e => (hM.rows.row j v us e).kept hg1 ?_, hM.rows.apart, hM.rows.out⟩, hM.args.kept hg1 ?_, hM.vars.grown hg1 (hne _ hM.hm)⟩
      · cases e2 : v.ownBlock with
        | none => exact .inl rfl
        | some g => exact .inr (hne g (hM.rows.out j v us e g e2))
      · cases e2 : va.ownBlock with
        | none => exact .inl rfl
        | some g => exact .inr (hne g (hM.ha g e2))
    have hC1 := hC.keep hk1
    have cat1 : W1.cell? ⟨Bat, 0, none⟩ = some (.int .i64 ((p + 1 : Nat) : Int)) := by
      rw [← hW1]
      exact World.cell?_setCell_same' _ _ _ (by rw [cat]; rfl)
    have fat1 : W1.frozen? ⟨Bat, 0, none⟩ = false := by rw [← hW1, World.frozen?_setCell]; exact fat
    have ct := hC.t
    have hnt0 : (p : Int) < (nt : Int) := by omega
    have hp0 : (0 : Int) ≤ (p : Int) := by omega
    have cf1 := hC1.f
    have cs1 := hC1.s
    have cn1 := hC1.n
    have HC0 := Lib.hid hC
    have HE0 := Lib.hid hE
    have HC1 := Lib.hid hC1
    have HA1 := Lib.hid hA1
    have HE1 := Lib.hid hE1
    have HK1 := Lib.hid hk1
    have HF := Lib.hid hF
    by_cases hneg : z < 0
    · have HR := Lib.hid (show addF ss sh (f + 1) (zs.drop p) F = ((F.vnode (z - sh)).1, zs.drop (p + 1), (F.vnode (z - sh)).2) by
        rw [hdrop]; simp only [addF, if_pos hneg])
      have hpp : p' = p + 1 := by
        rw [hdrop, scan, arOf, if_pos hneg, Nat.zero_add, scan_zero] at hsc
        have := congrArg List.length (Option.some.inj hsc)
        rw [List.length_drop, List.length_drop] at this
        omega
      subst hpp
      have CV := Lib.hid (fvar_any E fb (.slice As ns cs) F (z - sh) W1 hA1 hF (by omega) hE1 (by omega) (by omega))
      have hzs1 : -1000000 ≤ z - sh := by omega
      have hzs2 : z - sh ≤ 1000000 := by omega
      clear ih hsc hdrop hzz hA hF hC hE hC1 hA1 hE1 hk1 hg1 hlo hh har hN hf hlenp hlen hsl hBe
      go_enter Try.func103, Try.ntmps103
      go_wp2_with (go_at_call 104; refine CV.out.mono ?_; rintro e w2 ⟨rfl, hA2, hK2⟩; have HA2 := Lib.hid hA2; have HK2 := Lib.hid hK2; clear hA2 hK2)
      go_ret
      refine ⟨by rw [HR.out]; rfl, by rw [HR.out]; exact HA2.out, (HK2.out.cell (p := ⟨Bat, 0, none⟩) HC1.out.eE.2.1).trans cat1, (HK2.out.frozen (p := ⟨Bat, 0, none⟩) HC1.out.eE.2.1).trans fat1, HK1.out.trans (But.keep HK2.out)⟩
    · obtain ⟨q, rfl⟩ : ∃ q : Nat, z = (q : Int) := ⟨z.toNat, by omega⟩
      obtain ⟨r, hr⟩ : ∃ r, arOf ss (q : Int) = r := ⟨_, rfl⟩
      have hr3 : r ≤ 3 := by rw [← hr]; exact arOf_le har _
      obtain ⟨l, hl⟩ : ∃ l, zs.drop (p + 1) = l := ⟨_, rfl⟩
      obtain ⟨n, hn⟩ : ∃ n, F.tops.length = n := ⟨_, rfl⟩
      have hscl : scan ss r l = some (zs.drop p') := by
        rw [hdrop, scan, Nat.zero_add, hr, hl] at hsc
        exact hsc
      have hll : l.length = zs.length - (p + 1) := by rw [← hl, List.length_drop]
      have HR := Lib.hid (show addF ss sh (f + 1) (zs.drop p) F = (n, loopK (addF ss sh f) n l (F.push (q : Int)) r) by
        rw [hdrop, hl]; simp only [addF, if_neg hneg, hr, hn])
      have CN := Lib.hid (node_any E fb (.slice As ns cs) F (q : Int) W1 hA1 hF (by omega) hE1)
      rw [hn] at CN hN
      have CAR := Lib.hid (fun w2 (hk : KeepE E W1 w2) => by
        have := uarity_any As ns cs ss (q : Int) w2 B ((hC1.keep (But.keep hk)).sig) (by omega) har (by
          have h1 := hE1 Bat hBe
          have h2 := hk.size
          have h3 := hC1.high
          omega)
        rw [hr] at this
        exact this)
      have HBE := Lib.hid hBe
      have HIH := Lib.hid ih
      have HF1 := Lib.hid (hF.push (q : Int))
      have hpt : (F.push (q : Int)).tops.length = n + 1 := by simp [Fd.push, hn]
      have HPT := Lib.hid hpt
      have hlf : l.length < f := by omega
      have HSC := Lib.hid hscl
      have HL := Lib.hid hl
      have HARX := Lib.hid (fun l r F => addF_ok ss sh f l r F)
      have hn2 : n ≤ 100000 := by omega
      have hN2 : n + 1 + l.length ≤ 100000 := by omega
      have hpn : n < (F.push (q : Int)).tops.length := by omega
      have hu0 : (F.push (q : Int)).args[n]? = some [] := by simp only [Fd.push]; rw [← hn, ← hF.al]; simp
      have HLK := Lib.hid (fun c r h => loopK_ok (node := n) (addF_ok ss sh f) (l := l) (F := F.push (q : Int)) hlf (hF.push (q : Int)) hpn hu0 c r h)
      clear ih hsc hdrop hzz hA hF hC hE hC1 hA1 hE1 hk1 hg1 hlo hh har hf hlenp hsl hBe hr hscl hl hpt hn HF hpn hu0
      go_enter Try.func103, Try.ntmps103
      go_wp2_with (first
        | (go_at_call 105; refine CN.out.mono ?_; rintro e w2 ⟨rfl, hA2, hK2⟩
           have hC2 := HC1.out.keep (But.keep hK2)
           have cf2 := hC2.f
           have hA2' := hA2
           obtain ⟨bm2, vt2, va2, vp2, ks2, hM2, _⟩ := hA2'
           have cS2 := hM2.c.1
           have HA2 := Lib.hid hA2
           have HK2 := Lib.hid hK2
           clear hA2 hK2 hC2 hM2)
        | (go_at_call 106; refine (CAR.out _ HK2.out).mono ?_; rintro e w3 ⟨rfl, hB3⟩
           have hK3 := (HK1.out.trans (But.keep HK2.out)).trans ((KeepE.of_below hB3 (HK2.out.lt HE1.out)).mono (fun b hb => hb.1) : KeepE (But E Bat) w2 w3)
           have cat3 : w3.cell? ⟨Bat, 0, none⟩ = some (.int .i64 ((p + 1 : Nat) : Int)) := (hB3.cell (p := ⟨Bat, 0, none⟩) (HK2.out.lt HE1.out _ HBE.out)).trans ((HK2.out.cell (p := ⟨Bat, 0, none⟩) HBE.out).trans cat1)
           have fat3 : w3.frozen? ⟨Bat, 0, none⟩ = false := (hB3.frozen (p := ⟨Bat, 0, none⟩) (HK2.out.lt HE1.out _ HBE.out)).trans ((HK2.out.frozen (p := ⟨Bat, 0, none⟩) HBE.out).trans fat1)
           have HA3 := Lib.hid (HA2.out.below hB3)
           have HE3 := Lib.hid (fun b hb => Nat.lt_of_lt_of_le (HK2.out.lt HE1.out b hb) hB3.size)
           have HK3 := Lib.hid hK3
           clear hB3 hK3))
      go_loopw [31] (fun c wr => ∃ (j pj : Nat) (Fj : Fd), c = .int .i64 j ∧ j ≤ r ∧ pj ≤ zs.length ∧ loopK (addF ss sh f) n l (F.push (q : Int)) j = (zs.drop pj, Fj) ∧ scan ss j l = some (zs.drop pj) ∧ FAt wr E fb (.slice As ns cs) Fj ∧ Fj.Ok ∧ n < Fj.tops.length ∧ Fj.tops.length + (zs.length - pj) ≤ n + 1 + l.length ∧ wr.cell? ⟨Bat, 0, none⟩ = some (.int .i64 (pj : Int)) ∧ wr.frozen? ⟨Bat, 0, none⟩ = false ∧ KeepE (But E Bat) w wr) (fun c _ => r - (intOf c).toNat)
      case atStart =>
        exact ⟨0, p + 1, F.push (q : Int), rfl, Nat.zero_le _, by omega, by rw [loopK, HL.out], by rw [scan_zero, HL.out], HA3.out, HF1.out, by have := HPT.out; omega, by have := HPT.out; omega, cat3, fat3, HK3.out⟩
      case round =>
        obtain ⟨j, pj, Fj, rfl, hj, hpj, hlk, hscj, hAj, hFj, hnj, hlen, catj, fatj, hKj⟩ := hrel
        by_cases hjr : j < r
        · obtain ⟨m, hm1, hm2⟩ : ∃ m, scan ss 1 (zs.drop pj) = some m ∧ scan ss (j + 1) l = some m := by
            have h1 : scan ss (j + 1) l = scan ss 1 (zs.drop pj) := by rw [scan_add, hscj]; rfl
            cases hm : scan ss 1 (zs.drop pj) with
            | some m => exact ⟨m, rfl, h1.trans hm⟩
            | none =>
              have h2 : scan ss r l = none := by
                rw [show r = (j + 1) + (r - (j + 1)) by omega, scan_add, h1, hm]; rfl
              rw [HSC.out] at h2
              cases h2
          obtain ⟨px, hx1, hx2, rfl⟩ := scan_suffix ss _ _ _ hm1
          rw [List.length_drop] at hx1
          rw [List.drop_drop] at hm1 hm2
          have hdl : (zs.drop pj).length = zs.length - pj := List.length_drop
          have hAdd := HARX.out (zs.drop pj) (zs.drop (pj + px)) Fj (by have := scan_le ss l j _ hscj; omega) hm1 hFj
          have hEr : ∀ b, E b → b < wr.heap.size := fun b hb => Nat.lt_of_lt_of_le (HE0.out b hb) hKj.size
          have hCr := HC0.out.keep hKj
          have hIH := HIH.out pj (pj + px) Fj wr (by have := scan_le ss l j _ hscj; omega) (by omega) hm1 hEr hCr catj fatj hAj hFj (by omega)
          have hstep : loopK (addF ss sh f) n l (F.push (q : Int)) (j + 1) = (zs.drop (pj + px), (addF ss sh f (zs.drop pj) Fj).2.2.arg n (addF ss sh f (zs.drop pj) Fj).1) := by
            show ((addF ss sh f (loopK _ _ _ _ j).1 (loopK _ _ _ _ j).2).2.1, _) = _
            rw [hlk]
            simp only
            rw [hAdd.rest]
          obtain ⟨a, ha⟩ : ∃ a, (addF ss sh f (zs.drop pj) Fj).1 = a := ⟨_, rfl⟩
          obtain ⟨G, hG⟩ : ∃ G, (addF ss sh f (zs.drop pj) Fj).2.2 = G := ⟨_, rfl⟩
          have hG1 := hAdd.ok
          have hG2 := hAdd.lt
          have hG3 := hAdd.up
          have hG4 := hAdd.le
          rw [hG] at hG1 hG2 hG3 hG4 hIH hstep
          rw [ha] at hG2 hIH hstep
          have HST := Lib.hid hstep
          have HCALL := Lib.hid hIH
          have HCR := Lib.hid hCr
          have HER := Lib.hid hEr
          have HG1 := Lib.hid hG1
          have HKJ := Lib.hid hKj
          have HM2 := Lib.hid hm2
          obtain ⟨uu, hu1, hu2⟩ := (HLK.out j _ hscj).2.2.2.2.2
          rw [hlk] at hu1
          have HUU := Lib.hid (show G.args[n]? = some uu by
            rw [← hG]
            exact (hAdd.old n hnj).trans hu1)
          have hul : uu.length ≤ 3 := by rw [hu2]; simp; omega
          have cnr := hCr.n
          have cfr := hCr.f
          have hlen2 : G.tops.length + (zs.length - (pj + px)) ≤ n + 1 + l.length := by
            have h1 : (zs.drop (pj + px)).length = zs.length - (pj + px) := List.length_drop
            omega
          have hnG : n < G.tops.length := by omega
          clear hlk hscj hAj hFj hKj hm1 hm2 hAdd hEr hCr hIH hstep ha hG hG1 hu1 hu2
          go_wp2_with (go_at_call 103; refine HCALL.out.mono ?_; rintro e w4 ⟨rfl, hA4, cat4, fat4, hK4⟩
                       obtain ⟨bm, vt, va, vp, ks, hM4, hks4⟩ := hA4
                       have hkl : ks.length = G.tops.length := by
                         have := congrArg List.length hks4
                         rw [List.length_map, List.length_map] at this
                         rw [this, HG1.out.al]
                       obtain ⟨v, us, hkn⟩ : ∃ v us, ks[n]? = some (v, us) := ⟨_, _, List.getElem?_eq_getElem (by omega)⟩
                       obtain ⟨ga, capa, rfl, hga, hga2, cg4, fg4⟩ := hM4.argAt hkn
                       obtain ⟨Av, cv, rfl, hcv, hcv2⟩ := hM4.rows.head (i := n + 2) (by simpa using hkn)
                       have c24 := hM4.c.2.2.1
                       have cf4 := (HCR.out.keep hK4).f
                       have hnk : n < ks.length := by omega
                       have hus : us = cI uu := by
                         have h1 := congrArg (fun x => x[n]?) hks4
                         simp only [List.getElem?_map, hkn, HUU.out, Option.map_some] at h1
                         exact Option.some.inj h1
                       subst hus
                       have hcl : (cI uu).length = uu.length := cI_len uu
                       have HM4 := Lib.hid hM4
                       have HKS4 := Lib.hid hks4
                       have HK4 := Lib.hid (HKJ.out.trans hK4)
                       have HE4 := Lib.hid (fun b (hb : E b) => Nat.lt_of_lt_of_le (HER.out b hb) hK4.size)
                       have HKN := Lib.hid hkn
                       clear hM4 hks4 hK4 hkn hkl)
          have HHA : Hid (FM (w4.drew.alloc (.cells #[.int .i64 (a : Int)] 3)) E fb bm (.slice As ns cs) vt (.slice (some ⟨ga, 0, none⟩) ks.length capa) vp G.tops (cI G.prox) ks G.vars) := Lib.hid (HM4.out.below (((Below.refl w4.heap.size w4).drew).alloc (Nat.le_refl _) _))
          have HEA : Hid (∀ b, E b → b < (w4.drew.alloc (.cells #[.int .i64 (a : Int)] 3)).heap.size) := Lib.hid (fun b hb => by rw [World.size_alloc]; exact Nat.lt_succ_of_lt (HE4.out b hb))
          have HROW := Lib.hid (HHA.out.rows.row (n + 2) _ _ (by simpa using HKN.out))
          obtain ⟨i0, hi, hz0, hz1, hz2⟩ := info_parts info_int
          obtain ⟨ul, hule⟩ : ∃ ul, (cI uu).length = ul := ⟨_, rfl⟩
          have HUL := Lib.hid hule
          have HKN2 := Lib.hid (show ks[n]? = some (.slice Av ul cv, cI uu) by rw [← hule]; exact HKN.out)
          have hul2 : ul ≤ 3 := by omega
          rw [hule] at cg4 HROW hcv
          clear hule hcl
          go_wp2_with fail
          refine wp_region_held_drew (S := (fun w' => w'.cell? ⟨Bf, 0, none⟩ = some (.pointer (some ⟨fb, 0, none⟩)) ∧ w'.cell? ⟨fb, 2, none⟩ = some (.slice (some ⟨ga, 0, none⟩) ks.length capa))) (by kernel_rfl) ?_ (fun hHeld => ?_)
          · first | go_keep | assumption | (exact ⟨by assumption, by assumption⟩)
          refine wpAnyH_take (i := 0) (v := ?_) rfl (by kernel_rfl) (by kernel_rfl) (by kernel_rfl) (fun _ _ _ h => h) (Or.inl ⟨by rfl, ?_⟩) (by assumption) ?_
          rotate_left
          · intro w hSw; (try dsimp only at hSw); go_simp <;> with_reducible rfl
          try simp only [List.getElem_toArray, List.getElem_cons_zero, Act.put, List.setIfInBounds_toArray, List.set_cons_zero, List.set_cons_succ]
          refine wpAnyH_take (i := 1) (v := ?_) rfl (by kernel_rfl) (by kernel_rfl) (by kernel_rfl) (fun _ _ _ h => h) (Or.inl ⟨by rfl, ?_⟩) (by assumption) ?_
          rotate_left
          · intro w hSw; (try dsimp only at hSw); go_simp <;> with_reducible rfl
          try simp only [List.getElem_toArray, List.getElem_cons_succ, List.getElem_cons_zero, Act.put, List.setIfInBounds_toArray, List.set_cons_zero, List.set_cons_succ]
          refine wpAnyH_take (i := 2) (v := ?_) rfl (by kernel_rfl) (by kernel_rfl) (by kernel_rfl) (fun _ _ _ h => h) (Or.inl ⟨by rfl, ?_⟩) (by assumption) ?_
          rotate_left
          · intro w hSw; (try dsimp only at hSw); go_simp <;> with_reducible rfl
          try simp only [List.getElem_toArray, List.getElem_cons_succ, List.getElem_cons_zero, Act.put, List.setIfInBounds_toArray, List.set_cons_zero, List.set_cons_succ]
          refine wpAnyH_take (i := 3) (v := ?_) rfl (by kernel_rfl) (by kernel_rfl) (by kernel_rfl) (fun _ _ _ h => h) (Or.inl ⟨by rfl, ?_⟩) (by assumption) ?_
          rotate_left
          · intro w hSw; (try dsimp only at hSw); go_simp <;> with_reducible rfl
          try simp only [List.getElem_toArray, List.getElem_cons_succ, List.getElem_cons_zero, Act.put, List.setIfInBounds_toArray, List.set_cons_zero, List.set_cons_succ]
          refine wpAnyH_take (i := 4) (v := ?_) rfl (by kernel_rfl) (by kernel_rfl) (by kernel_rfl) (fun _ _ _ h => h) (Or.inl ⟨by rfl, ?_⟩) (by assumption) ?_
          rotate_left
          · intro w hSw; (try dsimp only at hSw); go_simp <;> with_reducible rfl
          try simp only [List.getElem_toArray, List.getElem_cons_succ, List.getElem_cons_zero, Act.put, List.setIfInBounds_toArray, List.set_cons_zero, List.set_cons_succ]
          refine wpAnyH_take (i := 5) (v := ?_) rfl (by kernel_rfl) (by kernel_rfl) (by kernel_rfl) (fun _ _ _ h => h) (Or.inl ⟨by rfl, ?_⟩) (by assumption) ?_
          rotate_left
          · intro w hSw; (try dsimp only at hSw); go_simp <;> with_reducible rfl
          try simp only [List.getElem_toArray, List.getElem_cons_succ, List.getElem_cons_zero, Act.put, List.setIfInBounds_toArray, List.set_cons_zero, List.set_cons_succ]
          refine wpAnyH_take (i := 6) (v := ?_) rfl (by kernel_rfl) (by kernel_rfl) (by kernel_rfl) (fun _ _ _ h => h) (Or.inl ⟨by rfl, ?_⟩) (by assumption) ?_
          rotate_left
          · intro w hSw; (try dsimp only at hSw); go_simp <;> with_reducible rfl
          try simp only [List.getElem_toArray, List.getElem_cons_succ, List.getElem_cons_zero, Act.put, List.setIfInBounds_toArray, List.set_cons_zero, List.set_cons_succ]
          refine wpAnyH_take (i := 7) (v := ?_) rfl (by kernel_rfl) (by kernel_rfl) (by kernel_rfl) (fun _ _ _ h => h) (Or.inl ⟨by rfl, ?_⟩) (by assumption) ?_
          rotate_left
          · intro w hSw; (try dsimp only at hSw); go_simp <;> with_reducible rfl
          try simp only [List.getElem_toArray, List.getElem_cons_succ, List.getElem_cons_zero, Act.put, List.setIfInBounds_toArray, List.set_cons_zero, List.set_cons_succ]
          refine wpAnyH_take (i := 8) (v := ?_) rfl (by kernel_rfl) (by kernel_rfl) (by kernel_rfl) (fun _ _ _ h => h) (Or.inl ⟨by rfl, ?_⟩) (by assumption) ?_
          rotate_left
          · intro w hSw; (try dsimp only at hSw); go_simp <;> with_reducible rfl
          try simp only [List.getElem_toArray, List.getElem_cons_succ, List.getElem_cons_zero, Act.put, List.setIfInBounds_toArray, List.set_cons_zero, List.set_cons_succ]
          refine wpAnyH_take (i := 9) (v := ?_) rfl (by kernel_rfl) (by kernel_rfl) (by kernel_rfl) (fun _ _ _ h => h) (Or.inl ⟨by rfl, ?_⟩) (by assumption) ?_
          rotate_left
          · intro w hSw; (try dsimp only at hSw); go_simp <;> with_reducible rfl
          try simp only [List.getElem_toArray, List.getElem_cons_succ, List.getElem_cons_zero, Act.put, List.setIfInBounds_toArray, List.set_cons_zero, List.set_cons_succ]
          refine wpAnyH_take (i := 10) (v := ?_) rfl (by kernel_rfl) (by kernel_rfl) (by kernel_rfl) (fun _ _ _ h => h) (Or.inl ⟨by rfl, ?_⟩) (by assumption) ?_
          rotate_left
          · intro w hSw; (try dsimp only at hSw); go_simp <;> with_reducible rfl
          try simp only [List.getElem_toArray, List.getElem_cons_succ, List.getElem_cons_zero, Act.put, List.setIfInBounds_toArray, List.set_cons_zero, List.set_cons_succ]
          refine wpAnyH_take (i := 12) (v := ?_) rfl (by kernel_rfl) (by kernel_rfl) (by kernel_rfl) (fun _ _ _ h => h) (Or.inl ⟨by rfl, ?_⟩) (by assumption) ?_
          rotate_left
          · intro w hSw; (try dsimp only at hSw); go_simp <;> with_reducible rfl
          try simp only [List.getElem_toArray, List.getElem_cons_succ, List.getElem_cons_zero, Act.put, List.setIfInBounds_toArray, List.set_cons_zero, List.set_cons_succ]
          refine wpAnyH_ready (rs := [11, 13]) (by kernel_rfl) (by simp) (AllReadyH.cons rfl (fun K hK => ?_) (AllReadyH.cons rfl (fun K hK => ?_) AllReadyH.nil))
          focus
            go_simp
            skip
            try go_wp2_with fail
            refine hK.out _ _ ?_ (fun hHeld => ?_)
            · first | go_keep | assumption | (exact ⟨by assumption, by assumption⟩)
            clear hK K
            try simp only [List.getElem_toArray, List.getElem_cons_succ, List.getElem_cons_zero, Act.put, List.setIfInBounds_toArray, List.set_cons_zero, List.set_cons_succ]
            refine wpAnyH_ready (rs := [13]) (by kernel_rfl) (by simp) (AllReadyH.cons rfl (fun K hK => ?_) AllReadyH.nil)
            go_simp
            skip
            try go_wp2_with fail
            refine hK.out _ _ ?_ (fun hHeld => ?_)
            · first | go_keep | assumption | (exact ⟨by assumption, by assumption⟩)
            clear hK K
            try simp only [List.getElem_toArray, List.getElem_cons_succ, List.getElem_cons_zero, Act.put, List.setIfInBounds_toArray, List.set_cons_zero, List.set_cons_succ]
            refine wpAnyH_ready (rs := [14]) (by kernel_rfl) (by simp) (AllReadyH.cons rfl (fun K hK => ?_) AllReadyH.nil)
            refine step_append_lies _ (by rfl) _ _ _ (by rfl) _ 3 i0 _ 1 8 Try.underlying24 hi hz0 hz1 hz2 rfl (by omega) (.slice Av ul cv) ul ((cI uu).map (Value.int .i64)) (by rfl) HROW.out ⟨w4.heap.size, 0, none⟩ 1 1 [.int .i64 (a : Int)] (by rfl) (by rfl) (World.news_of_block (cs := #[.int .i64 (a : Int)]) (t := 3) (fr := (0, 0)) (heap_alloc_new w4.drew _)) (by simp [Value.oneCell']) (by omega) (by unfold maxLen; omega) (by omega) (Nat.zero_le _) _ rfl ?_
            intro g5 cap5 w5 hrow5 hg5 hloc5 _
            have hKE : KeepE E w4 w5 := (KeepE.of_below (((Below.refl w4.heap.size w4).drew).alloc (Nat.le_refl _) _) HE4.out).trans (KeepE.of_grown hg5 HEA.out (fun g e => HHA.out.rows.out (n + 2) _ _ (by simpa using HKN2.out) g e))
            have hmid := HHA.out.mid (i := n + 2) (v := .slice Av ul cv) (zs := cI uu) (by simpa using HKN2.out) hg5
            have c25 := hmid.1.cell 2
            have cf5 := (hKE.cell (p := ⟨Bf, 0, none⟩) HC0.out.eE.2.2.1).trans cf4
            have cg5 : w5.cell? ⟨ga, n, none⟩ = some (.slice Av ul cv) := by
              have := hmid.2.1.cellAt n (by omega)
              rw [this, List.getElem?_map, HKN2.out]
              rfl
            have fg5 := hmid.2.1.frozenAt n
            have HFM5 := Lib.hid (HHA.out.arg1 (i := n) (v := .slice Av ul cv) (zs := cI uu) (x := (a : Int)) (v' := .slice (some ⟨g5, 0, none⟩) (ul + 1) cap5) HEA.out HKN2.out rfl (by rw [HUL.out]; exact hrow5) hg5 (by rcases hloc5 with h | h; exact .inl h.symm; exact .inr (by rw [h]; rfl)))
            have HK5 := Lib.hid hKE
            have hgaf : (⟨ga, n, none⟩ : Addr).block ≠ Bf := fun e => hga (by rw [show ga = Bf from e]; exact HC0.out.eE.2.2.1)
            have hgafb : (⟨ga, n, none⟩ : Addr).block ≠ fb := fun e => by
              obtain ⟨cs1, q1⟩ := row_type hmid.2.1 rfl
              have q2 : w5.heap[fb]? = some (.cells _ 133 (0, 0)) := hmid.1
              rw [show ga = fb from e, q2] at q1
              cases q1
            have cf6 := (World.cell?_setCell_other w5 ⟨ga, n, none⟩ ⟨Bf, 0, none⟩ (.slice (some ⟨g5, 0, none⟩) (ul + 1) cap5) (fun e => hgaf (by cases e; rfl))).trans cf5
            have c26 := (World.cell?_setCell_other w5 ⟨ga, n, none⟩ ⟨fb, 2, none⟩ (.slice (some ⟨g5, 0, none⟩) (ul + 1) cap5) (fun e => hgafb (by cases e; rfl))).trans c25
            clear hrow5 hg5 hloc5 hmid hKE
            try go_wp2_with fail
            refine hK.out _ _ ?_ (fun hHeld => ?_)
            · first | go_keep | assumption | (exact ⟨by assumption, by assumption⟩)
            clear hK K
            try simp only [List.getElem_toArray, List.getElem_cons_succ, List.getElem_cons_zero, Act.put, List.setIfInBounds_toArray, List.set_cons_zero, List.set_cons_succ]
            refine wpAnyH_take (i := 15) (v := ?_) rfl (by kernel_rfl) (by kernel_rfl) (by kernel_rfl) (fun _ _ _ h => h) (Or.inl ⟨by rfl, ?_⟩) (by assumption) ?_
            rotate_left
            · intro w hSw; (try dsimp only at hSw); go_simp <;> with_reducible rfl
            try simp only [List.getElem_toArray, List.getElem_cons_succ, List.getElem_cons_zero, Act.put, List.setIfInBounds_toArray, List.set_cons_zero, List.set_cons_succ]
            refine wpAnyH_ready (rs := [16]) (by kernel_rfl) (by simp) (AllReadyH.cons rfl (fun K hK => ?_) AllReadyH.nil)
            go_simp
            skip
            try go_wp2_with fail
            refine hK.out _ _ ?_ (fun hHeld => ?_)
            · first | go_keep | assumption | (exact ⟨by assumption, by assumption⟩)
            clear hK K
            try simp only [List.getElem_toArray, List.getElem_cons_succ, List.getElem_cons_zero, Act.put, List.setIfInBounds_toArray, List.set_cons_zero, List.set_cons_succ]
            refine wpAnyH_done (by kernel_rfl) ?_ _
          rotate_left
          focus
            go_simp
            skip
            try go_wp2_with fail
            refine hK.out _ _ ?_ (fun hHeld => ?_)
            · first | go_keep | assumption | (exact ⟨by assumption, by assumption⟩)
            clear hK K
            try simp only [List.getElem_toArray, List.getElem_cons_succ, List.getElem_cons_zero, Act.put, List.setIfInBounds_toArray, List.set_cons_zero, List.set_cons_succ]
            refine wpAnyH_ready (rs := [11]) (by kernel_rfl) (by simp) (AllReadyH.cons rfl (fun K hK => ?_) AllReadyH.nil)
            go_simp
            skip
            try go_wp2_with fail
            refine hK.out _ _ ?_ (fun hHeld => ?_)
            · first | go_keep | assumption | (exact ⟨by assumption, by assumption⟩)
            clear hK K
            try simp only [List.getElem_toArray, List.getElem_cons_succ, List.getElem_cons_zero, Act.put, List.setIfInBounds_toArray, List.set_cons_zero, List.set_cons_succ]
            refine wpAnyH_ready (rs := [14]) (by kernel_rfl) (by simp) (AllReadyH.cons rfl (fun K hK => ?_) AllReadyH.nil)
            refine step_append_lies _ (by rfl) _ _ _ (by rfl) _ 3 i0 _ 1 8 Try.underlying24 hi hz0 hz1 hz2 rfl (by omega) (.slice Av ul cv) ul ((cI uu).map (Value.int .i64)) (by rfl) HROW.out ⟨w4.heap.size, 0, none⟩ 1 1 [.int .i64 (a : Int)] (by rfl) (by rfl) (World.news_of_block (cs := #[.int .i64 (a : Int)]) (t := 3) (fr := (0, 0)) (heap_alloc_new w4.drew _)) (by simp [Value.oneCell']) (by omega) (by unfold maxLen; omega) (by omega) (Nat.zero_le _) _ rfl ?_
            intro g5 cap5 w5 hrow5 hg5 hloc5 _
            have hKE : KeepE E w4 w5 := (KeepE.of_below (((Below.refl w4.heap.size w4).drew).alloc (Nat.le_refl _) _) HE4.out).trans (KeepE.of_grown hg5 HEA.out (fun g e => HHA.out.rows.out (n + 2) _ _ (by simpa using HKN2.out) g e))
            have hmid := HHA.out.mid (i := n + 2) (v := .slice Av ul cv) (zs := cI uu) (by simpa using HKN2.out) hg5
            have c25 := hmid.1.cell 2
            have cf5 := (hKE.cell (p := ⟨Bf, 0, none⟩) HC0.out.eE.2.2.1).trans cf4
            have cg5 : w5.cell? ⟨ga, n, none⟩ = some (.slice Av ul cv) := by
              have := hmid.2.1.cellAt n (by omega)
              rw [this, List.getElem?_map, HKN2.out]
              rfl
            have fg5 := hmid.2.1.frozenAt n
            have HFM5 := Lib.hid (HHA.out.arg1 (i := n) (v := .slice Av ul cv) (zs := cI uu) (x := (a : Int)) (v' := .slice (some ⟨g5, 0, none⟩) (ul + 1) cap5) HEA.out HKN2.out rfl (by rw [HUL.out]; exact hrow5) hg5 (by rcases hloc5 with h | h; exact .inl h.symm; exact .inr (by rw [h]; rfl)))
            have HK5 := Lib.hid hKE
            have hgaf : (⟨ga, n, none⟩ : Addr).block ≠ Bf := fun e => hga (by rw [show ga = Bf from e]; exact HC0.out.eE.2.2.1)
            have hgafb : (⟨ga, n, none⟩ : Addr).block ≠ fb := fun e => by
              obtain ⟨cs1, q1⟩ := row_type hmid.2.1 rfl
              have q2 : w5.heap[fb]? = some (.cells _ 133 (0, 0)) := hmid.1
              rw [show ga = fb from e, q2] at q1
              cases q1
            have cf6 := (World.cell?_setCell_other w5 ⟨ga, n, none⟩ ⟨Bf, 0, none⟩ (.slice (some ⟨g5, 0, none⟩) (ul + 1) cap5) (fun e => hgaf (by cases e; rfl))).trans cf5
            have c26 := (World.cell?_setCell_other w5 ⟨ga, n, none⟩ ⟨fb, 2, none⟩ (.slice (some ⟨g5, 0, none⟩) (ul + 1) cap5) (fun e => hgafb (by cases e; rfl))).trans c25
            clear hrow5 hg5 hloc5 hmid hKE
            try go_wp2_with fail
            refine hK.out _ _ ?_ (fun hHeld => ?_)
            · first | go_keep | assumption | (exact ⟨by assumption, by assumption⟩)
            clear hK K
            try simp only [List.getElem_toArray, List.getElem_cons_succ, List.getElem_cons_zero, Act.put, List.setIfInBounds_toArray, List.set_cons_zero, List.set_cons_succ]
            refine wpAnyH_take (i := 15) (v := ?_) rfl (by kernel_rfl) (by kernel_rfl) (by kernel_rfl) (fun _ _ _ h => h) (Or.inl ⟨by rfl, ?_⟩) (by assumption) ?_
            rotate_left
            · intro w hSw; (try dsimp only at hSw); go_simp <;> with_reducible rfl
            try simp only [List.getElem_toArray, List.getElem_cons_succ, List.getElem_cons_zero, Act.put, List.setIfInBounds_toArray, List.set_cons_zero, List.set_cons_succ]
            refine wpAnyH_ready (rs := [16]) (by kernel_rfl) (by simp) (AllReadyH.cons rfl (fun K hK => ?_) AllReadyH.nil)
            go_simp
            skip
            try go_wp2_with fail
            refine hK.out _ _ ?_ (fun hHeld => ?_)
            · first | go_keep | assumption | (exact ⟨by assumption, by assumption⟩)
            clear hK K
            try simp only [List.getElem_toArray, List.getElem_cons_succ, List.getElem_cons_zero, Act.put, List.setIfInBounds_toArray, List.set_cons_zero, List.set_cons_succ]
            refine wpAnyH_done (by kernel_rfl) ?_ _
          all_goals
            go_wp2
            go_roundw
            case rel =>
              have hKS : KeepE E w5 (w5.setCell ⟨ga, n, none⟩ (.slice (some ⟨g5, 0, none⟩) (ul + 1) cap5)) := KeepE.set (p := ⟨ga, n, none⟩) hga _
              refine ⟨j + 1, pj + px, G.arg n a, by go_num, by omega, by omega, HST.out, HM2.out, ⟨bm, vt, .slice (some ⟨ga, 0, none⟩) ks.length capa, vp, _, HFM5.out, ?_⟩, HG1.out.arg hG2, hnG, hlen2, (hKS.cell (p := ⟨Bat, 0, none⟩) HBE.out).trans ((HK5.out.cell (p := ⟨Bat, 0, none⟩) HBE.out).trans cat4), (hKS.frozen (p := ⟨Bat, 0, none⟩) HBE.out).trans ((HK5.out.frozen (p := ⟨Bat, 0, none⟩) HBE.out).trans fat4), (HK4.out.trans (But.keep HK5.out)).trans (But.keep hKS)⟩
              rw [List.map_set, HKS4.out]
              simp only [Fd.arg, HUU.out, Option.getD_some, List.map_set]
              simp [cI]
            case measure => simp [intOf]; omega
        · have hjr' : j = r := by omega
          have hpp : zs.drop pj = zs.drop p' := by
            have := HSC.out
            rw [← hjr', hscj] at this
            exact Option.some.inj this
          have hpe : pj = p' := by
            have := congrArg List.length hpp
            rw [List.length_drop, List.length_drop] at this
            omega
          have HR2 := Lib.hid (show loopK (addF ss sh f) n l (F.push (q : Int)) r = (zs.drop pj, Fj) by rw [← hjr']; exact hlk)
          have HAJ := Lib.hid hAj
          have HKJ := Lib.hid hKj
          have HPE := Lib.hid hpe
          have hjn : ¬ (j : Int) < (r : Int) := by omega
          have hjn2 : ¬ j < r := hjr
          clear hlk hscj hAj hFj hKj hpp hpe hjr' hlen hnj
          go_wp2
          go_ret
          refine ⟨by rw [HR.out]; rfl, ?_, ?_, fatj, HKJ.out⟩
          · rw [HR.out, HR2.out]; exact HAJ.out
          · rw [← HPE.out]; exact catj

end Go.Proofs.Ytojofbmpknpggaa

/- Contract: add. -/
namespace Go.Proofs.Ytojofbmpknpggaa
open Go.RowKit

theorem FAt.widen {w : World} {E E' : Nat → Prop} {fb : Nat} {S : Value} {F : Fd} (h : FAt w E fb S F) (he : ∀ b, E' b → E b ∨ w.heap.size ≤ b) : FAt w E' fb S F := by
  obtain ⟨bm, vt, va, vp, ks, hM, hks⟩ := h
  have key : ∀ g, ¬ E g → g < w.heap.size → ¬ E' g := fun g h1 h2 h3 => by
    rcases he g h3 with h | h
    · exact h1 h
    · omega
  exact ⟨bm, vt, va, vp, ks, ⟨hM.blk, key _ hM.hb hM.lt, key _ hM.hm hM.vars.lt, fun g e => key g (hM.ha g e) (hM.args.lt g e).2, ⟨hM.rows.row, hM.rows.apart, fun j v us e g hg => key g (hM.rows.out j v us e g hg) ((hM.rows.row j v us e).lt g hg).2⟩, hM.args, hM.vars⟩, hks⟩
def addT (ss : Sg) (sh : Int) (zs : List Int) (F : Fd) : Nat × List Int × Fd := addF ss sh (zs.length + 1) zs F

set_option maxRecDepth 100000 in
set_option maxHeartbeats 1000000 in
theorem add_any (E : Nat → Prop) (B fb nt ct ns cs : Nat) (As At : Option Addr) (sh : Int) (ss : Sg) (zs : List Int) (F : Fd) (w : World) (hv : valOk ss zs = true) (hsh : 0 ≤ sh ∧ sh ≤ 1000) (hlow : ∀ b, b < B → E b) (hE : ∀ b, E b → b < w.heap.size) (hs : SigAt w B As ns ss) (ht : IntsAt w B At nt zs) (hB : B ≤ w.heap.size)
    (hA : FAt w E fb (.slice As ns cs) F) (hF : F.Ok) (hN : F.tops.length ≤ 10000) :
    Calls Try.prog 101 #[.pointer (some ⟨fb, 0, none⟩), .slice At nt ct, .int .i64 sh] w fun e w' => e = .returned (.int .i64 ((addT ss sh zs F).1 : Int)) ∧ FAt w' E fb (.slice As ns cs) (addT ss sh zs F).2.2 ∧ KeepE E w w' := by
  obtain ⟨h1, h60, hnum, hscan⟩ := valOk_term hv
  have har := sigOk_ar (valOk_sig hv)
  have hsl := sigOk_len (valOk_sig hv)
  have hlen := ht.len
  obtain ⟨bt, offt, rfl, hbt, hzc⟩ := ht.mem (by omega)
  obtain ⟨N, hN0⟩ : ∃ N, w.heap.size = N := ⟨_, rfl⟩
  let cl : Value := .func (.func 103) #[] #[.pointer (some ⟨N + 1, 0, none⟩), .pointer (some ⟨N + 3, 0, none⟩), .pointer (some ⟨N, 0, none⟩), .pointer (some ⟨N + 2, 0, none⟩), .pointer (some ⟨N + 4, 0, none⟩)]
  let W1 := w.alloc (.cells #[.pointer (some ⟨fb, 0, none⟩)] 126)
  let W2 := W1.alloc (.cells #[.slice (some ⟨bt, offt, none⟩) nt ct] 45)
  let W3 := W2.alloc (.cells #[.int .i64 sh] 3)
  let W4 := W3.alloc (.cells #[.int .i64 0] 3)
  let W5 := W4.alloc (.cells #[cl] 135)
  have z1 : W1.heap.size = N + 1 := by simp [W1, hN0]
  have z2 : W2.heap.size = N + 2 := by simp [W2, z1]
  have z3 : W3.heap.size = N + 3 := by simp [W3, z2]
  have z4 : W4.heap.size = N + 4 := by simp [W4, z3]
  have z5 : W5.heap.size = N + 5 := by simp [W5, z4]
  have b1 : Blk W1 N 126 #[.pointer (some ⟨fb, 0, none⟩)] := by have := Blk.new w 126 #[.pointer (some ⟨fb, 0, none⟩)]; rw [hN0] at this; exact this
  have b2 : Blk W2 (N + 1) 45 #[.slice (some ⟨bt, offt, none⟩) nt ct] := by have := Blk.new W1 45 #[.slice (some ⟨bt, offt, none⟩) nt ct]; rw [z1] at this; exact this
  have b3 : Blk W3 (N + 2) 3 #[.int .i64 sh] := by have := Blk.new W2 3 #[.int .i64 sh]; rw [z2] at this; exact this
  have b4 : Blk W4 (N + 3) 3 #[.int .i64 0] := by have := Blk.new W3 3 #[.int .i64 0]; rw [z3] at this; exact this
  have b5 : Blk W5 (N + 4) 135 #[cl] := by have := Blk.new W4 135 #[cl]; rw [z4] at this; exact this
  have k1 : Blk W5 N _ _ := (((b1.alloc (.cells #[.slice (some ⟨bt, offt, none⟩) nt ct] 45)).alloc (.cells #[.int .i64 sh] 3)).alloc (.cells #[.int .i64 0] 3)).alloc (.cells #[cl] 135)
  have k2 : Blk W5 (N + 1) _ _ := ((b2.alloc (.cells #[.int .i64 sh] 3)).alloc (.cells #[.int .i64 0] 3)).alloc (.cells #[cl] 135)
  have k3 : Blk W5 (N + 2) _ _ := (b3.alloc (.cells #[.int .i64 0] 3)).alloc (.cells #[cl] 135)
  have k4 : Blk W5 (N + 3) _ _ := b4.alloc (.cells #[cl] 135)
  have hq1 : Below w.heap.size w W1 := (Below.refl w.heap.size w).alloc (Nat.le_refl _) _
  have hq2 : Below w.heap.size w W2 := hq1.alloc (by rw [z1]; omega) _
  have hq3 : Below w.heap.size w W3 := hq2.alloc (by rw [z2]; omega) _
  have hq4 : Below w.heap.size w W4 := hq3.alloc (by rw [z3]; omega) _
  have hb5 : Below w.heap.size w W5 := hq4.alloc (by rw [z4]; omega) _
  let E' : Nat → Prop := fun b => E b ∨ (N ≤ b ∧ b < N + 5)
  have hE' : ∀ b, E' b → b < W5.heap.size := fun b hb => by
    rcases hb with h | h
    · have := hE b h; omega
    · omega
  have hA5 : FAt W5 E' fb (.slice As ns cs) F := (hA.widen (E' := E') (fun b hb => by rcases hb with h | h; exact .inl h; exact .inr (by omega))).below hb5
  have hC5 : ACtx W5 E' B fb (N + 1) (N + 3) N (N + 2) (N + 4) bt offt nt ct As ns cs sh ss zs :=
    ⟨fun b hb => .inl (hlow b hb), by omega, ⟨.inr (by omega), .inr (by omega), .inr (by omega), .inr (by omega), .inr (by omega)⟩, ⟨by omega, by omega, by omega, by omega⟩, k2.cell 0, k1.cell 0, k3.cell 0, b5.cell 0, hbt,
      fun j hj => (hb5.cell (p := ⟨bt, offt + j, none⟩) (by show bt < _; omega)).trans (hzc j hj), hs.below (hb5.mono hB), hlen⟩
  have hcall := addC_any E' B fb (N + 1) (N + 3) N (N + 2) (N + 4) bt offt nt ct ns cs As sh ss zs har (fun z hz => (hnum z hz).2) (fun z hz => (hnum z hz).1) (by omega) (by have := hs.len; omega) hsh (zs.length + 1) 0 zs.length F W5 (by simp) (Nat.le_refl _) (by simpa using hscan) hE' hC5 (k4.cell 0) (k4.frozen 0) hA5 hF (by simp; omega)
  rw [List.drop_zero] at hcall
  obtain ⟨res, hres⟩ : ∃ res, ((addT ss sh zs F).1 : Int) = res := ⟨_, rfl⟩
  have HC : Hid (Calls Try.prog 103 #[.pointer (some ⟨N + 1, 0, none⟩), .pointer (some ⟨N + 1 + 1 + 1, 0, none⟩), .pointer (some ⟨N, 0, none⟩), .pointer (some ⟨N + 1 + 1, 0, none⟩), .pointer (some ⟨N + 1 + 1 + 1 + 1, 0, none⟩)]
      (((((w.alloc (.cells #[.pointer (some ⟨fb, 0, none⟩)] 126)).alloc (.cells #[.slice (some ⟨bt, offt, none⟩) nt ct] 45)).alloc (.cells #[.int .i64 sh] 3)).alloc (.cells #[.int .i64 0] 3)).alloc (.cells #[.func (.func 103) #[] #[.pointer (some ⟨N + 1, 0, none⟩), .pointer (some ⟨N + 1 + 1 + 1, 0, none⟩), .pointer (some ⟨N, 0, none⟩), .pointer (some ⟨N + 1 + 1, 0, none⟩), .pointer (some ⟨N + 1 + 1 + 1 + 1, 0, none⟩)]] 135))
      (fun e w' => e = .returned (.int .i64 res) ∧ Hid (FAt w' E fb (.slice As ns cs) (addT ss sh zs F).2.2 ∧ KeepE E w w'))) :=
    Lib.hid (hcall.mono (R' := fun e w' => e = .returned (.int .i64 res) ∧ Hid (FAt w' E fb (.slice As ns cs) (addT ss sh zs F).2.2 ∧ KeepE E w w')) (fun e w' ⟨q1, q2, _, _, q3⟩ => ⟨by rw [q1, ← hres]; rfl, q2.widen (fun b hb => .inl (.inl hb)), by
    refine ⟨q3.os.trans hb5.os, q3.tape.trans hb5.tape, q3.output.trans hb5.output, Nat.le_trans hb5.size q3.size, fun b hb => ?_⟩
    have := hE b hb
    exact (q3.block b ⟨.inl hb, by omega⟩).trans (hb5.block b this)⟩))
  have HN := Lib.hid hN0
  rw [hres]
  have hN0' := hN0
  clear hcall hC5 hA5 hE' hb5 hq1 hq2 hq3 hq4 k1 k2 k3 k4 b1 b2 b3 b4 b5 z1 z2 z3 z4 z5 hzc hA hs ht hE hlow hnum hscan har hv hres HN hN0'
  clear E' W5 W4 W3 W2 W1 hlen hF hsl
  go_enter Try.func101, Try.ntmps101
  go_wp2_with (go_at_call 103; refine HC.out.mono ?_; rintro e w9 ⟨rfl, hF9⟩)
  go_ret
  exact ⟨rfl, hF9.out.1, hF9.out.2⟩

end Go.Proofs.Ytojofbmpknpggaa

/- Contract: root; what solve does, on lists. -/
namespace Go.Proofs.Ytojofbmpknpggaa
open Go.RowKit

/-- The node that stands for a node: the proxies are followed at most m times. -/
def rootS (prox : List Nat) : Nat → Nat → Option Nat
  | 0, _ => .none
  | m + 1, k => match prox[k]? with
    | .none => .none
    | some p => if p = k then some k else rootS prox m p
theorem rootS_lt {prox : List Nat} : ∀ {m k r : Nat}, rootS prox m k = some r → k < prox.length ∧ r < prox.length ∧ prox[r]? = some r
  | 0, k, r, h => by cases h
  | m + 1, k, r, h => by
    unfold rootS at h
    cases e : prox[k]? with
    | none => rw [e] at h; cases h
    | some p =>
      rw [e] at h
      simp only at h
      have hk := (List.getElem?_eq_some_iff.1 e).1
      by_cases hp : p = k
      · rw [if_pos hp] at h
        cases h
        exact ⟨hk, hk, by rw [e, hp]⟩
      · rw [if_neg hp] at h
        obtain ⟨_, h2, h3⟩ := rootS_lt h
        exact ⟨hk, h2, h3⟩
theorem cI_get {l : List Nat} {k p : Nat} (h : l[k]? = some p) : (cI l)[k]? = some (p : Int) := by simp [cI, h]
/-- A cell of the proxies. -/
theorem FAt.prox {w : World} {E : Nat → Prop} {fb : Nat} {S : Value} {F : Fd} (h : FAt w E fb S F) {k p : Nat} (hk : F.prox[k]? = some p) :
    ∃ g n c, w.cell? ⟨fb, 3, none⟩ = some (.slice (some ⟨g, 0, none⟩) n c) ∧ n = F.prox.length ∧ w.cell? ⟨g, k, none⟩ = some (.int .i64 (p : Int)) := by
  obtain ⟨bm, vt, va, vp, ks, hM, hks⟩ := h
  obtain ⟨g, c, rfl, _, _, _, _, h1, _⟩ := hM.rows.cell (i := 1) rfl (cI_get hk)
  exact ⟨g, _, c, hM.c.2.2.2.1, cI_len _, h1⟩

set_option maxRecDepth 100000 in
set_option maxHeartbeats 1000000 in
theorem root_any (E : Nat → Prop) (fb : Nat) (S : Value) (F : Fd) (m k r : Nat) (w : World) (h : FAt w E fb S F) (hr : rootS F.prox m k = some r) (hn : F.prox.length ≤ 1000000) :
    Calls Try.prog 107 #[.pointer (some ⟨fb, 0, none⟩), .int .i64 (k : Int)] w fun e w' => e = .returned (.int .i64 (r : Int)) ∧ w = w' := by
  have HH := Lib.hid h
  have HR := Lib.hid hr
  clear h hr
  go_enter Try.func107, Try.ntmps107
  go_wp2
  go_loopg [1] m (fun g s1 wr => ∃ k' : Nat, s1 = .int .i64 (k' : Int) ∧ rootS F.prox g k' = some r ∧ wr = w)
  case atStart => exact ⟨k, rfl, HR.out, rfl⟩
  case round =>
    obtain ⟨k', rfl, hs, rfl⟩ := hrel
    cases gk with
    | zero => cases hs
    | succ gk =>
      unfold rootS at hs
      cases e : F.prox[k']? with
      | none => rw [e] at hs; cases hs
      | some p =>
        rw [e] at hs
        simp only at hs
        obtain ⟨g, n, c, c3, hnl, cg⟩ := HH.out.prox e
        have hkl := (List.getElem?_eq_some_iff.1 e).1
        have hk0 : (0 : Int) ≤ (k' : Int) := by omega
        have hk1 : (k' : Int) < (n : Int) := by omega
        have hn1 : n ≤ 1000000 := by omega
        clear hnl hkl
        by_cases hp : p = k'
        · rw [if_pos hp] at hs
          have hre : k' = r := Option.some.inj hs
          have HRE := Lib.hid hre
          have hb : ((p : Int) != (k' : Int)) = false := by simp [hp]
          have hb2 : (p != k') = false := by simp [hp]
          clear hs hp hre e
          go_wp2
          go_ret
          exact ⟨by rw [HRE.out]; rfl, rfl⟩
        · rw [if_neg hp] at hs
          have HS := Lib.hid hs
          have hb : ((p : Int) != (k' : Int)) = true := by simp; omega
          have hb2 : (p != k') = true := by simp [hp]
          clear hs hp e
          go_wp2
          go_roundg gk
          case measure => omega
          case rel => exact ⟨p, rfl, HS.out, rfl⟩

/-- The equations that are left (the last one on top), what has been found; whether there is a term: 'none' where m rounds are too few. -/
def solveF : Nat → List (Nat × Nat) → Fd → Option (Bool × Fd)
  | 0, _, _ => .none
  | m + 1, st, F => match st.getLast? with
    | .none => some (true, F)
    | some (l, r) => match rootS F.prox m l, rootS F.prox m r with
      | some x, some y =>
        if x = y then solveF m st.dropLast F
        else match F.tops[x]?, F.tops[y]? with
          | some tx, some ty =>
            let x' := if ty < 0 then y else x
            let y' := if ty < 0 then x else y
            let F1 : Fd := { F with prox := F.prox.set x' y' }
            if (if ty < 0 then ty else tx) < 0 then solveF m st.dropLast F1
            else if tx = ty then match F.args[x]?, F.args[y]? with
              | some ax, some ay => if ax.length ≤ ay.length then solveF m (st.dropLast ++ ax.zip ay) F1 else .none
              | _, _ => .none
            else some (false, F1)
          | _, _ => .none
      | _, _ => .none

end Go.Proofs.Ytojofbmpknpggaa

namespace Go.Proofs.Ytojofbmpknpggaa
open Go.RowKit

def loopA (g : Nat → List Bool → List Bool → Option (Bool × List Bool × List Bool)) : List Nat → List Bool → List Bool → Option (Bool × List Bool × List Bool)
  | [], i, d => some (false, i, d)
  | a :: us, i, d => match g a i d with
    | .none => .none
    | some (true, i', d') => some (true, i', d')
    | some (false, i', d') => loopA g us i' d'
/-- Whether a node comes again in what it becomes; the nodes that are looked into, and those that are done. -/
def againF (F : Fd) : Nat → Nat → List Bool → List Bool → Option (Bool × List Bool × List Bool)
  | 0, _, _, _ => .none
  | m + 1, k, i, d => match rootS F.prox m k with
    | .none => .none
    | some r => match i[r]?, d[r]?, F.args[r]? with
      | some bi, some bd, some us =>
        if (bi || bd) = true then some (bi, i, d)
        else match loopA (againF F m) us (i.set r true) d with
          | some (true, i', d') => some (true, i', d')
          | some (false, i', d') => some (false, i'.set r false, d'.set r true)
          | .none => .none
      | _, _, _ => .none
theorem loopA_len {g : Nat → List Bool → List Bool → Option (Bool × List Bool × List Bool)} (hg : ∀ a i d b i' d', g a i d = some (b, i', d') → i'.length = i.length ∧ d'.length = d.length) : ∀ us i d b i' d', loopA g us i d = some (b, i', d') → i'.length = i.length ∧ d'.length = d.length
  | [], i, d, b, i', d', h => by cases h; exact ⟨rfl, rfl⟩
  | a :: us, i, d, b, i', d', h => by
    unfold loopA at h
    cases e : g a i d with
    | none => rw [e] at h; cases h
    | some x =>
      obtain ⟨c, i1, d1⟩ := x
      rw [e] at h
      obtain ⟨h1, h2⟩ := hg _ _ _ _ _ _ e
      cases c
      · obtain ⟨q1, q2⟩ := loopA_len hg us i1 d1 b i' d' h
        exact ⟨by omega, by omega⟩
      · cases h
        exact ⟨h1, h2⟩
theorem againF_len {F : Fd} : ∀ m k i d b i' d', againF F m k i d = some (b, i', d') → i'.length = i.length ∧ d'.length = d.length
  | 0, k, i, d, b, i', d', h => by cases h
  | m + 1, k, i, d, b, i', d', h => by
    unfold againF at h
    split at h
    · cases h
    · split at h
      · split at h
        · cases h; exact ⟨rfl, rfl⟩
        · split at h
          · rename_i e
            cases h
            obtain ⟨q1, q2⟩ := loopA_len (fun a i d b i' d' => againF_len m a i d b i' d') _ _ _ _ _ _ e
            rw [List.length_set] at q1
            exact ⟨q1, q2⟩
          · rename_i e
            cases h
            obtain ⟨q1, q2⟩ := loopA_len (fun a i d b i' d' => againF_len m a i d b i' d') _ _ _ _ _ _ e
            rw [List.length_set] at q1
            exact ⟨by rw [List.length_set]; exact q1, by rw [List.length_set]; exact q2⟩
          · cases h
      · cases h

theorem ownsRow_moved {w w' : World} {base : Nat} {e : TypeId} {size : Nat} {v : Value} {n : Nat} {xs : List Value} (h : w.ownsRow base e size v n xs) (hk : ∀ g, v.ownBlock = some g → w'.heap[g]? = w.heap[g]?) : w'.ownsRow base e size v n xs := by
  obtain ⟨h1, h2 | ⟨g, cap, cur, rfl, h3, h4, h5⟩⟩ := h
  · exact ⟨h1, .inl h2⟩
  · exact ⟨h1, .inr ⟨g, cap, cur, rfl, h3, (hk g rfl).trans h4, h5⟩⟩
/-- Whatever is no block of bools lies us it lay. -/
def Moved (g1 g2 : Nat) (w w' : World) : Prop := w'.os = w.os ∧ w'.tape = w.tape ∧ w'.output = w.output ∧ w.heap.size ≤ w'.heap.size ∧ (∀ (b : Nat) (o : Obj), w.heap[b]? = some o → (∀ cs z, o ≠ Obj.cells cs 4 z) → w'.heap[b]? = some o) ∧ ∀ b, b ≠ g1 → b ≠ g2 → w'.heap[b]? = w.heap[b]?
theorem Moved.refl {g1 g2 : Nat} (w : World) : Moved g1 g2 w w := ⟨rfl, rfl, rfl, Nat.le_refl _, fun _ _ h _ => h, fun _ _ _ => rfl⟩
theorem Moved.trans {g1 g2 : Nat} {a b c : World} (h : Moved g1 g2 a b) (k : Moved g1 g2 b c) : Moved g1 g2 a c := ⟨k.1.trans h.1, k.2.1.trans h.2.1, k.2.2.1.trans h.2.2.1, Nat.le_trans h.2.2.2.1 k.2.2.2.1, fun x o hx ho => k.2.2.2.2.1 x o (h.2.2.2.2.1 x o hx ho) ho, fun x h1 h2 => (k.2.2.2.2.2 x h1 h2).trans (h.2.2.2.2.2 x h1 h2)⟩
theorem Moved.drewN {g1 g2 : Nat} {a b : World} (h : Moved g1 g2 a b) (j : Nat) : Moved g1 g2 a (b.drewN j) := ⟨h.1, h.2.1, h.2.2.1, h.2.2.2.1, h.2.2.2.2⟩
theorem Moved.set {g1 g2 : Nat} {w : World} {g k : Nat} {cs : Array Value} (h : Blk w g 4 cs) (hg : g = g1 ∨ g = g2) (u : Value) : Moved g1 g2 w (w.setCell ⟨g, k, none⟩ u) :=
  ⟨rfl, rfl, rfl, by simp, fun b o hb ho => (heap_setCell_other w ⟨g, k, none⟩ b u (fun e => by
    have h2 : w.heap[g]? = some (.cells cs 4 (0, 0)) := h
    rw [e] at hb
    have e2 : w.heap[g]? = some o := hb
    rw [h2] at e2
    cases e2
    exact ho _ _ rfl)).trans hb, fun b h1 h2 => heap_setCell_other w ⟨g, k, none⟩ b u (fun e => by
    have e2 : b = g := e
    omega)⟩
theorem FAt.moved {g1 g2 : Nat} {w w' : World} {E : Nat → Prop} {fb : Nat} {S : Value} {F : Fd} (h : FAt w E fb S F) (hm : Moved g1 g2 w w') : FAt w' E fb S F := by
  obtain ⟨bm, vt, va, vp, ks, hM, hks⟩ := h
  have key : ∀ (b : Nat) (o : Obj), w.heap[b]? = some o → (∀ cs z, o ≠ Obj.cells cs 4 z) → w'.heap[b]? = w.heap[b]? := fun b o hb ho => (hm.2.2.2.2.1 b o hb ho).trans hb.symm
  obtain ⟨es, c, hmap⟩ := hM.vars.isMap
  refine ⟨bm, vt, va, vp, ks, ⟨hm.2.2.2.2.1 fb _ hM.blk (fun cs z e => by cases e), hM.hb, hM.hm, hM.ha, ⟨fun j v us e => ownsRow_moved (hM.rows.row j v us e) fun g hg => ?_, hM.rows.apart, hM.rows.out⟩, ownsRow_moved hM.args fun g hg => ?_, ?_⟩, hks⟩
  · obtain ⟨cs, h1⟩ := row_type (hM.rows.row j v us e) hg
    exact key g _ h1 (fun cs z e => by cases e)
  · obtain ⟨cs, h1⟩ := row_type hM.args hg
    exact key g _ h1 (fun cs z e => by cases e)
  · obtain ⟨D, ⟨es', c', q1, q2⟩, q3⟩ := hM.vars
    exact ⟨D, ⟨es', c', hm.2.2.2.2.1 bm _ q1 (fun cs z e => by cases e), q2⟩, q3⟩
theorem Moved.keep {g1 g2 : Nat} {w w' : World} {E : Nat → Prop} (h : Moved g1 g2 w w') (hE : ∀ b, E b → ∃ o, w.heap[b]? = some o ∧ ∀ cs z, o ≠ Obj.cells cs 4 z) : KeepE E w w' :=
  ⟨h.1, h.2.1, h.2.2.1, h.2.2.2.1, fun b hb => by obtain ⟨o, h1, h2⟩ := hE b hb; exact (h.2.2.2.2.1 b o h1 h2).trans h1.symm⟩
/-- The arguments of a node. -/
theorem FAt.arg {w : World} {E : Nat → Prop} {fb : Nat} {S : Value} {F : Fd} (h : FAt w E fb S F) {k : Nat} {al : List Nat} (hk : F.args[k]? = some al) :
    ∃ ga n c A ca, w.cell? ⟨fb, 2, none⟩ = some (.slice (some ⟨ga, 0, none⟩) n c) ∧ n = F.args.length ∧ w.cell? ⟨ga, k, none⟩ = some (.slice A al.length ca) ∧ al.length ≤ 9223372036854775807 ∧ (∀ (j a : Nat), al[j]? = some a → ∃ g, A = some ⟨g, 0, none⟩ ∧ ∀ g1 g2 w', Moved g1 g2 w w' → w'.cell? ⟨g, j, none⟩ = some (.int .i64 (a : Int))) := by
  obtain ⟨bm, vt, va, vp, ks, hM, hks⟩ := h
  have hkl : ks.length = F.args.length := by
    have := congrArg List.length hks
    rwa [List.length_map, List.length_map] at this
  have hkk : k < ks.length := by have := (List.getElem?_eq_some_iff.1 hk).1; omega
  obtain ⟨v, us, hkn⟩ : ∃ v us, ks[k]? = some (v, us) := ⟨_, _, List.getElem?_eq_getElem hkk⟩
  have hus : us = cI al := by
    have h1 := congrArg (fun x => x[k]?) hks
    simp only [List.getElem?_map, hkn, hk, Option.map_some] at h1
    exact Option.some.inj h1
  subst hus
  obtain ⟨ga, ca, rfl, _, _, c1, _⟩ := hM.argAt hkn
  obtain ⟨Av, cv, rfl, l1, l2⟩ := hM.rows.head (i := k + 2) (by simpa using hkn)
  refine ⟨ga, _, ca, Av, cv, hM.c.2.2.1, hkl, by rw [c1, cI_len], by rw [cI_len] at l1; omega, fun j a ha => ?_⟩
  obtain ⟨g, c2, e, _, _, _, _, h1, _⟩ := hM.rows.cell (i := k + 2) (by simpa using hkn) (cI_get ha)
  cases e
  obtain ⟨cs, h2⟩ := row_type (hM.rows.row (k + 2) _ _ (by simpa using hkn)) rfl
  exact ⟨g, rfl, fun g1 g2 w' hm => (World.cell?_of_block ((hm.2.2.2.2.1 g _ h2 (fun cs z e => by cases e)).trans h2.symm)).trans h1⟩
theorem FAt.top {w : World} {E : Nat → Prop} {fb : Nat} {S : Value} {F : Fd} (h : FAt w E fb S F) {k : Nat} {t : Int} (hk : F.tops[k]? = some t) :
    ∃ g n c, w.cell? ⟨fb, 1, none⟩ = some (.slice (some ⟨g, 0, none⟩) n c) ∧ n = F.tops.length ∧ w.cell? ⟨g, k, none⟩ = some (.int .i64 t) := by
  obtain ⟨bm, vt, va, vp, ks, hM, hks⟩ := h
  obtain ⟨g, c, rfl, _, _, _, _, h1, _⟩ := hM.rows.cell (i := 0) rfl hk
  exact ⟨g, _, c, hM.c.2.1, rfl, h1⟩

end Go.Proofs.Ytojofbmpknpggaa
