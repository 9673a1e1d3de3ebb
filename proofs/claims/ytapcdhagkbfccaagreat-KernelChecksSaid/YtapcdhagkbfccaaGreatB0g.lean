/- Contract: the reference's Part. -/
import Derived.Test.YtapcdhagkbfccaaGreatA2g
import Derived.Test.YtapcdhagkbfccaaGreatG2g
import Derived.Test.YtapcdhagkbfccaaGreatQ5g
import Derived.Test.YtapcdhagkbfccaaGreatB4g
/- Parts of a term by where they begin: the plain mathematics. -/
namespace Go.Proofs.YtapcdhagkbfccaaGreat
open Go.RowKit

theorem scan_append (ss : Sg) : ∀ (l : List Int) (n : Nat) (r x : List Int), scan ss n l = some r → scan ss n (l ++ x) = some (r ++ x)
  | l, 0, r, x, h => by rw [scan_zero] at h ⊢; cases h; rfl
  | [], n + 1, r, x, h => by cases h
  | z :: l, n + 1, r, x, h => by
    simp only [scan, List.cons_append] at h ⊢
    exact scan_append ss l _ r x h

/-- The part that begins at an index. -/
def prt (ss : Sg) (zs : List Int) (a : Nat) : List Int := (zs.drop a).take ((zs.drop a).length - ((scan ss 1 (zs.drop a)).getD []).length)
/-- Where the part k behind the head at an index begins. -/
def psA (ss : Sg) (zs : List Int) (a k : Nat) : Nat := zs.length - ((scan ss k (zs.drop (a + 1))).getD []).length

structure PrtIs (ss : Sg) (zs : List Int) (a : Nat) (P : List Int) : Prop where
  len : 1 ≤ P.length
  le : a + P.length ≤ zs.length
  split : zs.drop a = P ++ zs.drop (a + P.length)
  good : scan ss 1 P = some []
  head : ∀ h : a < zs.length, P[0]? = some zs[a]
  whole : scan ss 1 (zs.drop a) = some (zs.drop (a + P.length))

theorem prt_is {ss : Sg} {zs : List Int} {a : Nat} {r0 : List Int} (h : scan ss 1 (zs.drop a) = some r0) : PrtIs ss zs a (prt ss zs a) := by
  obtain ⟨p, h1, h2, h3⟩ := scan_suffix ss _ _ _ h
  have hl := congrArg List.length h3
  rw [List.length_drop] at h1
  simp only [List.length_drop] at hl
  have e0 : (zs.drop a).length - ((scan ss 1 (zs.drop a)).getD []).length = p := by
    rw [h]
    simp only [Option.getD_some, List.length_drop]
    omega
  have eP : prt ss zs a = (zs.drop a).take p := by unfold prt; rw [e0]
  have el : (prt ss zs a).length = p := by rw [eP, List.length_take, List.length_drop]; omega
  have ed : zs.drop (a + p) = (zs.drop a).drop p := by rw [List.drop_drop]
  refine ⟨by omega, by omega, ?_, ?_, ?_, ?_⟩
  · rw [el, ed, eP, List.take_append_drop]
  · rw [eP]
    exact scan_take ss _ _ _ (by rw [List.length_drop]; omega) (by rw [h, h3])
  · intro hlt
    rw [eP, List.getElem?_take, if_pos (by omega), List.getElem?_drop, Nat.add_zero, List.getElem?_eq_getElem hlt]
  · rw [el, ed, h, h3]

theorem prt_eq {ss : Sg} {zs : List Int} {a n : Nat} {x : List Int} (h : scan ss 1 (zs.drop a) = some x) (hx : (zs.drop a).length = n + x.length) : prt ss zs a = (zs.drop a).take n := by
  unfold prt
  rw [h]
  simp only [Option.getD_some]
  congr 1
  omega

theorem prt_whole {ss : Sg} {zs : List Int} (h : scan ss 1 zs = some []) : prt ss zs 0 = zs := by
  have := prt_eq (ss := ss) (zs := zs) (a := 0) (n := zs.length) (x := []) (by simpa using h) (by simp)
  rw [this]
  simp

section
variable {ss : Sg} {zs P : List Int} {a : Nat}
theorem prt_drop (h : PrtIs ss zs a P) {q : Nat} (hq : q ≤ P.length) : zs.drop (a + q) = P.drop q ++ zs.drop (a + P.length) := by
  have e : zs.drop (a + q) = (zs.drop a).drop q := by rw [List.drop_drop]
  rw [e, h.split, List.drop_append_of_le_length hq]
theorem prt_ar (h : PrtIs ss zs a P) (hl : a < zs.length) : scan ss (arOf ss zs[a]) (P.drop 1) = some [] := by
  have h1 := scan_head h.good h.len
  have h2 := h.head hl
  rw [List.getElem?_eq_getElem h.len] at h2
  rw [← Option.some.inj h2]
  exact h1
theorem prt_pos (h : PrtIs ss zs a P) (hl : a < zs.length) {k : Nat} (hk : k ≤ arOf ss zs[a]) :
    psA ss zs a k = a + pos ss P k ∧ 1 + k ≤ pos ss P k ∧ pos ss P k ≤ P.length ∧ scan ss k (zs.drop (a + 1)) = some (zs.drop (psA ss zs a k)) := by
  obtain ⟨h1, h2, h3⟩ := pos_scan (prt_ar h hl) h.len hk
  have h4 := scan_append ss _ _ _ (zs.drop (a + P.length)) h1
  rw [← prt_drop h h.len, ← prt_drop h h3] at h4
  have hle := h.le
  have e2 : psA ss zs a k = a + pos ss P k := by
    unfold psA
    rw [h4]
    simp only [Option.getD_some, List.length_drop]
    omega
  exact ⟨e2, h2, h3, by rw [e2]; exact h4⟩
theorem prt_step (h : PrtIs ss zs a P) (hl : a < zs.length) {k : Nat} (hk : k < arOf ss zs[a]) :
    scan ss 1 (zs.drop (psA ss zs a k)) = some (zs.drop (psA ss zs a (k + 1))) ∧ psA ss zs a k < psA ss zs a (k + 1) ∧ psA ss zs a (k + 1) ≤ zs.length ∧ prt ss zs (psA ss zs a k) = argL ss P k := by
  obtain ⟨a1, a2, a3, a4⟩ := prt_pos h hl (Nat.le_of_lt hk)
  obtain ⟨b1, b2, b3, b4⟩ := prt_pos h hl (show k + 1 ≤ _ from hk)
  obtain ⟨_, c2, _⟩ := pos_step (prt_ar h hl) h.len hk
  have hle := h.le
  have s1 : scan ss 1 (zs.drop (psA ss zs a k)) = some (zs.drop (psA ss zs a (k + 1))) := by
    rw [scan_add, a4] at b4
    exact b4
  refine ⟨s1, by omega, by omega, ?_⟩
  rw [prt_eq (n := pos ss P (k + 1) - pos ss P k) s1 (by simp only [List.length_drop]; omega), a1]
  unfold argL
  rw [prt_drop h a3, List.take_append_of_le_length (by rw [List.length_drop]; omega)]
theorem psA_zero (hl : a < zs.length) : psA ss zs a 0 = a + 1 := by
  unfold psA
  rw [scan_zero]
  simp only [Option.getD_some, List.length_drop]
  omega
end


end Go.Proofs.YtapcdhagkbfccaaGreat

/- Contract: the reference's Arguments. -/
namespace Go.Proofs.YtapcdhagkbfccaaGreat
open Go.RowKit

/-- Where the first arguments of the part at an index begin. -/
def begs (ss : Sg) (zs : List Int) (a k : Nat) : List Int := (List.range k).map fun j => ((psA ss zs a j : Nat) : Int)
theorem begs_len (ss : Sg) (zs : List Int) (a k : Nat) : (begs ss zs a k).length = k := by simp [begs]
theorem begs_succ (ss : Sg) (zs : List Int) (a k : Nat) : begs ss zs a (k + 1) = begs ss zs a k ++ [((psA ss zs a k : Nat) : Int)] := by simp [begs, List.range_succ]

set_option maxRecDepth 100000 in
set_option maxHeartbeats 1000000 in
theorem refArgs_any (As At : Option Addr) (ns cs nt ct : Nat) (ss : Sg) (zs r0 : List Int) (a : Nat) (w : World) (hs : SigAt w w.heap.size As ns ss) (ht : IntsAt w w.heap.size At nt zs) (har : ArOk ss) (hh : HeadsOk ss zs) (hn : nt ≤ 1000) (ha : a < zs.length) (hsc : scan ss 1 (zs.drop a) = some r0) :
    Calls Tryz.prog 93 #[.slice As ns cs, .slice At nt ct, .int .i64 a] w fun e w' => ∃ v, e = .returned v ∧ w'.ownsRow w.heap.size 3 1 v (arOf ss zs[a]) ((begs ss zs a (arOf ss zs[a])).map (Value.int .i64)) ∧ Below w.heap.size w w' := by
  obtain ⟨i0, hi, hz0, hz1, hz2⟩ := info_parts info_int
  have hP := prt_is hsc
  have hlt := ht.len
  have hls := hs.len
  have hr3 := arOf_le har zs[a]
  have hzl : zs[a] < (ns : Int) := by
    rw [hls]; exact hh _ (List.getElem_mem ha)
  obtain ⟨bt, offt, rfl, hbt, htc⟩ := ht.mem (by omega)
  have hc0 := htc a ha
  have h0 := psA_zero (ss := ss) ha
  obtain ⟨z, hz⟩ : ∃ z, zs[a] = z := ⟨_, rfl⟩
  obtain ⟨r, hr⟩ : ∃ r, arOf ss z = r := ⟨_, rfl⟩
  have hk1 : ∀ k, k < r → scan ss 1 (zs.drop (psA ss zs a k)) = some (zs.drop (psA ss zs a (k + 1))) ∧ psA ss zs a k < psA ss zs a (k + 1) ∧ psA ss zs a (k + 1) ≤ zs.length := by
    intro k hk
    have := prt_step hP ha (k := k) (by rw [hz, hr]; exact hk)
    exact ⟨this.1, this.2.1, this.2.2.1⟩
  have HA := Lib.hid (fun W (hb : Below w.heap.size w W) => by
    have := arity_any As ns cs ss z W w.heap.size (hs.below hb) har (by rw [← hz]; exact hzl)
    rw [hr] at this
    exact this)
  have HE := Lib.hid (fun W (hb : Below w.heap.size w W) k (hk : k < r) => by
    have := refEnd_any As (some ⟨bt, offt, none⟩) ns cs nt ct ss zs _ (psA ss zs a k) W w.heap.size (hs.below hb) (ht.below hb) har hh hn (by have := (hk1 k hk).2; omega) (hk1 k hk).1
    rw [show zs.length - (zs.drop (psA ss zs a (k + 1))).length = psA ss zs a (k + 1) from by have := (hk1 k hk).2; rw [List.length_drop]; omega] at this
    exact this)
  have HB0 : Hid (∀ j, j ≤ r → psA ss zs a j ≤ 1000) := Lib.hid (fun j hj => by
    rcases Nat.eq_zero_or_pos j with rfl | hpos
    · omega
    · have := (hk1 (j - 1) (by omega)).2.2
      rw [show j - 1 + 1 = j from by omega] at this
      omega)
  have HBG := Lib.hid (begs_succ ss zs a)
  have HBL := Lib.hid (begs_len ss zs a)
  have hB0 : begs ss zs a 0 = [] := rfl
  rw [hz] at hr3 hc0 ⊢
  rw [hr] at hr3 ⊢
  have hcw : ∀ W, Below w.heap.size w W → W.cell? ⟨bt, offt + a, none⟩ = some (.int .i64 z) := fun W hb => (hb.cell (p := ⟨bt, offt + a, none⟩) hbt).trans hc0
  have HCW := Lib.hid hcw
  have ha0 : (0 : Int) ≤ (a : Int) := by omega
  have ha1 : (a : Int) < (nt : Int) := by omega
  have ha2 : a ≤ 1000 := by omega
  obtain ⟨ps, hps⟩ : ∃ ps : Nat → Nat, psA ss zs a = ps := ⟨_, rfl⟩
  obtain ⟨bg, hbg⟩ : ∃ bg : Nat → List Int, begs ss zs a = bg := ⟨_, rfl⟩
  simp only [hps, hbg] at *
  clear hs ht har hh hsc hP hlt hls hzl htc hc0 hz hr hk1 hps hbg hcw ha
  go_enter Tryz.func93, Tryz.ntmps93
  go_wp2
  go_loopw [7, 8, 9] (fun v f i wr => ∃ (k : Nat) (Av : Option Addr) (cv : Nat), k ≤ r ∧ i = .int .i64 k ∧ f = .int .i64 (ps k : Nat) ∧ v = .slice Av k cv ∧ wr.ownsRow w.heap.size 3 1 (.slice Av k cv) k ((bg k).map (Value.int .i64)) ∧ Below w.heap.size w wr) (fun _ _ i _ => r - (intOf i).toNat)
  case atStart => exact ⟨0, none, 0, Nat.zero_le _, rfl, by rw [h0]; go_num, rfl, by rw [hB0]; exact World.ownsRow_nil _ _ _ _, Below.refl _ _⟩
  case round =>
    obtain ⟨k, Av, cv, hk, rfl, rfl, rfl, hown, hB⟩ := hrel
    have c1 := HCW.out wr hB
    have HOWN := Lib.hid hown
    have HB := Lib.hid hB
    have HL := Lib.hid (HBL.out k)
    clear hown hB
    by_cases hlt : k < r
    · have H := Lib.hid (HBG.out k)
      have hp1 := HB0.out k hk
      have hp2 := HB0.out (k + 1) hlt
      obtain ⟨p, hp⟩ : ∃ p, ps k = p := ⟨_, rfl⟩
      have HP := Lib.hid hp
      rw [hp] at hp1 H
      rw [hp]
      have HE1 := Lib.hid (fun W hb => HE.out W hb k hlt)
      rw [hp] at HE1
      obtain ⟨p', hp'⟩ : ∃ p', ps (k + 1) = p' := ⟨_, rfl⟩
      have HP' := Lib.hid hp'
      rw [hp'] at hp2 HE1
      clear hp hp'
      go_wp2_with (first
        | (go_at_call 61; refine (HA.out _ HB.out).mono ?_; rintro e w' ⟨rfl, rfl⟩)
        | (at_builtin
           refine wpList_append_own_at _ rfl _ _ 26 rfl w.heap.size 3 i0 _ 1 8 Tryz.underlying26 hi hz0 hz1 hz2 rfl (by omega) _ _ _ rfl (HOWN.out.alloc _) ⟨wr.heap.size, 0, none⟩ 1 1 [.int .i64 (p : Int)] rfl rfl
             (World.news_of_block (cs := #[.int .i64 (p : Int)]) (t := 3) (fr := (0, 0)) (heap_alloc_new wr _)) (by simp [Value.oneCell']) (by unfold maxLen; omega) (by omega) (by have := HB.out.size; simp; omega) ?_
           intro v1 w1 hown1 hg1 _ _
           have HB1 := Lib.hid ((HB.out.alloc HB.out.size _).grown hg1 (by have := HB.out.size; simp; omega) (fun j e => (HOWN.out.lt j e).1))
           obtain ⟨g1, cap1, hv1, _⟩ := hown1.form (by omega)
           subst hv1
           have HOWN1 := Lib.hid hown1
           clear hown1 hg1)
        | (go_at_call 117; refine (HE1.out _ HB1.out).mono ?_; rintro e w2 ⟨rfl, j2, rfl⟩))
      go_roundw
      case rel => exact ⟨k + 1, some ⟨g1, 0, none⟩, cap1, by omega, by go_num, by rw [HP'.out], by go_num, by rw [H.out, List.map_append]; exact HOWN1.out, below_drewN HB1.out _⟩
      case measure => simp [intOf]; omega
    · obtain rfl : k = r := by omega
      go_wp2_with (go_at_call 61; refine (HA.out _ HB.out).mono ?_; rintro e w' ⟨rfl, rfl⟩)
      go_ret
      exact ⟨_, rfl, HOWN.out, HB.out⟩

end Go.Proofs.YtapcdhagkbfccaaGreat

namespace Go.Proofs.YtapcdhagkbfccaaGreat
open Go.RowKit

set_option maxRecDepth 100000 in
set_option maxHeartbeats 1000000 in
theorem refPart_any (As At : Option Addr) (ns cs nt ct : Nat) (ss : Sg) (zs r0 : List Int) (a : Nat) (w : World) (hs : SigAt w w.heap.size As ns ss) (ht : IntsAt w w.heap.size At nt zs) (har : ArOk ss) (hh : HeadsOk ss zs) (hn : nt ≤ 1000) (hct : nt ≤ ct) (hct2 : ct ≤ 9223372036854775807) (ha : a < zs.length) (hsc : scan ss 1 (zs.drop a) = some r0) :
    Calls Tryz.prog 95 #[.slice As ns cs, .slice At nt ct, .int .i64 a] w fun e w' => ∃ v, e = .returned v ∧ w'.ownsRow w.heap.size 3 1 v (prt ss zs a).length ((prt ss zs a).map (Value.int .i64)) ∧ Below w.heap.size w w' := by
  obtain ⟨i0, hi, hz0, hz1, hz2⟩ := info_parts info_int
  have hP := prt_is hsc
  have hlt := ht.len
  obtain ⟨bt, offt, rfl, hbt, htc⟩ := ht.mem (by omega)
  obtain ⟨P, hPP⟩ : ∃ P, prt ss zs a = P := ⟨_, rfl⟩
  rw [hPP] at hP ⊢
  have hl1 := hP.len
  have hl2 := hP.le
  have HE := Lib.hid (fun W (hb : Below w.heap.size w W) => by
    have := refEnd_any As (some ⟨bt, offt, none⟩) ns cs nt ct ss zs _ a W w.heap.size (hs.below hb) (ht.below hb) har hh hn (by omega) hP.whole
    rw [show zs.length - (zs.drop (a + P.length)).length = a + P.length from by rw [List.length_drop]; omega] at this
    exact this)
  have HN1 : Hid (∀ W, Below w.heap.size w W → ∀ j u, (P.map (Value.int .i64))[j]? = some u → W.cell? ((⟨bt, offt + a, none⟩ : Addr).add j) = some u) := by
    refine Lib.hid (fun W hb j u hu => ?_)
    rw [add0, hb.cell (p := ⟨bt, offt + a + j, none⟩) hbt]
    simp only [List.getElem?_map, Option.map_eq_some_iff] at hu
    obtain ⟨z, hz, rfl⟩ := hu
    have h1 : (zs.drop a)[j]? = some z := by
      rw [hP.split, List.getElem?_append_left (List.getElem?_eq_some_iff.1 hz).1]; exact hz
    rw [List.getElem?_drop] at h1
    obtain ⟨hj, rfl⟩ := List.getElem?_eq_some_iff.1 h1
    rw [Nat.add_assoc]
    exact htc (a + j) hj
  obtain ⟨m, hm⟩ : ∃ m, P.length = m := ⟨_, rfl⟩
  rw [hm] at hl1 hl2 HE ⊢
  have HN0 := Lib.hid (show (P.map (Value.int .i64)).length = m * 1 by simp [hm])
  have HN2 := Lib.hid (ints_one P)
  obtain ⟨e, he⟩ : ∃ e, a + m = e := ⟨_, rfl⟩
  have hea : e - a = m := by omega
  rw [he] at HE hl2
  have h1 : a ≤ e := by omega
  have h2 : e ≤ ct := by omega
  have h3 : a ≠ ct := by omega
  have h4 : (0 : Int) ≤ (a : Int) := by omega
  have h5 : m ≤ 1000 := by omega
  have h6 : a ≤ 1000 := by omega
  have h7 : e ≤ 1000 := by omega
  have HO' : Hid ((w.alloc (.cells #[] 3)).ownsRow w.heap.size 3 1 (.slice (some ⟨w.heap.size, 0, none⟩) 0 0) 0 []) :=
    Lib.hid ⟨rfl, .inr ⟨w.heap.size, 0, #[], rfl, Nat.le_refl _, heap_alloc_new w _, Nat.le_refl _, by unfold maxLen; omega, rfl, rfl⟩⟩
  have HB0 : Hid (Below w.heap.size w (w.alloc (.cells #[] 3))) := Lib.hid ((Below.refl _ _).alloc (Nat.le_refl _) _)
  clear hs ht har hh hsc hP hlt htc hPP hm he hn ha hct
  go_enter Tryz.func95, Tryz.ntmps95
  go_wp2_with (first
    | (go_at_call 117; refine (HE.out _ HB0.out).mono ?_; rintro e' w1 ⟨rfl, j1, rfl⟩)
    | (at_builtin
       refine wpList_append_own_at _ rfl _ _ 36 rfl w.heap.size 3 i0 _ 1 8 Tryz.underlying36 hi hz0 hz1 hz2 rfl (by omega) (.slice (some ⟨w.heap.size, 0, none⟩) 0 0) 0 [] rfl HO'.out ⟨bt, offt + a, none⟩ m _ (P.map (Value.int .i64)) rfl HN0.out (HN1.out _ (below_drewN HB0.out j1)) HN2.out (by unfold maxLen; omega) (by omega) (by simp) ?_
       intro v' w2 hown hg _ _
       have HW := Lib.hid hown
       have HG := Lib.hid ((below_drewN HB0.out j1).grown hg (by simp) (fun k e => by cases e; exact Nat.le_refl _))
       clear hown hg))
  go_ret
  refine ⟨_, rfl, ?_, HG.out⟩
  have := HW.out
  simpa using this

end Go.Proofs.YtapcdhagkbfccaaGreat
