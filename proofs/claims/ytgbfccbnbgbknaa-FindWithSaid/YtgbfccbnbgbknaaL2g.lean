/- Contracts: Shape, and the reference's Flat, Shape. -/
import Derived.Test.YtgbfccbnbgbknaaQ4g
/- Contracts: IsCanonical, Shape, and the reference's Canonical, IsCanonical, Flat, Shape. -/
namespace Go.Proofs.Ytgbfccbnbgbknaa
open Go.RowKit

def isCanOk (ss : Sg) (a : List Int) : Bool := valOk ss a && decide (a = canon a)
theorem isCan_comm (a : List Int) : decide (canon a = a) = decide (a = canon a) := by
  rw [decide_eq_decide]; exact eq_comm
def flat (a : List Int) : List Int := a.map fun z => if z < 0 then -1 else z

set_option maxHeartbeats 1000000 in
theorem isCan_any (As A1 : Option Addr) (ns cs n1 c1 : Nat) (ss : Sg) (a : List Int) (w : World) (hs : SigAt w w.heap.size As ns ss) (ha : IntsAt w w.heap.size A1 n1 a) :
    Calls Try.prog 22 #[.slice As ns cs, .slice A1 n1 c1] w fun e w' => e = .returned (.bool (isCanOk ss a)) ∧ Below w.heap.size w w' := by
  have C1 := Lib.hid (valid_any As A1 ns cs n1 c1 ss a w hs ha)
  cases e1 : valOk ss a
  · have H := Lib.hid (show isCanOk ss a = false by simp [isCanOk, e1])
    have E1 := Lib.hid e1
    clear e1 hs ha
    go_enter Try.func22, Try.ntmps22
    go_wp2_with (go_at_call 99; refine C1.out.mono ?_; rintro e w1 ⟨rfl, hB⟩; rw [E1.out]; have HB := Lib.hid hB)
    go_ret
    exact ⟨ret_b H.out.symm, HB.out⟩
  · have H := Lib.hid (show isCanOk ss a = decide (a = canon a) by simp [isCanOk, e1])
    have hl := sigOk_len (valOk_sig e1)
    obtain ⟨a1, a2, a3, _⟩ := valOk_term e1
    rw [← ha.len] at a1 a2
    have C3 := Lib.hid (fun (w1 : World) (hB : Below w.heap.size w w1) => renamed_any A1 n1 c1 a w1 (ha.up hB) a1 a2 (fun z hz => by have := a3 z hz; omega))
    have HLA := Lib.hid (show n1 = (canon a).length by rw [canon_length]; exact ha.len)
    have HA := Lib.hid ha
    have E1 := Lib.hid e1
    obtain ⟨ca, hca⟩ : ∃ ca, canon a = ca := ⟨_, rfl⟩
    simp only [hca] at C3 HLA H
    clear e1 hs ha a3 hca
    go_enter Try.func22, Try.ntmps22
    go_wp2_with (first
      | (go_at_call 99; refine C1.out.mono ?_; rintro e w1 ⟨rfl, hB⟩; rw [E1.out]; have HB := Lib.hid hB; clear hB)
      | (go_at_call 100; ((with_reducible refine (C3.out _ HB.out).mono ?_); rintro e w3 ⟨rfl, hB3, hK⟩; have HB3 := Lib.hid (below_then HB.out hB3); have HI := Lib.hid (IntsAt.of_blk (n := n1) hK HLA.out (by rw [← HLA.out]; omega)); clear hB3 hK))
      | (go_at_call 103; refine (eqT_any _ _ _ _ _ _ a ca _ _ (HA.out.up HB3.out) HI.out).mono ?_; rintro e w5 ⟨rfl, j, rfl⟩))
    go_ret
    exact ⟨ret_b H.out.symm, below_drewN HB3.out _⟩

set_option maxHeartbeats 1000000 in
theorem refIsCan_any (As A1 : Option Addr) (ns cs n1 c1 : Nat) (ss : Sg) (a : List Int) (w : World) (hs : SigAt w w.heap.size As ns ss) (ha : IntsAt w w.heap.size A1 n1 a) :
    Calls Try.prog 23 #[.slice As ns cs, .slice A1 n1 c1] w fun e w' => e = .returned (.bool (isCanOk ss a)) ∧ Below w.heap.size w w' := by
  have C1 := Lib.hid (refValid_any As A1 ns cs n1 c1 ss a w _ hs ha)
  have HD : Hid (∀ k, Below w.heap.size w (w.drewN k)) := fun k => below_drewN (Below.refl _ _) k
  cases e1 : valOk ss a
  · have H := Lib.hid (show isCanOk ss a = false by simp [isCanOk, e1])
    have E1 := Lib.hid e1
    clear e1 hs ha
    go_enter Try.func23, Try.ntmps23
    go_wp2_with (go_at_call 101; refine C1.out.mono ?_; rintro e w1 ⟨rfl, j, rfl⟩; rw [E1.out])
    go_ret
    exact ⟨ret_b H.out.symm, HD.out _⟩
  · have H := Lib.hid (show isCanOk ss a = decide (canon a = a) by rw [isCan_comm]; simp [isCanOk, e1])
    have hl := sigOk_len (valOk_sig e1)
    obtain ⟨a1, a2, a3, _⟩ := valOk_term e1
    rw [← ha.len] at a1 a2
    have C3 := Lib.hid (fun (w1 : World) (hB : Below w.heap.size w w1) => refRenamed_any A1 n1 c1 a w1 (ha.up hB) a1 (by omega) (fun z hz => by have := a3 z hz; omega))
    have HA := Lib.hid ha
    have E1 := Lib.hid e1
    obtain ⟨ca, hca⟩ : ∃ ca, canon a = ca := ⟨_, rfl⟩
    simp only [hca] at C3 H
    clear e1 hs ha a3 hca
    go_enter Try.func23, Try.ntmps23
    go_wp2_with (first
      | (go_at_call 101; refine C1.out.mono ?_; rintro e w1 ⟨rfl, j1, rfl⟩; rw [E1.out])
      | (go_at_call 102; ((with_reducible refine (C3.out _ (HD.out _)).mono ?_); rintro e w3 ⟨B1, d1, rfl, hI, hB3⟩; have HB3 := Lib.hid (below_then (HD.out _) hB3); have HI := Lib.hid hI; clear hB3 hI))
      | (go_at_call 21; refine (same_any _ _ _ _ _ _ ca a _ _ HI.out (HA.out.up HB3.out)).mono ?_; rintro e w5 ⟨rfl, j, rfl⟩))
    go_ret
    exact ⟨ret_b H.out.symm, below_drewN HB3.out _⟩

set_option maxHeartbeats 1000000 in
theorem refCanonical_bad (As At : Option Addr) (ns cs nt ct : Nat) (ss : Sg) (zs : List Int) (w : World) (hs : SigAt w w.heap.size As ns ss) (ht : IntsAt w w.heap.size At nt zs) (hv : valOk ss zs = false) :
    Calls Try.prog 20 #[.slice As ns cs, .slice At nt ct] w (RetT w [] 1) := by
  have C := Lib.hid (refValid_any As At ns cs nt ct ss zs w _ hs ht)
  have HV := Lib.hid hv
  clear hv hs ht
  go_enter Try.func20, Try.ntmps20
  go_wp2_with (go_at_call 101; refine C.out.mono ?_; rintro e w1 ⟨rfl, j, rfl⟩; rw [HV.out])
  go_ret2
  exact ⟨none, 0, 0, rfl, IntsAt.nil _ _ 0, below_drewN (Below.refl _ _) _⟩

set_option maxHeartbeats 1000000 in
theorem refCanonical_ok (As At : Option Addr) (ns cs nt ct : Nat) (ss : Sg) (zs : List Int) (w : World) (hs : SigAt w w.heap.size As ns ss) (ht : IntsAt w w.heap.size At nt zs) (hv : valOk ss zs = true) :
    Calls Try.prog 20 #[.slice As ns cs, .slice At nt ct] w (RetT w (canon zs) 0) := by
  have C := Lib.hid (refValid_any As At ns cs nt ct ss zs w _ hs ht)
  have HD : Hid (∀ k, Below w.heap.size w (w.drewN k)) := fun k => below_drewN (Below.refl _ _) k
  have hl := sigOk_len (valOk_sig hv)
  obtain ⟨a1, a2, a3, _⟩ := valOk_term hv
  rw [← ht.len] at a1 a2
  have C3 := Lib.hid (fun (w1 : World) (hB : Below w.heap.size w w1) => refRenamed_any At nt ct zs w1 (ht.up hB) a1 (by omega) (fun z hz => by have := a3 z hz; omega))
  have HV := Lib.hid hv
  clear hv hs ht a3
  go_enter Try.func20, Try.ntmps20
  go_wp2_with (first
    | (go_at_call 101; refine C.out.mono ?_; rintro e w1 ⟨rfl, j1, rfl⟩; rw [HV.out])
    | (go_at_call 102; ((with_reducible refine (C3.out _ (HD.out _)).mono ?_); rintro e w3 ⟨B1, d1, rfl, hI, hB3⟩; have HB3 := Lib.hid (below_then (HD.out _) hB3); have HI := Lib.hid hI; clear hB3 hI)))
  go_ret2
  exact ⟨_, _, _, rfl, HI.out, HB3.out⟩

end Go.Proofs.Ytgbfccbnbgbknaa

namespace Go.Proofs.Ytgbfccbnbgbknaa
open Go.RowKit

def gcells (o : List Int) (k : Nat) : Array Value := ((o.take k).map (Value.int .i64) ++ List.replicate (o.length - k) (Value.int .i64 0)).toArray
theorem gcells_at {o : List Int} {k : Nat} (h : k < o.length) : (gcells o k)[k]? = some (.int .i64 0) := by
  unfold gcells
  have e : ((o.take k).map (Value.int .i64)).length = k := by rw [List.length_map, List.length_take]; omega
  rw [List.getElem?_toArray, List.getElem?_append_right (by omega), e, Nat.sub_self, List.getElem?_replicate, if_pos (by omega)]
theorem gcells_set {o : List Int} {k : Nat} (h : k < o.length) : (gcells o k).setIfInBounds k (.int .i64 o[k]) = gcells o (k + 1) := by
  unfold gcells
  have e : ((o.take k).map (Value.int .i64)).length = k := by rw [List.length_map, List.length_take]; omega
  rw [List.setIfInBounds_toArray, List.set_append_right _ _ (by omega), e, Nat.sub_self, List.take_succ_eq_append_getElem h, List.map_append]
  rw [show o.length - k = (o.length - (k + 1)) + 1 from by omega, List.replicate_succ]
  simp
theorem gcells_zero (o : List Int) : gcells o 0 = madeCells #[.int .i64 0] (o.length * 1) := by
  unfold gcells madeCells
  apply Array.ext
  · simp
  · intro i h1 h2
    simp [Nat.mod_one]
theorem gcells_all (o : List Int) : gcells o o.length = (o.map (Value.int .i64)).toArray := by
  unfold gcells
  rw [List.take_length, Nat.sub_self]
  simp

theorem flat_length (a : List Int) : (flat a).length = a.length := by simp [flat]
theorem flat_at {a : List Int} {k : Nat} (h : k < a.length) : (flat a)[k]'(by rw [flat_length]; exact h) = if a[k] < 0 then -1 else a[k] := by simp [flat]

set_option maxHeartbeats 1000000 in
theorem shape_bad (As At : Option Addr) (ns cs nt ct : Nat) (ss : Sg) (zs : List Int) (w : World) (hs : SigAt w w.heap.size As ns ss) (ht : IntsAt w w.heap.size At nt zs) (hv : valOk ss zs = false) :
    Calls Try.prog 24 #[.slice As ns cs, .slice At nt ct] w (RetT w [] 1) := by
  have C := Lib.hid (valid_any As At ns cs nt ct ss zs w hs ht)
  have HV := Lib.hid hv
  clear hv hs ht
  go_enter Try.func24, Try.ntmps24
  go_wp2_with (go_at_call 99; refine C.out.mono ?_; rintro e w1 ⟨rfl, hB⟩; rw [HV.out]; have HB := Lib.hid hB)
  go_ret2
  exact ⟨none, 0, 0, rfl, IntsAt.nil _ _ 0, HB.out⟩

set_option maxRecDepth 100000 in
set_option maxHeartbeats 1000000 in
theorem shape_ok (As At : Option Addr) (ns cs nt ct : Nat) (ss : Sg) (zs : List Int) (w : World) (hs : SigAt w w.heap.size As ns ss) (ht : IntsAt w w.heap.size At nt zs) (hv : valOk ss zs = true) :
    Calls Try.prog 24 #[.slice As ns cs, .slice At nt ct] w (RetT w (flat zs) 0) := by
  obtain ⟨i0, hi, hz0, hz1, hz2⟩ := info_parts info_int
  have C := Lib.hid (valid_any As At ns cs nt ct ss zs w hs ht)
  have hl := sigOk_len (valOk_sig hv)
  obtain ⟨a1, a2, a3, _⟩ := valOk_term hv
  have hlen := ht.len
  rw [← hlen] at a1 a2
  have hmk : ∀ W : World, (Instr.makeSlice 25 (.int .i64 (nt : Int)) (.int .i64 (nt : Int))).run Try.prog W = .ok (.slice (some ⟨W.heap.size, 0, none⟩) nt nt) (W.alloc (.cells (gcells (flat zs) 0) 3)) := by
    intro W
    rw [gcells_zero, flat_length, ← hlen]
    have := run_make_rowN (P := Try.prog) 25 3 i0 _ Try.underlying25 hi hz0 .i64 .i64 nt nt (Nat.le_refl _) (by rw [hz2]; omega) (by omega) W
    rw [hz1] at this
    exact this
  have HV := Lib.hid hv
  have HT := Lib.hid ht
  have HL := Lib.hid hlen
  have HBD := Lib.hid (show ∀ z ∈ zs, -12 ≤ z ∧ z ≤ 12 from fun z hz => by have := a3 z hz; omega)
  clear hv hs ht a3 hl hi hz0 hz1 hz2 hlen
  go_enter Try.func24, Try.ntmps24
  go_wp2_with (go_at_call 99; refine C.out.mono ?_; rintro e w1 ⟨rfl, hB⟩; rw [HV.out]; have HB := Lib.hid hB; clear hB)
  clear hmk
  go_loopw [18] (fun i wr => ∃ k : Nat, k ≤ nt ∧ i = .int .i64 k ∧ Blk wr w1.heap.size 3 (gcells (flat zs) k) ∧ Below w1.heap.size w1 wr) (fun i _ => nt - (intOf i).toNat)
  case atStart => exact ⟨0, Nat.zero_le _, rfl, Blk.new _ _ _, (Below.refl _ _).alloc (Nat.le_refl _) _⟩
  case round =>
    obtain ⟨k, hk, rfl, hF, hBr⟩ := hrel
    by_cases hlt : k < nt
    · obtain ⟨b, off, z, rfl, c0, k1, e1⟩ := ((HT.out.below HB.out).below (hBr.mono HB.out.size)).cellAt hlt
      have k2 : k < (flat zs).length := by rw [flat_length]; exact k1
      have hset := gcells_set k2
      have hfa := flat_at k1
      rw [hfa, e1] at hset
      have hbd := HBD.out _ (List.getElem_mem k1)
      rw [e1] at hbd
      have hcF := (hF.cell k).trans (gcells_at k2)
      have hfF := hF.frozen k
      have hFs := fun u => hF.set_ k u
      have hBs := fun u => hBr.setCell (p := ⟨w1.heap.size, k, none⟩) (Nat.le_refl _) u
      clear hfa e1
      by_cases hneg : z < 0
      · rw [if_pos hneg] at hset
        have H1 := Lib.hid hset
        have H2 := Lib.hid (hFs (.int .i64 (-1)))
        have H3 := Lib.hid (hBs (.int .i64 (-1)))
        have hz1 : z ≤ -1 := by omega
        by_cases hzz : z = -1
        · subst hzz
          clear hset hFs hBs hF hBr hneg hz1 hbd
          go_wp2
          all_goals
            go_roundw
            case rel => exact ⟨k + 1, by omega, by go_num, by rw [← H1.out]; exact H2.out, H3.out⟩
            case measure => simp [intOf]; omega
        · have hz2 : z < -1 := by omega
          clear hset hFs hBs hF hBr hneg hzz
          go_wp2
          all_goals
            go_roundw
            case rel => exact ⟨k + 1, by omega, by go_num, by rw [← H1.out]; exact H2.out, H3.out⟩
            case measure => simp [intOf]; omega
      · rw [if_neg hneg] at hset
        have H1 := Lib.hid hset
        have H2 := Lib.hid (hFs (.int .i64 z))
        have H3 := Lib.hid (hBs (.int .i64 z))
        have hz1 : 0 ≤ z := by omega
        clear hset hFs hBs hF hBr hneg
        go_wp2
        all_goals
          go_roundw
          case rel => exact ⟨k + 1, by omega, by go_num, by rw [← H1.out]; exact H2.out, H3.out⟩
          case measure => simp [intOf]; omega
    · obtain rfl : k = nt := by omega
      have HF := Lib.hid hF
      have HBR := Lib.hid hBr
      clear hF hBr
      go_wp2
      go_ret2
      refine ⟨_, _, _, rfl, IntsAt.of_blk (t := 3) ?_ (by rw [flat_length]; exact HL.out) (by rw [flat_length, ← HL.out]; omega), HB.out.trans (HBR.out.mono HB.out.size)⟩
      have := HF.out
      rw [show k = (flat zs).length from by rw [flat_length]; exact HL.out, gcells_all] at this
      exact this

def mix (o z : List Int) (k : Nat) : List Int := o.take k ++ z.drop k
theorem mix_zero (o z : List Int) : mix o z 0 = z := by simp [mix]
theorem mix_all {o z : List Int} (h : o.length = z.length) : mix o z z.length = o := by
  unfold mix
  rw [List.take_of_length_le (by omega), List.drop_length, List.append_nil]
theorem mix_at {o z : List Int} {k : Nat} (h : o.length = z.length) (hk : k < z.length) : (mix o z k)[k]? = some z[k] := by
  unfold mix
  have e : (o.take k).length = k := by rw [List.length_take]; omega
  rw [List.getElem?_append_right (by omega), e, Nat.sub_self, List.getElem?_drop]
  simp [hk]
theorem mix_step {o z : List Int} {k : Nat} (h : o.length = z.length) (hk : k < z.length) : (mix o z k).set k (o[k]'(by omega)) = mix o z (k + 1) := by
  unfold mix
  have e : (o.take k).length = k := by rw [List.length_take]; omega
  rw [List.set_append_right _ _ (by omega), e, Nat.sub_self, List.take_succ_eq_append_getElem (by omega), List.drop_eq_getElem_cons hk, List.set_cons_zero, List.append_assoc]
  rfl
theorem mix_same {o z : List Int} {k : Nat} (h : o.length = z.length) (hk : k < z.length) (e : o[k]'(by omega) = z[k]) : mix o z (k + 1) = mix o z k := by
  rw [← mix_step h hk]
  apply List.ext_getElem?
  intro j
  rw [List.getElem?_set]
  by_cases hj : k = j
  · subst hj
    rw [if_pos rfl]
    have hl : (mix o z k).length = z.length := by
      unfold mix
      rw [List.length_append, List.length_take, List.length_drop]; omega
    rw [if_pos (by rw [hl]; exact hk), mix_at h hk, e]
  · rw [if_neg hj]

set_option maxRecDepth 100000 in
set_option maxHeartbeats 1000000 in
theorem flat_any (A : Option Addr) (n c : Nat) (zs : List Int) (w : World) (hx : IntsAt w w.heap.size A n zs) (h1 : 1 ≤ n) (hn : n ≤ 1000000) :
    Calls Try.prog 104 #[.slice A n c] w fun e w' => ∃ A' c', e = .returned (.slice A' n c') ∧ IntsAt w' w'.heap.size A' n (flat zs) ∧ Below w.heap.size w w' := by
  obtain ⟨i0, hi, hz0, hz1, hz2⟩ := info_parts info_int
  obtain ⟨bt, offt, rfl, hbt, htc⟩ := hx.mem (by omega)
  have hlen := hx.len
  have HLX := Lib.hid hlen
  have HN1 := Lib.hid (show (zs.map (Value.int .i64)).length = n * 1 by simp [hlen])
  have HN2 := Lib.hid (show ∀ j u, (zs.map (Value.int .i64))[j]? = some u → (w.alloc (.cells #[] 3)).cell? ((⟨bt, offt, none⟩ : Addr).add j) = some u by
    intro j u hu
    rw [add0, alloc_keep _ _ _ hbt]
    simp only [List.getElem?_map, Option.map_eq_some_iff] at hu
    obtain ⟨z, hz, rfl⟩ := hu
    obtain ⟨hj, rfl⟩ := List.getElem?_eq_some_iff.1 hz
    exact htc j hj)
  have HN3 := Lib.hid (show ∀ u ∈ zs.map (Value.int .i64), u.oneCell' = true by
    intro u hu
    obtain ⟨z, _, rfl⟩ := List.mem_map.1 hu
    rfl)
  have HO := Lib.hid (show (w.alloc (.cells #[] 3)).ownsRow w.heap.size 3 1 (.slice (some ⟨w.heap.size, 0, none⟩) 0 0) 0 [] from
    ⟨rfl, .inr ⟨w.heap.size, 0, #[], rfl, Nat.le_refl _, heap_alloc_new w _, Nat.le_refl _, by unfold maxLen; omega, rfl, rfl⟩⟩)
  clear hx hlen htc
  go_enter Try.func104, Try.ntmps104
  go_wp2_with (at_builtin
               refine wpList_append_own_at _ rfl _ _ 25 rfl w.heap.size 3 i0 _ 1 8 Try.underlying25 hi hz0 hz1 hz2 rfl (by omega) (.slice (some ⟨w.heap.size, 0, none⟩) 0 0) 0 [] rfl HO.out ⟨bt, offt, none⟩ n c (zs.map (Value.int .i64)) rfl HN1.out HN2.out HN3.out (by unfold maxLen; omega) (by omega) (by simp) ?_
               intro v2 w2 hown2 hg2 _ _
               have hBW := (((Below.refl _ w).alloc (Nat.le_refl _) _).grown hg2 (by simp) (fun k e => by cases e; exact Nat.le_refl _))
               have hown3 := hown2
               rw [Nat.zero_add, List.nil_append] at hown3
               obtain ⟨g, cap, hv2, _, hglt⟩ := hown3.form (by omega)
               subst hv2
               have HBW := Lib.hid hBW
               have HOWN := Lib.hid hown3
               have HGB := Lib.hid ((hown3.lt g rfl).1)
               clear hown2 hg2 hown3 hBW hglt)
  clear hi hz0 hz1 hz2
  go_loopw [4] (fun i wr => ∃ k : Nat, k ≤ n ∧ i = .int .i64 k ∧ wr.ownsRow w.heap.size 3 1 (.slice (some ⟨g, 0, none⟩) n cap) n ((mix (flat zs) zs k).map (Value.int .i64)) ∧ Below w.heap.size w wr) (fun i _ => n - (intOf i).toNat)
  case atStart => exact ⟨0, Nat.zero_le _, rfl, by rw [mix_zero]; exact HOWN.out, HBW.out⟩
  case round =>
    obtain ⟨k, hk, rfl, hR, hBr⟩ := hrel
    have HRQ := Lib.hid hR
    have HBR := Lib.hid hBr
    clear hR hBr
    by_cases hlt : k < n
    · have k1 : k < zs.length := by have := HLX.out; omega
      have ccell := HRQ.out.cellAt k (by omega)
      have cfro := HRQ.out.frozenAt k
      have cst := HRQ.out.stored k (.int .i64 (-1))
      have hm : (((mix (flat zs) zs k).map (Value.int .i64)))[k]? = some (.int .i64 zs[k]) := by
        rw [List.getElem?_map, mix_at (flat_length zs) k1]; rfl
      rw [hm] at ccell
      have hfa := flat_at k1
      have hstep := mix_step (flat_length zs) k1
      have hsame := mix_same (flat_length zs) k1
      rw [hfa] at hstep hsame
      obtain ⟨z, hzz⟩ : ∃ z, zs[k] = z := ⟨_, rfl⟩
      rw [hzz] at ccell hstep hsame
      clear hm hfa hzz
      by_cases hneg : z < 0
      · rw [if_pos hneg] at hstep
        have HX : Hid ((wr.setCell ⟨g, k, none⟩ (.int .i64 (-1))).ownsRow w.heap.size 3 1 (.slice (some ⟨g, 0, none⟩) n cap) n ((mix (flat zs) zs (k + 1)).map (Value.int .i64)) ∧ Below w.heap.size w (wr.setCell ⟨g, k, none⟩ (.int .i64 (-1)))) := by
          refine ⟨?_, HBR.out.setCell (p := ⟨g, k, none⟩) HGB.out _⟩
          have h := cst.1
          rw [set_map_int, hstep] at h
          exact h
        clear hstep hsame cst
        go_wp2
        go_roundw
        case rel => exact ⟨k + 1, by omega, by go_num, HX.out.1, HX.out.2⟩
        case measure => simp [intOf]; omega
      · rw [if_neg hneg] at hsame
        have HX := Lib.hid (hsame rfl)
        clear hstep hsame cst
        go_wp2
        go_roundw
        case rel => exact ⟨k + 1, by omega, by go_num, by rw [HX.out]; exact HRQ.out, HBR.out⟩
        case measure => simp [intOf]; omega
    · obtain rfl : k = n := by omega
      go_wp2
      go_ret
      refine ⟨_, _, rfl, ?_, HBR.out⟩
      have h := HRQ.out
      rw [HLX.out, mix_all (flat_length zs), ← HLX.out] at h
      obtain ⟨A', c', e, hI⟩ := row_ints h hn
      cases e
      exact hI

set_option maxHeartbeats 1000000 in
theorem refShape_bad (As At : Option Addr) (ns cs nt ct : Nat) (ss : Sg) (zs : List Int) (w : World) (hs : SigAt w w.heap.size As ns ss) (ht : IntsAt w w.heap.size At nt zs) (hv : valOk ss zs = false) :
    Calls Try.prog 25 #[.slice As ns cs, .slice At nt ct] w (RetT w [] 1) := by
  have C := Lib.hid (refValid_any As At ns cs nt ct ss zs w _ hs ht)
  have HV := Lib.hid hv
  clear hv hs ht
  go_enter Try.func25, Try.ntmps25
  go_wp2_with (go_at_call 101; refine C.out.mono ?_; rintro e w1 ⟨rfl, j, rfl⟩; rw [HV.out])
  go_ret2
  exact ⟨none, 0, 0, rfl, IntsAt.nil _ _ 0, below_drewN (Below.refl _ _) _⟩

set_option maxHeartbeats 1000000 in
theorem refShape_ok (As At : Option Addr) (ns cs nt ct : Nat) (ss : Sg) (zs : List Int) (w : World) (hs : SigAt w w.heap.size As ns ss) (ht : IntsAt w w.heap.size At nt zs) (hv : valOk ss zs = true) :
    Calls Try.prog 25 #[.slice As ns cs, .slice At nt ct] w (RetT w (flat zs) 0) := by
  have C := Lib.hid (refValid_any As At ns cs nt ct ss zs w _ hs ht)
  have HD : Hid (∀ k, Below w.heap.size w (w.drewN k)) := fun k => below_drewN (Below.refl _ _) k
  obtain ⟨a1, a2, a3, _⟩ := valOk_term hv
  rw [← ht.len] at a1 a2
  have C3 := Lib.hid (fun (w1 : World) (hB : Below w.heap.size w w1) => flat_any At nt ct zs w1 (ht.up hB) a1 (by omega))
  have HV := Lib.hid hv
  clear hv hs ht a3
  go_enter Try.func25, Try.ntmps25
  go_wp2_with (first
    | (go_at_call 101; refine C.out.mono ?_; rintro e w1 ⟨rfl, j1, rfl⟩; rw [HV.out])
    | (go_at_call 104; ((with_reducible refine (C3.out _ (HD.out _)).mono ?_); rintro e w3 ⟨B1, d1, rfl, hI, hB3⟩; have HB3 := Lib.hid (below_then (HD.out _) hB3); have HI := Lib.hid hI; clear hB3 hI)))
  go_ret2
  exact ⟨_, _, _, rfl, HI.out, HB3.out⟩

end Go.Proofs.Ytgbfccbnbgbknaa
