/- The walk of FindPermuted. -/
import Derived.Test.YtcegbmibpkopaaaFOg
import Derived.Test.YtcegbmibpkopaaaFEg
import Derived.Test.YtcegbmibpkopaaaAPg
namespace Go.Proofs.Ytcegbmibpkopaaa
open Go.RowKit

/-- Rows of rows read as lists. -/
theorem GRow.terms {w : World} {base m c : Nat} {A : Option Addr} {hs : List Hd} {gg : List (List Int)} (h : GRow w base (.slice A m c) m hs gg) (hm : m ≤ 1000000) (hb : ∀ (j : Nat) (g : List Int), gg[j]? = some g → g.length ≤ 1000000) : TermsAt w w.heap.size A m hs gg := by
  have hll := h.ll
  have hlen := h.len
  refine ⟨⟨hll.symm, by omega, fun h0 => ?_⟩, hlen.symm, fun j a b => ?_⟩
  · obtain ⟨g, cap, e, _, hlt⟩ := h.row.form h0
    cases e
    refine ⟨g, 0, rfl, hlt, fun j hj => ?_⟩
    rw [Nat.zero_add, h.row.cellAt j (by omega), List.getElem?_map, List.getElem?_eq_getElem hj]
    rfl
  · have hr := h.each j _ _ (List.getElem?_eq_getElem a) (List.getElem?_eq_getElem b)
    obtain ⟨A', c', e, hI⟩ := row_ints hr (hb j _ (List.getElem?_eq_getElem b))
    obtain ⟨e1, e2, _⟩ := Value.slice.inj (show Value.slice hs[j].1 hs[j].2.1 hs[j].2.2 = .slice A' gg[j].length c' from e)
    rw [e1, e2]
    exact hI

theorem shOk_turn {ss : Sg} {tt : List (List Int)} {k : Nat} (hk : k ≤ tt.length) : shOk ss (tt.drop k ++ tt.take k) = shOk ss tt := by
  have hl : (tt.drop k ++ tt.take k).length = tt.length := by rw [List.length_append, List.length_drop, List.length_take]; omega
  unfold shOk
  rw [hl]
  congr 1
  rw [List.all_append, Bool.and_comm, ← List.all_append, List.take_append_drop]
theorem turn_get {tt : List (List Int)} {k i : Nat} (hk : k < tt.length) (hi : i < tt.length) : (tt.drop k ++ tt.take k).getD i [] = tt.getD ((i + k) % tt.length) [] := by
  rw [List.getD_eq_getElem?_getD, List.getD_eq_getElem?_getD]
  congr 1
  by_cases h : i < tt.length - k
  · rw [List.getElem?_append_left (by rw [List.length_drop]; omega), List.getElem?_drop, Nat.mod_eq_of_lt (by omega), Nat.add_comm]
  · rw [List.getElem?_append_right (by rw [List.length_drop]; omega), List.length_drop, List.getElem?_take, if_pos (by omega), Nat.mod_eq_sub_mod (by omega), Nat.mod_eq_of_lt (by omega)]
    congr 1
    omega
/-- A shelf turned: the error, and the groups. -/
theorem turnedZ {ss : Sg} {tt : List (List Int)} {k : Nat} (hk : k < tt.length) : (grpZ ss (tt.drop k ++ tt.take k) canon).2 = (grpZ ss tt canon).2 ∧ (grpZ ss (tt.drop k ++ tt.take k) canon).1.length = (grpZ ss tt canon).1.length ∧
    (∀ (i : Nat) (gb : List Int), (grpZ ss (tt.drop k ++ tt.take k) canon).1[i]? = some gb → sameJ (grpZ ss tt canon).1 gb k tt.length (grpZ ss tt canon).1.length = true ∧ ∀ z ∈ gb, 0 ≤ z ∧ z < (tt.length : Int)) ∧
    ((grpZ ss tt canon).1.length ≤ tt.length ∧ (∀ (j : Nat) (g : List Int), (grpZ ss tt canon).1[j]? = some g → g.length ≤ tt.length) ∧ ∀ (j : Nat) (g : List Int), (grpZ ss (tt.drop k ++ tt.take k) canon).1[j]? = some g → g.length ≤ tt.length) := by
  have hl : (tt.drop k ++ tt.take k).length = tt.length := by rw [List.length_append, List.length_drop, List.length_take]; omega
  unfold grpZ
  rw [shOk_turn (by omega), hl]
  cases shOk ss tt
  · simp
  · simp only [if_true]
    have e : grpS (fun i => canon ((tt.drop k ++ tt.take k).getD i [])) tt.length = grpS (fun i => (fun i => canon (tt.getD i [])) ((i + k) % tt.length)) tt.length := grpS_congr fun i hi => by simp only [turn_get hk hi]
    rw [e]
    obtain ⟨h1, h2⟩ := turned (fs := fun i => canon (tt.getD i [])) hk
    first
      | exact ⟨rfl, h1, h2, (grpS_len _ _).2, grpS_each _ _, grpS_each _ _⟩
      | exact ⟨trivial, h1, h2, (grpS_len _ _).2, grpS_each _ _, grpS_each _ _⟩
      | exact ⟨h1, h2, (grpS_len _ _).2, grpS_each _ _, grpS_each _ _⟩

theorem rot_idx40 (x : Int) (n : Nat) (h1 : 1 ≤ n) (h40 : n ≤ 40) : ∃ k : Nat, k < n ∧ (wrap64 (x.tmod (n : Int) + (n : Int))).tmod (n : Int) = (k : Int) := rot_idx x n h1 (by omega)
theorem mod_idx (z k n : Nat) : ((z : Int) + (k : Int)).tmod (n : Int) = (((z + k) % n : Nat) : Int) := by
  rw [Int.tmod_eq_emod_of_nonneg (by omega)]
  simp

set_option maxRecDepth 100000 in
set_option maxHeartbeats 4000000 in
theorem perm_small (As At : Option Addr) (ns cs n c : Nat) (at' : Int) (ls : List Hd) (w : World) (ht : HdsAt w w.heap.size At n ls) (h : fewB ns n 40 ls = false ∨ n = 0) :
    Calls Try.prog 15 #[.slice As ns cs, .slice At n c, .int .i64 at'] w fun e w' => e = .returned (.bool true) ∧ Below w.heap.size w w' := by
  have C1 := Lib.hid (few5_any As At ns cs n c 40 ls w _ ht)
  cases h1 : fewB ns n 40 ls
  · rw [h1] at C1
    clear ht h h1
    go_enter Try.func15, Try.ntmps15
    go_wp2_with (first
      | (go_at_call 53; refine C1.out.mono ?_; rintro e w' ⟨rfl, rfl⟩)
      | (go_at_call 54; refine (awakeF_any _).mono ?_; rintro e w3 ⟨rfl, hB3⟩; have HB3 := Lib.hid hB3; clear hB3))
    go_ret
    exact ⟨rfl, HB3.out⟩
  · rw [h1] at h C1
    have h0 : n = 0 := by rcases h with h | h; cases h; exact h
    subst h0
    clear ht h h1
    go_enter Try.func15, Try.ntmps15
    go_wp2_with (first
      | (go_at_call 53; refine C1.out.mono ?_; rintro e w' ⟨rfl, rfl⟩)
      | (go_at_call 54; refine (awakeF_any _).mono ?_; rintro e w3 ⟨rfl, hB3⟩; have HB3 := Lib.hid hB3; clear hB3))
    go_ret
    exact ⟨rfl, HB3.out⟩

set_option maxRecDepth 100000 in
set_option maxHeartbeats 8000000 in
theorem perm_ok (As At : Option Addr) (ns cs n c : Nat) (at' : Int) (ss : Sg) (ls : List Hd) (tt : List (List Int)) (w : World) (hs : SigAt w w.heap.size As ns ss) (ht : TermsAt w w.heap.size At n ls tt) (hk : n ≤ c ∧ c ≤ 9223372036854775807) (hf : fewB ns n 40 ls = true) (hn1 : 1 ≤ n) :
    Calls Try.prog 15 #[.slice As ns cs, .slice At n c, .int .i64 at'] w fun e w' => e = .returned (.bool true) ∧ Below w.heap.size w w' := by
  obtain ⟨i1, hi1, hy0, hy1, hy2⟩ := info_parts info_termC
  have h40 : n ≤ 40 := by
    unfold fewB at hf
    rw [Bool.and_eq_true, decide_eq_true_eq] at hf
    omega
  have C1 := Lib.hid (few5_any As At ns cs n c 40 ls w _ ht.hds)
  rw [hf] at C1
  have C2 := Lib.hid (fGroups_any As At ns cs n c ss ls tt w hs ht (by omega))
  have hlt := ht.len
  have hll := ht.hds.len
  have hne0 : ((n : Int) == 0) = false := by simp; omega
  obtain ⟨k, hkn, hkv⟩ := rot_idx40 at' n hn1 h40
  have HKV := Lib.hid hkv
  obtain ⟨b, off, rfl, hb, hcells⟩ := ht.hds.mem (by omega)
  have HL1 := Lib.hid (show (hdV (ls.drop k)).length = (n - k) * 1 by simp [hdV]; omega)
  have HL2 := Lib.hid (show (hdV (ls.take k)).length = k * 1 by simp [hdV]; omega)
  have HW1 := Lib.hid (show ∀ V, Below w.heap.size w V → ∀ j u, (hdV (ls.drop k))[j]? = some u → V.cell? ((⟨b, off + k, none⟩ : Addr).add j) = some u from fun V hV j u hu => by
    unfold hdV at hu
    rw [List.getElem?_map, List.getElem?_drop, Option.map_eq_some_iff] at hu
    obtain ⟨x, hx, rfl⟩ := hu
    obtain ⟨hj, rfl⟩ := List.getElem?_eq_some_iff.1 hx
    rw [add0, hV.cell (p := ⟨b, off + k + j, none⟩) hb, show off + k + j = off + (k + j) by omega]
    exact hcells (k + j) hj)
  have HW2 := Lib.hid (show ∀ V, Below w.heap.size w V → ∀ j u, (hdV (ls.take k))[j]? = some u → V.cell? ((⟨b, off, none⟩ : Addr).add j) = some u from fun V hV j u hu => by
    unfold hdV at hu
    rw [List.getElem?_map, Option.map_eq_some_iff] at hu
    obtain ⟨x, hx, rfl⟩ := hu
    have hjk : j < k := by
      by_cases h : j < k
      · exact h
      · rw [List.getElem?_take, if_neg h] at hx; cases hx
    rw [List.getElem?_take, if_pos hjk] at hx
    obtain ⟨hj, rfl⟩ := List.getElem?_eq_some_iff.1 hx
    rw [add0, hV.cell (p := ⟨b, off + j, none⟩) hb]
    exact hcells j hj)
  have hul : (tt.drop k ++ tt.take k).length = tt.length := by rw [List.length_append, List.length_drop, List.length_take]; omega
  have HROW := Lib.hid (show ∀ (V : World) (g cap B : Nat), Below w.heap.size w V → V.ownsRow B 25 1 (.slice (some ⟨g, 0, none⟩) (0 + (n - k) + k) cap) (0 + (n - k) + k) ([] ++ hdV (ls.drop k) ++ hdV (ls.take k)) →
      TermsAt V V.heap.size (some ⟨g, 0, none⟩) (0 + (n - k) + k) (ls.drop k ++ ls.take k) (tt.drop k ++ tt.take k) ∧ 0 + (n - k) + k ≤ cap ∧ cap ≤ 9223372036854775807 from fun V g cap B hV hown => by
    have hh : hdV (ls.drop k ++ ls.take k) = [] ++ hdV (ls.drop k) ++ hdV (ls.take k) := by unfold hdV; rw [List.map_append, List.nil_append]
    rw [← hh] at hown
    refine row_terms hown (by omega) (by omega) (by rw [hul]; omega) (by rw [List.length_append, List.length_drop, List.length_take]; omega) fun j a b => ?_
    have key : ∀ (i : Nat) (a' : i < ls.length) (b' : i < tt.length), IntsAt V V.heap.size ls[i].1 ls[i].2.1 tt[i] := fun i a' b' => (ht.each i a' b').up hV
    by_cases hj : j < n - k
    · have e1 : (ls.drop k ++ ls.take k)[j] = ls[k + j]'(by omega) := by rw [List.getElem_append_left (by rw [List.length_drop]; omega), List.getElem_drop]
      have e2 : (tt.drop k ++ tt.take k)[j] = tt[k + j]'(by omega) := by rw [List.getElem_append_left (by rw [List.length_drop]; omega), List.getElem_drop]
      rw [e1, e2]
      exact key _ _ _
    · have hjl : j < n := by rw [List.length_append, List.length_drop, List.length_take] at a; omega
      have e1 : (ls.drop k ++ ls.take k)[j] = ls[j - (n - k)]'(by omega) := by
        rw [List.getElem_append_right (by rw [List.length_drop]; omega), List.getElem_take]
        congr 1
        rw [List.length_drop]; omega
      have e2 : (tt.drop k ++ tt.take k)[j] = tt[j - (n - k)]'(by omega) := by
        rw [List.getElem_append_right (by rw [List.length_drop]; omega), List.getElem_take]
        congr 1
        rw [List.length_drop]; omega
      rw [e1, e2]
      exact key _ _ _)
  have C9 := Lib.hid (fun (V : World) (A : Option Addr) (n9 c9 : Nat) (h : Below w.heap.size w V) (hT : TermsAt V V.heap.size A n9 (ls.drop k ++ ls.take k) (tt.drop k ++ tt.take k)) => fGroups_any As A ns cs n9 c9 ss _ _ V (hs.up h) hT (by have := hT.len; rw [hul] at this; omega))
  obtain ⟨t1, t2, t3, t4, t5, t6⟩ := turnedZ (ss := ss) (tt := tt) (k := k) (by omega)
  rw [← hlt] at t3 t4 t5 t6
  obtain ⟨G1, hG1⟩ : ∃ G, grpZ ss tt canon = G := ⟨_, rfl⟩
  obtain ⟨G2, hG2⟩ : ∃ G, grpZ ss (tt.drop k ++ tt.take k) canon = G := ⟨_, rfl⟩
  simp only [hG1] at C2 t1 t2 t3 t4 t5
  simp only [hG2] at C9 t1 t2 t3 t6
  obtain ⟨ga, ea⟩ := G1
  obtain ⟨gz, ez⟩ := G2
  simp only at C2 C9 t1 t2 t3 t4 t5 t6
  subst t1
  have HT3 := Lib.hid t3
  have HT5 := Lib.hid t5
  have HT6 := Lib.hid t6
  obtain ⟨hk1, hk2⟩ := hk
  have hkc : k ≠ c := by omega
  have hkc' : c ≠ k := by omega
  have hck : k ≤ c := by omega
  have hc0 : c ≠ 0 := by omega
  have hkn' : k ≤ n := by omega
  have hckI : (k : Int) ≤ (c : Int) := by omega
  have hknI : (k : Int) ≤ (n : Int) := by omega
  have hk0I : (0 : Int) ≤ (k : Int) := by omega
  have hc0' : 0 ≠ c := by omega
  have hee : (ez != ez) = false := by simp
  clear hs ht hf hlt hll hb hcells hul hkv t3 t5 t6 hG1 hG2
  go_enter Try.func15, Try.ntmps15
  go_upto_region 6 with (first
    | (go_at_call 53; refine C1.out.mono ?_; rintro e w' ⟨rfl, rfl⟩)
    | (go_at_call 69; refine C2.out.mono ?_; rintro e V6 ⟨A1, m1, c1, hs1, rfl, hGR1, hB1⟩; have HGR1 := Lib.hid hGR1; have HB6 := Lib.hid hB1; clear hGR1 hB1))
  rw [HKV.out]
  have HB7 := Lib.hid (show Below V6.heap.size V6 (V6.alloc (.cells #[] 25)).drew from below_drewN (bel_al (Below.refl V6.heap.size V6) _) 1)
  have HB7w := Lib.hid (below_then HB6.out HB7.out)
  have HO := Lib.hid (show (V6.alloc (.cells #[] 25)).drew.ownsRow V6.heap.size 25 1 (.slice (some ⟨V6.heap.size, 0, none⟩) 0 0) 0 [] from
    ⟨rfl, .inr ⟨V6.heap.size, 0, #[], rfl, Nat.le_refl _, heap_alloc_new V6 _, Nat.le_refl _, by unfold maxLen; omega, rfl, rfl⟩⟩)
  go_region_held3 (fun _ => True) (first | trivial | assumption)
    (first
    | (refine step_append_any (by rfl) _ _ 49 (by rfl) V6.heap.size 25 i1 _ 1 24 Try.underlying49 hi1 hy0 hy1 hy2 (by rfl) (by omega) (.slice (some ⟨V6.heap.size, 0, none⟩) 0 0) 0 [] (by rfl) HO.out ⟨b, off + k, none⟩ (n - k) (c - k) (hdV (ls.drop k)) (by rfl) HL1.out (HW1.out _ HB7w.out) (hdV_one _) (by omega) (by unfold maxLen; omega) (by omega) HB7.out.size ?_
       intro g8 cap8 V8 hown8 hg8 hge8
       have hB8 : Below V6.heap.size V6 V8 := HB7.out.grown hg8 HB7.out.size (fun k e => by cases e; exact Nat.le_refl _)
       have HOWN8 := Lib.hid hown8
       have HG8 := Lib.hid hge8
       have HB68 := Lib.hid hB8
       have HB8 := Lib.hid (below_then HB6.out hB8)
       clear hown8 hg8 hB8 hge8)
    | (refine step_append_any (by rfl) _ _ 49 (by rfl) V6.heap.size 25 i1 _ 1 24 Try.underlying49 hi1 hy0 hy1 hy2 (by rfl) (by omega) (.slice (some ⟨g8, 0, none⟩) (0 + (n - k)) cap8) (0 + (n - k)) ([] ++ hdV (ls.drop k)) (by rfl) HOWN8.out ⟨b, off, none⟩ k c (hdV (ls.take k)) (by rfl) HL2.out (HW2.out _ HB8.out) (hdV_one _) (by omega) (by unfold maxLen; omega) (by omega) HB68.out.size ?_
       intro g9 cap9 V9 hown9 hg9 hge9
       have hB9 : Below V6.heap.size V6 V9 := HB68.out.grown hg9 HB68.out.size (fun k e => by cases e; exact HG8.out)
       obtain ⟨hT9, hc9⟩ := HROW.out V9 g9 cap9 V6.heap.size (below_then HB6.out hB9) hown9
       rw [show 0 + (n - k) + k = n from by omega] at hT9 hc9
       have HT9 := Lib.hid hT9
       have HGR9 := Lib.hid (HGR1.out.below hB9)
       have HB8' := Lib.hid (below_then HB6.out hB9)
       clear hown9 hg9 hB9 hge9 hT9 hc9)
    | (go_at_call 69; ((with_reducible refine (C9.out _ _ _ _ HB8'.out HT9.out).mono ?_); rintro e VB ⟨A2, m2, c2, hs2, rfl, hGR2, hBB⟩; have HGR2 := Lib.hid hGR2; have HGRA := Lib.hid (HGR9.out.below hBB); have HB9 := Lib.hid (below_then HB8'.out hBB); clear hGR2 hBB)))
  all_goals
    have hTA := HGRA.out.terms (by have := HGRA.out.len; omega) (fun j g hg => by have := HT5.out j g hg; omega)
    have hTB := HGR2.out.terms (by have := HGR2.out.len; omega) (fun j g hg => by have := HT6.out j g hg; omega)
    have hm1 := HGRA.out.len
    have hm2 := HGR2.out.len
    have hmm : m2 = m1 := by omega
    subst hmm
    have hm40 : m2 ≤ 40 := by omega
    have HTA := Lib.hid hTA
    have HTB := Lib.hid hTB
    have HM := Lib.hid hm1
    have hmb : ((m2 : Int) != (m2 : Int)) = false := by simp
    have hnz : ((n : Int) == 0) = false := hne0
    clear hTA hTB hm1 hm2 t2 t4
    go_wp2
    go_loopw [13] (fun i wr => ∃ q k' : Nat, k' ≤ m2 ∧ i = .int .i64 k' ∧ wr = VB.drewN q) (fun i _ => m2 - (intOf i).toNat)
    case atStart => exact ⟨0, 0, Nat.zero_le _, rfl, rfl⟩
    case round =>
      obtain ⟨q, i, hi, rfl, rfl⟩ := hrel
      by_cases hlti : i < m2
      · obtain ⟨bb, offb, Xb, nb, cb, rfl, hbb, p1, p2⟩ := HTB.out.hds.cellAt hlti
        obtain ⟨gb, gb1, _, hIb⟩ := HTB.out.at p2
        obtain ⟨hsame, hrange⟩ := HT3.out i gb gb1
        have hlb := hIb.len
        have hgb40 := HT6.out i gb gb1
        have HSAME := Lib.hid hsame
        have HRANGE := Lib.hid hrange
        have HIB := Lib.hid hIb
        have HLB := Lib.hid hlb
        have p1' : ∀ z, (VB.drewN z).cell? ⟨bb, offb + i, none⟩ = some (.slice Xb nb cb) := fun _ => p1
        have hi0 : (0 : Int) ≤ (i : Int) := by omega
        have hi1' : (i : Int) < (m2 : Int) := by omega
        have hnb : nb ≤ 40 := by omega
        clear hsame hrange hIb hlb gb1 hgb40 p1 p2
        go_wp2
        go_loopw [14, 15] (fun s jv wr => ∃ q j : Nat, j ≤ m2 ∧ jv = .int .i64 j ∧ s = .bool (sameJ ga gb k n j) ∧ wr = VB.drewN q) (fun _ jv _ => m2 - (intOf jv).toNat)
        case atStart => exact ⟨q, 0, Nat.zero_le _, rfl, rfl, rfl⟩
        case round =>
          obtain ⟨q2, j, hj, rfl, rfl, rfl⟩ := hrel
          by_cases hltj : j < m2
          · obtain ⟨ba, offa, Xa, na, ca, rfl, hba, r1, r2⟩ := HTA.out.hds.cellAt hltj
            obtain ⟨gA, ga1, ga2, hIa⟩ := HTA.out.at r2
            have HIA := Lib.hid hIa
            have r1' : ∀ z, (VB.drewN z).cell? ⟨ba, offa + j, none⟩ = some (.slice Xa na ca) := fun _ => r1
            have hj0 : (0 : Int) ≤ (j : Int) := by omega
            have hj1' : (j : Int) < (m2 : Int) := by omega
            have HSJ := Lib.hid (show sameJ ga gb k n (j + 1) = (sameJ ga gb k n j || okM gA gb k n gb.length) by show (_ || okM (ga.getD j []) gb k n gb.length) = _; rw [ga2])
            have HZ := Lib.hid (show okM gA gb k n 0 = ((na : Int) == (nb : Int)) by
              show decide (gA.length = gb.length) = _
              have := hIa.len
              have := HLB.out
              rw [Bool.eq_iff_iff]
              simp
              omega)
            clear hIa ga1 ga2 r1 r2
            generalize sameJ ga gb k n j = S0 at *
            go_wp2_with fail
            go_quiet (fail)
            go_wp2
            rw [← HZ.out]
            go_loopw [16, 17] (fun l mv wr => ∃ q m : Nat, m ≤ nb ∧ mv = .int .i64 m ∧ l = .bool (okM gA gb k n m) ∧ wr = VB.drewN q) (fun _ mv _ => nb - (intOf mv).toNat)
            case atStart => exact ⟨_, 0, Nat.zero_le _, rfl, rfl, by rw [World.drewN_drewN]⟩
            case round =>
              obtain ⟨q3, m, hm, rfl, rfl, rfl⟩ := hrel
              by_cases hltm : m < nb
              · obtain ⟨bz, offz, z, rfl, c0, k1, e1⟩ := HIB.out.cellAt hltm
                obtain ⟨hz0, hz1⟩ := HRANGE.out z (by rw [← e1]; exact List.getElem_mem k1)
                obtain ⟨zn, rfl⟩ : ∃ zn : Nat, z = (zn : Int) := ⟨z.toNat, by omega⟩
                have hmod := mod_idx zn k n
                have hzn : zn < n := by omega
                obtain ⟨y, hy⟩ : ∃ y : Int, (((zn + k) % n : Nat) : Int) = y := ⟨_, rfl⟩
                obtain ⟨qv, hqv⟩ : ∃ qv, gA.contains y = qv := ⟨_, rfl⟩
                have HN := Lib.hid (show okM gA gb k n (m + 1) = (okM gA gb k n m && qv) by
                  show (okM gA gb k n m && gA.contains (((gb.getD m 0).toNat + k) % n : Nat)) = _
                  rw [List.getD_eq_getElem?_getD, List.getElem?_eq_getElem k1, e1]
                  rw [show (((Option.some (zn : Int)).getD 0).toNat + k) = zn + k from rfl, hy, hqv])
                rw [hy] at hmod
                obtain ⟨WQ, hWQ⟩ : ∃ WQ, VB.drewN q3 = WQ := ⟨_, rfl⟩
                have CH : Hid (∀ j, Calls Try.prog 68 #[.slice Xa na ca, .int .i64 y] (WQ.drewN j) fun e w'' => e = .returned (.bool qv) ∧ ∃ m, w'' = WQ.drewN m) := Lib.hid (fun j => by
                  rw [← hqv]
                  refine (has_any Xa na ca gA y (WQ.drewN j) VB.heap.size (HIA.out.keep fun _ _ => by rw [← hWQ]; rfl)).mono ?_
                  rintro e w'' ⟨rfl, rfl⟩
                  exact ⟨rfl, j, rfl⟩)
                have s1 : WQ.cell? ⟨bb, offb + i, none⟩ = some (.slice (some ⟨bz, offz, none⟩) nb cb) := by rw [← hWQ]; exact p1' _
                have s2 : WQ.cell? ⟨ba, offa + j, none⟩ = some (.slice Xa na ca) := by rw [← hWQ]; exact r1' _
                have s3 : WQ.cell? ⟨bz, offz + m, none⟩ = some (.int .i64 (zn : Int)) := by rw [← hWQ]; exact c0
                have hm0 : (0 : Int) ≤ (m : Int) := by omega
                have hm1' : (m : Int) < (nb : Int) := by omega
                have HWQ := Lib.hid hWQ
                have hw64 : wrap64 ((zn : Int) + (k : Int)) = (zn : Int) + (k : Int) := IntWalk.wrap64_in _ (by omega)
                rw [hWQ]
                clear c0 k1 e1 hqv hy hWQ p1' r1' hz0 hz1
                cases hS : okM gA gb k n m
                · have HF := Lib.hid (show okM gA gb k n (m + 1) = false by rw [HN.out, hS]; rfl)
                  clear hS CH
                  go_wp2_with fail
                  go_quiet (fail)
                  go_wp2
                  go_roundw
                  case rel => exact ⟨_, m + 1, by omega, by go_num, by rw [HF.out], by rw [← HWQ.out, World.drewN_drewN]⟩
                  case measure => simp [intOf]; omega
                · have HF := Lib.hid (show okM gA gb k n (m + 1) = qv by rw [HN.out, hS]; rfl)
                  clear hS
                  go_wp2_with fail
                  go_quiet ((go_at_call 68; with_reducible exact CH.out _))
                  go_wp2
                  go_roundw
                  case rel => exact ⟨_, m + 1, by omega, by go_num, by rw [HF.out], by rw [← HWQ.out, World.drewN_drewN]⟩
                  case measure => simp [intOf]; omega
              · obtain rfl : m = nb := by omega
                have HL := Lib.hid (show sameJ ga gb k n (j + 1) = (S0 || okM gA gb k n m) by rw [HSJ.out, HLB.out])
                generalize okM gA gb k n m = S1 at *
                cases S0 <;> cases S1
                all_goals
                  go_wp2
                  go_roundw
                  case rel => exact ⟨_, j + 1, by omega, by go_num, by rw [HL.out]; rfl, rfl⟩
                  case measure => simp [intOf]; omega
          · obtain rfl : j = m2 := by omega
            have HT := Lib.hid (show sameJ ga gb k n j = true by have := HSAME.out; rw [HM.out] at this; exact this)
            rw [HT.out]
            go_wp2
            go_roundw
            case rel => exact ⟨_, i + 1, by omega, by go_num, rfl⟩
            case measure => simp [intOf]; omega
      · obtain rfl : i = m2 := by omega
        go_wp2_with (go_at_call 54; refine (awakeF_any _).mono ?_; rintro e VX ⟨rfl, hBX⟩; have HBX := Lib.hid (below_then (below_drewN HB9.out _) hBX); clear hBX)
        go_ret
        exact ⟨rfl, HBX.out⟩

theorem perm_walk (As At : Option Addr) (ns cs n c : Nat) (at' : Int) (ss : Sg) (ls : List Hd) (tt : List (List Int)) (w : World) (hs : SigAt w w.heap.size As ns ss) (ht : TermsAt w w.heap.size At n ls tt) (hk : n ≤ c ∧ c ≤ 9223372036854775807) :
    Calls Try.prog 15 #[.slice As ns cs, .slice At n c, .int .i64 at'] w fun e w' => e = .returned (.bool true) ∧ Below w.heap.size w w' := by
  cases hf : fewB ns n 40 ls
  · exact perm_small As At ns cs n c at' ls w ht.hds (.inl hf)
  · by_cases h0 : n = 0
    · exact perm_small As At ns cs n c at' ls w ht.hds (.inr h0)
    · exact perm_ok As At ns cs n c at' ss ls tt w hs ht hk hf (by omega)

end Go.Proofs.Ytcegbmibpkopaaa
