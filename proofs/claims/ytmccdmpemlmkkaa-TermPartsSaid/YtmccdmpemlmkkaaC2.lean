/- Contracts: slices.Grow of nil, slices.Concat, at Term. -/
import Derived.Test.YtmccdmpemlmkkaaB4
import Derived.Lib.AppendZerosOnto
import Derived.Lib.Walk
namespace Go.Proofs.Ytmccdmpemlmkkaa
open Go.RowKit

set_option maxRecDepth 100000 in
set_option maxHeartbeats 1000000 in
theorem grow_nil (n : Nat) (w : World) (h1 : 1 ≤ n) (h2 : n ≤ 1000000) :
    Calls Try.prog 74 #[.slice none 0 0, .int .i64 n] w fun e w' => ∃ c, e = .returned (.slice (some ⟨w.heap.size, 0, none⟩) 0 c) ∧ w'.ownsRow w.heap.size 3 1 (.slice (some ⟨w.heap.size, 0, none⟩) 0 c) 0 [] ∧ Below w.heap.size w w' := by
  obtain ⟨i0, hi, hz0, hz1, hz2⟩ := info_parts info_int
  have hold : (Builtin.firstCells i0.size 0 (.slice none 0 0)).run Try.prog w.drew = .ok #[] w.drew := run_firstCells_none w.drew i0.size 0 0 0
  have hrz : ∀ ty, (Builtin.append_ #[25, 3] ty #[.slice none 0 0, .int .i64 (n : Int)]).run Try.prog w =
      .ok (.slice (some ⟨w.heap.size, 0, none⟩) (0 + n) (grownCap w (0 + n) 0 3)) (w.drew.alloc (.cells (#[] ++ Builtin.zeroCells (Value.int .i64 0).cells n ++ Builtin.zeroCells (Value.int .i64 0).cells (grownCap w (0 + n) 0 3 - (0 + n))) 3)) := fun ty =>
    Lib.run_append_grow_zeros w 25 3 ty 3 i0 (.int .i64 0) .i64 .i64 Try.underlying25 Try.underlying3 hi hz0 none 0 0 [] hold n (by omega) (by omega) (by omega) (by omega) (by rw [hz2]; omega)
      (growslice_fits (by omega) (by rw [hz2]; omega))
  have hGn : n ≤ grownCap w (0 + n) 0 3 := by have := grownCap_ge w (0 + n) 0 3; omega
  have hG63 := grownCap_le_maxLen w (0 + n) 0 3 (by unfold maxLen; omega)
  obtain ⟨G, hG⟩ : ∃ G, grownCap w (0 + n) 0 3 = G := ⟨_, rfl⟩
  rw [hG, Nat.zero_add] at hrz
  rw [hG] at hGn hG63
  obtain ⟨cur, hcur⟩ : ∃ cur, #[] ++ Builtin.zeroCells (Value.int .i64 0).cells n ++ Builtin.zeroCells (Value.int .i64 0).cells (G - n) = cur := ⟨_, rfl⟩
  have hsz : cur.size = G * 1 := by
    rw [← hcur]
    have e1 : (Value.int .i64 0).cells.size = 1 := rfl
    simp only [Array.size_append, size_zeroCells, e1, List.size_toArray, List.length_nil]
    omega
  simp only [hcur] at hrz
  have hg0 : (n : Int) > 0 := by omega
  have hg1 : G ≤ 9223372036854775807 := by unfold maxLen at hG63; omega
  have HSZ := Lib.hid hsz
  have HG63 := Lib.hid hG63
  clear hold hi hz0 hz1 hz2 hG hcur hsz hG63
  go_enter Try.func74, Try.ntmps74
  go_wp2_with (at_builtin; refine Lib.wpList_append_run _ rfl _ _ _ _ rfl _ _ rfl rfl _ _ (hrz _) ?_)
  go_ret
  exact ⟨_, rfl, ⟨rfl, .inr ⟨w.heap.size, G, cur, rfl, Nat.le_refl _, heap_alloc_new w.drew _, by omega, HG63.out, HSZ.out, rfl⟩⟩, ((Below.refl _ w).drew).alloc (Nat.le_refl _) _⟩

theorem TermsAt.hdAt {w : World} {B n : Nat} {A : Option Addr} {ls : List Hd} {tt : List (List Int)} (h : TermsAt w B A n ls tt) (hso : ∀ x ∈ ls, ∃ b off, x.1 = some ⟨b, off, none⟩) {k : Nat} (hk : k < n) :
    ∃ b off b' off' n' c' t', A = some ⟨b, off, none⟩ ∧ b < B ∧ w.cell? ⟨b, off + k, none⟩ = some (.slice (some ⟨b', off', none⟩) n' c') ∧ tt[k]? = some t' ∧ IntsAt w B (some ⟨b', off', none⟩) n' t' := by
  obtain ⟨b, off, e, hb, hc⟩ := h.hds.mem (by omega)
  have h1 : k < ls.length := by rw [← h.hds.len]; exact hk
  have h2 : k < tt.length := by rw [← h.len]; exact hk
  obtain ⟨b', off', e'⟩ := hso _ (List.getElem_mem h1)
  have h3 := h.each k h1 h2
  have h4 := hc k h1
  rw [e'] at h3 h4
  exact ⟨b, off, b', off', _, _, tt[k], e, hb, h4, List.getElem?_eq_getElem h2, h3⟩
def flTo (tt : List (List Int)) (k : Nat) : List Int := (tt.take k).flatten
theorem flTo_succ {tt : List (List Int)} {k : Nat} {t : List Int} (h : tt[k]? = some t) : flTo tt (k + 1) = flTo tt k ++ t := by
  obtain ⟨hk, rfl⟩ := List.getElem?_eq_some_iff.1 h
  unfold flTo
  rw [List.take_succ_eq_append_getElem hk, List.flatten_append]
  simp
theorem flTo_all {tt : List (List Int)} {k : Nat} (h : tt.length ≤ k) : flTo tt k = tt.flatten := by
  unfold flTo; rw [List.take_of_length_le h]
theorem flTo_le (tt : List (List Int)) (k : Nat) : (flTo tt k).length ≤ tt.flatten.length := by
  have : tt.flatten = flTo tt k ++ (tt.drop k).flatten := by
    unfold flTo
    rw [← List.flatten_append, List.take_append_drop]
  rw [this, List.length_append]
  omega
theorem ints_news' {W : World} {B n b off : Nat} {t : List Int} (h : IntsAt W B (some ⟨b, off, none⟩) n t) : ∀ j u, (t.map (Value.int .i64))[j]? = some u → W.cell? ((⟨b, off, none⟩ : Addr).add j) = some u := by
  rcases Nat.eq_zero_or_pos n with h0 | h0
  · have : t = [] := List.eq_nil_of_length_eq_zero (by rw [← h.len]; exact h0)
    subst this
    intro j u hu
    simp at hu
  · exact ints_news h rfl h0

set_option maxRecDepth 100000 in
set_option maxHeartbeats 2000000 in
theorem concat_any (A : Option Addr) (n c : Nat) (ls : List Hd) (tt : List (List Int)) (w : World) (ht : TermsAt w w.heap.size A n ls tt) (hso : ∀ x ∈ ls, ∃ b off, x.1 = some ⟨b, off, none⟩) (hn : n ≤ 1000) (h1 : 1 ≤ tt.flatten.length) (h2 : tt.flatten.length ≤ 1000) :
    Calls Try.prog 56 #[.slice A n c] w fun e w' => ∃ v, e = .returned v ∧ w'.ownsRow w.heap.size 3 1 v tt.flatten.length (tt.flatten.map (Value.int .i64)) ∧ Below w.heap.size w w' := by
  obtain ⟨i0, hi, hz0, hz1, hz2⟩ := info_parts info_int
  have HT := Lib.hid ht
  have HLT := Lib.hid ht.len
  have HSO := Lib.hid hso
  have HFA := Lib.hid (flTo_all (tt := tt) (k := n) (by rw [← ht.len]; exact Nat.le_refl _))
  have HFL := Lib.hid (fun k => flTo_le tt k)
  have HFS := Lib.hid (fun k t (h : tt[k]? = some t) => flTo_succ h)
  have HF0 := Lib.hid (show flTo tt 0 = [] from rfl)
  obtain ⟨F, hF⟩ : ∃ F, tt.flatten = F := ⟨_, rfl⟩
  rw [hF] at h1 h2 HFA HFL ⊢
  obtain ⟨fl, hfl⟩ : ∃ fl, flTo tt = fl := ⟨_, rfl⟩
  simp only [hfl] at HFA HFL HFS HF0
  clear ht hso hF hfl
  go_enter Try.func56, Try.ntmps56
  go_wp2
  go_loop [3, 11] (fun s i => ∃ k : Nat, k ≤ n ∧ i = .int .i64 k ∧ s = .int .i64 ((fl k).length : Nat)) (fun _ i => n - (intOf i).toNat)
  case atStart => exact ⟨0, Nat.zero_le _, rfl, by rw [HF0.out]; rfl⟩
  case round =>
    obtain ⟨k, hk, rfl, rfl⟩ := hrel
    have hfl := HFL.out k
    by_cases hlt : k < n
    · obtain ⟨b, off, b', off', n', c', t, rfl, hb, q1, q2, hI⟩ := HT.out.hdAt HSO.out hlt
      have hs := HFS.out k t q2
      have hfl2 := HFL.out (k + 1)
      have hnl := hI.len
      rw [hs, List.length_append] at hfl2
      have H := Lib.hid (show (fl (k + 1)).length = (fl k).length + n' by rw [hs, List.length_append, hnl])
      have hk0 : (0 : Int) ≤ (k : Int) := by omega
      have hk1 : (k : Int) < (n : Int) := by omega
      have hn' : n' ≤ 1000 := by omega
      obtain ⟨L, hL⟩ : ∃ L, (fl k).length = L := ⟨_, rfl⟩
      rw [hL] at H hfl
      rw [hL]
      have hnn : ¬ ((L : Int) + (n' : Int) < 0) := by omega
      clear q2 hI hs hfl2 hnl hL
      go_wp2
      go_round
      case rel => exact ⟨k + 1, by omega, by go_num, by rw [H.out]; go_num⟩
      case measure => simp [intOf]; omega
    · obtain rfl : k = n := by omega
      rw [HFA.out]
      have G := Lib.hid (grow_nil F.length w h1 (by omega))
      clear hfl
      go_wp2_with (go_at_call 74; refine G.out.mono ?_; rintro e w1 ⟨c1, rfl, hrow, hB⟩; have HROW := Lib.hid hrow; have HB := Lib.hid hB; clear hrow hB)
      go_loopw [6, 27] (fun v i wr => ∃ (j : Nat) (Av : Option Addr) (cv : Nat), j ≤ k ∧ i = .int .i64 j ∧ v = .slice Av (fl j).length cv ∧ wr.ownsRow w.heap.size 3 1 (.slice Av (fl j).length cv) (fl j).length ((fl j).map (Value.int .i64)) ∧ Below w.heap.size w wr) (fun _ i _ => k - (intOf i).toNat)
      case atStart => exact ⟨0, some ⟨w.heap.size, 0, none⟩, c1, Nat.zero_le _, rfl, by rw [HF0.out]; rfl, by rw [HF0.out]; exact HROW.out, HB.out⟩
      case round =>
        obtain ⟨j, Av, cv, hj, rfl, rfl, hown, hB5⟩ := hrel
        have HB5 := Lib.hid hB5
        have hcl := HFL.out j
        by_cases hlt2 : j < k
        · obtain ⟨b, off, b2, off2, n', c', t, rfl, hb, q1, q2, hI⟩ := HT.out.hdAt HSO.out hlt2
          have q3 := (hB5.cell (p := ⟨b, off + j, none⟩) hb).trans q1
          have hs := HFS.out j t q2
          have hfl2 := HFL.out (j + 1)
          have hI' := hI.below hB5
          have hnl := hI'.len
          rw [hs, List.length_append] at hfl2
          have HN1 := Lib.hid (ints_news' hI')
          have HN2 := Lib.hid (ints_one t)
          have HN0 := Lib.hid (show (t.map (Value.int .i64)).length = n' * 1 by simp; omega)
          have H := Lib.hid hs
          have hn60 : n' ≤ 1000 := by omega
          have HNL := Lib.hid hnl
          have hj0 : (0 : Int) ≤ (j : Int) := by omega
          have hj1 : (j : Int) < (k : Int) := by omega
          clear q1 q2 hI hI' hB5 hnl hs hfl2
          obtain ⟨V, hV⟩ : ∃ V, fl j = V := ⟨_, rfl⟩
          rw [hV] at hown hcl H
          rw [hV]
          obtain ⟨L, hL⟩ : ∃ L, V.length = L := ⟨_, rfl⟩
          rw [hL] at hown hcl
          rw [hL]
          have HLL := Lib.hid hL
          have HOWN := Lib.hid hown
          clear hV hL hown
          go_wp2_with (at_builtin
                       refine wpList_append_own_at _ rfl _ _ 25 rfl w.heap.size 3 i0 _ 1 8 Try.underlying25 hi hz0 hz1 hz2 rfl (by omega) _ _ _ rfl HOWN.out ⟨b2, off2, none⟩ n' c' (t.map (Value.int .i64)) rfl HN0.out HN1.out HN2.out (by unfold maxLen; omega) (by omega) HB5.out.size ?_
                       intro v1 w6 hown1 hg1 hnil _
                       have HB6 := Lib.hid (HB5.out.grown hg1 HB5.out.size (fun j e => (HOWN.out.lt j e).1))
                       have hform : ∃ A1 cap1, v1 = .slice A1 (L + n') cap1 := by
                         obtain ⟨_, ⟨rfl, h0⟩ | ⟨g, cap, cur, rfl, _⟩⟩ := hown1
                         · exact ⟨none, 0, by rw [h0]⟩
                         · exact ⟨_, _, rfl⟩
                       obtain ⟨A1, cap1, hv1⟩ := hform
                       subst hv1
                       have HOWN1 := Lib.hid hown1
                       clear hown1 hg1 hnil)
          go_roundw
          case rel => exact ⟨j + 1, A1, cap1, by omega, by go_num, by rw [H.out, List.length_append, HLL.out, HNL.out], by rw [H.out, List.length_append, HLL.out, List.map_append, ← HNL.out]; exact HOWN1.out, HB6.out⟩
          case measure => simp [intOf]; omega
        · obtain rfl : j = k := by omega
          rw [HFA.out] at hown
          rw [HFA.out]
          have HOWN := Lib.hid hown
          clear hown hB5
          go_wp2
          go_ret
          exact ⟨_, rfl, HOWN.out, HB5.out⟩

end Go.Proofs.Ytmccdmpemlmkkaa
