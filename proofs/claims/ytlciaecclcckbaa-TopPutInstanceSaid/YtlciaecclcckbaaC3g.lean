/- Contract: Put. -/
import Derived.Test.YtlciaecclcckbaaB4g
import Derived.Lib.AppendZerosOnto
import Derived.Lib.Walk
import Derived.Test.YtlciaecclcckbaaH8g
import Derived.Deep.RegionHeld3
import Derived.Deep.RegionHeldLaw
/- Contracts: slices.Grow of nil, slices.Concat, at Term. -/
namespace Go.Proofs.Ytlciaecclcckbaa
open Go.RowKit

set_option maxRecDepth 100000 in
set_option maxHeartbeats 1000000 in
theorem grow_nil (n : Nat) (w : World) (h1 : 1 ≤ n) (h2 : n ≤ 1000000) :
    Calls Try.prog 94 #[.slice none 0 0, .int .i64 n] w fun e w' => ∃ c, e = .returned (.slice (some ⟨w.heap.size, 0, none⟩) 0 c) ∧ w'.ownsRow w.heap.size 3 1 (.slice (some ⟨w.heap.size, 0, none⟩) 0 c) 0 [] ∧ Below w.heap.size w w' := by
  obtain ⟨i0, hi, hz0, hz1, hz2⟩ := info_parts info_int
  have hold : (Builtin.firstCells i0.size 0 (.slice none 0 0)).run Try.prog w.drew = .ok #[] w.drew := run_firstCells_none w.drew i0.size 0 0 0
  have hrz : ∀ ty, (Builtin.append_ #[25, 3] ty #[.slice none 0 0, .int .i64 (n : Int)]).run Try.prog w =
      .ok (.slice (some ⟨w.heap.size, 0, none⟩) (0 + n) (grownCap w (0 + n) 0 3)) (w.drew.alloc (.cells (#[] ++ Builtin.zeroCells (Value.int .i64 0).cells n ++ Builtin.zeroCells (Value.int .i64 0).cells (grownCap w (0 + n) 0 3 - (0 + n))) 3)) := fun ty =>
    Lib.run_append_grow_zeros w 25 3 ty 3 i0 (.int .i64 0) .i64 .i64 Try.underlying25 Try.underlying3 hi hz0 none 0 0 [] hold n (by omega) (by omega) (by omega) (by omega) (by rw [hz2]; omega)
      (growslice_fits (by omega) (by rw [hz2]; omega))
  have hGn : n ≤ grownCap w (0 + n) 0 3 := by have := grownCap_ge w (0 + n) 0 3; omega
  have hG63 := grownCap_le_maxLen w (0 + n) 0 3 (by unfold maxLen; omega)
  obtain ⟨G, hG⟩ : ∃ G, grownCap w (0 + n) 0 3 = G := ⟨_, rfl⟩
  rw [hG, Nat.zero_add] at hrz
  rw [hG] at hGn hG63
  obtain ⟨cur, hcur⟩ : ∃ cur, #[] ++ Builtin.zeroCells (Value.int .i64 0).cells n ++ Builtin.zeroCells (Value.int .i64 0).cells (G - n) = cur := ⟨_, rfl⟩
  have hsz : cur.size = G * 1 := by
    rw [← hcur]
    have e1 : (Value.int .i64 0).cells.size = 1 := rfl
    simp only [Array.size_append, size_zeroCells, e1, List.size_toArray, List.length_nil]
    omega
  simp only [hcur] at hrz
  have hg0 : (n : Int) > 0 := by omega
  have hg1 : G ≤ 9223372036854775807 := by unfold maxLen at hG63; omega
  have HSZ := Lib.hid hsz
  have HG63 := Lib.hid hG63
  clear hold hi hz0 hz1 hz2 hG hcur hsz hG63
  go_enter Try.func94, Try.ntmps94
  go_wp2_with (at_builtin; refine Lib.wpList_append_run _ rfl _ _ _ _ rfl _ _ rfl rfl _ _ (hrz _) ?_)
  go_ret
  exact ⟨_, rfl, ⟨rfl, .inr ⟨w.heap.size, G, cur, rfl, Nat.le_refl _, heap_alloc_new w.drew _, by omega, HG63.out, HSZ.out, rfl⟩⟩, ((Below.refl _ w).drew).alloc (Nat.le_refl _) _⟩

theorem TermsAt.hdAt {w : World} {B n : Nat} {A : Option Addr} {ls : List Hd} {tt : List (List Int)} (h : TermsAt w B A n ls tt) (hso : ∀ x ∈ ls, ∃ b off, x.1 = some ⟨b, off, none⟩) {k : Nat} (hk : k < n) :
    ∃ b off b' off' n' c' t', A = some ⟨b, off, none⟩ ∧ b < B ∧ w.cell? ⟨b, off + k, none⟩ = some (.slice (some ⟨b', off', none⟩) n' c') ∧ tt[k]? = some t' ∧ IntsAt w B (some ⟨b', off', none⟩) n' t' := by
  obtain ⟨b, off, e, hb, hc⟩ := h.hds.mem (by omega)
  have h1 : k < ls.length := by rw [← h.hds.len]; exact hk
  have h2 : k < tt.length := by rw [← h.len]; exact hk
  obtain ⟨b', off', e'⟩ := hso _ (List.getElem_mem h1)
  have h3 := h.each k h1 h2
  have h4 := hc k h1
  rw [e'] at h3 h4
  exact ⟨b, off, b', off', _, _, tt[k], e, hb, h4, List.getElem?_eq_getElem h2, h3⟩
def flTo (tt : List (List Int)) (k : Nat) : List Int := (tt.take k).flatten
theorem flTo_succ {tt : List (List Int)} {k : Nat} {t : List Int} (h : tt[k]? = some t) : flTo tt (k + 1) = flTo tt k ++ t := by
  obtain ⟨hk, rfl⟩ := List.getElem?_eq_some_iff.1 h
  unfold flTo
  rw [List.take_succ_eq_append_getElem hk, List.flatten_append]
  simp
theorem flTo_all {tt : List (List Int)} {k : Nat} (h : tt.length ≤ k) : flTo tt k = tt.flatten := by
  unfold flTo; rw [List.take_of_length_le h]
theorem flTo_le (tt : List (List Int)) (k : Nat) : (flTo tt k).length ≤ tt.flatten.length := by
  have : tt.flatten = flTo tt k ++ (tt.drop k).flatten := by
    unfold flTo
    rw [← List.flatten_append, List.take_append_drop]
  rw [this, List.length_append]
  omega
theorem ints_news' {W : World} {B n b off : Nat} {t : List Int} (h : IntsAt W B (some ⟨b, off, none⟩) n t) : ∀ j u, (t.map (Value.int .i64))[j]? = some u → W.cell? ((⟨b, off, none⟩ : Addr).add j) = some u := by
  rcases Nat.eq_zero_or_pos n with h0 | h0
  · have : t = [] := List.eq_nil_of_length_eq_zero (by rw [← h.len]; exact h0)
    subst this
    intro j u hu
    simp at hu
  · exact ints_news h rfl h0

set_option maxRecDepth 100000 in
set_option maxHeartbeats 2000000 in
theorem concat_any (A : Option Addr) (n c : Nat) (ls : List Hd) (tt : List (List Int)) (w : World) (ht : TermsAt w w.heap.size A n ls tt) (hso : ∀ x ∈ ls, ∃ b off, x.1 = some ⟨b, off, none⟩) (hn : n ≤ 1000) (h1 : 1 ≤ tt.flatten.length) (h2 : tt.flatten.length ≤ 1000) :
    Calls Try.prog 62 #[.slice A n c] w fun e w' => ∃ v, e = .returned v ∧ w'.ownsRow w.heap.size 3 1 v tt.flatten.length (tt.flatten.map (Value.int .i64)) ∧ Below w.heap.size w w' := by
  obtain ⟨i0, hi, hz0, hz1, hz2⟩ := info_parts info_int
  have HT := Lib.hid ht
  have HLT := Lib.hid ht.len
  have HSO := Lib.hid hso
  have HFA := Lib.hid (flTo_all (tt := tt) (k := n) (by rw [← ht.len]; exact Nat.le_refl _))
  have HFL := Lib.hid (fun k => flTo_le tt k)
  have HFS := Lib.hid (fun k t (h : tt[k]? = some t) => flTo_succ h)
  have HF0 := Lib.hid (show flTo tt 0 = [] from rfl)
  obtain ⟨F, hF⟩ : ∃ F, tt.flatten = F := ⟨_, rfl⟩
  rw [hF] at h1 h2 HFA HFL ⊢
  obtain ⟨fl, hfl⟩ : ∃ fl, flTo tt = fl := ⟨_, rfl⟩
  simp only [hfl] at HFA HFL HFS HF0
  clear ht hso hF hfl
  go_enter Try.func62, Try.ntmps62
  go_wp2
  go_loop [3, 11] (fun s i => ∃ k : Nat, k ≤ n ∧ i = .int .i64 k ∧ s = .int .i64 ((fl k).length : Nat)) (fun _ i => n - (intOf i).toNat)
  case atStart => exact ⟨0, Nat.zero_le _, rfl, by rw [HF0.out]; rfl⟩
  case round =>
    obtain ⟨k, hk, rfl, rfl⟩ := hrel
    have hfl := HFL.out k
    by_cases hlt : k < n
    · obtain ⟨b, off, b', off', n', c', t, rfl, hb, q1, q2, hI⟩ := HT.out.hdAt HSO.out hlt
      have hs := HFS.out k t q2
      have hfl2 := HFL.out (k + 1)
      have hnl := hI.len
      rw [hs, List.length_append] at hfl2
      have H := Lib.hid (show (fl (k + 1)).length = (fl k).length + n' by rw [hs, List.length_append, hnl])
      have hk0 : (0 : Int) ≤ (k : Int) := by omega
      have hk1 : (k : Int) < (n : Int) := by omega
      have hn' : n' ≤ 1000 := by omega
      obtain ⟨L, hL⟩ : ∃ L, (fl k).length = L := ⟨_, rfl⟩
      rw [hL] at H hfl
      rw [hL]
      have hnn : ¬ ((L : Int) + (n' : Int) < 0) := by omega
      clear q2 hI hs hfl2 hnl hL
      go_wp2
      go_round
      case rel => exact ⟨k + 1, by omega, by go_num, by rw [H.out]; go_num⟩
      case measure => simp [intOf]; omega
    · obtain rfl : k = n := by omega
      rw [HFA.out]
      have G := Lib.hid (grow_nil F.length w h1 (by omega))
      clear hfl
      go_wp2_with (go_at_call 94; refine G.out.mono ?_; rintro e w1 ⟨c1, rfl, hrow, hB⟩; have HROW := Lib.hid hrow; have HB := Lib.hid hB; clear hrow hB)
      go_loopw [6, 27] (fun v i wr => ∃ (j : Nat) (Av : Option Addr) (cv : Nat), j ≤ k ∧ i = .int .i64 j ∧ v = .slice Av (fl j).length cv ∧ wr.ownsRow w.heap.size 3 1 (.slice Av (fl j).length cv) (fl j).length ((fl j).map (Value.int .i64)) ∧ Below w.heap.size w wr) (fun _ i _ => k - (intOf i).toNat)
      case atStart => exact ⟨0, some ⟨w.heap.size, 0, none⟩, c1, Nat.zero_le _, rfl, by rw [HF0.out]; rfl, by rw [HF0.out]; exact HROW.out, HB.out⟩
      case round =>
        obtain ⟨j, Av, cv, hj, rfl, rfl, hown, hB5⟩ := hrel
        have HB5 := Lib.hid hB5
        have hcl := HFL.out j
        by_cases hlt2 : j < k
        · obtain ⟨b, off, b2, off2, n', c', t, rfl, hb, q1, q2, hI⟩ := HT.out.hdAt HSO.out hlt2
          have q3 := (hB5.cell (p := ⟨b, off + j, none⟩) hb).trans q1
          have hs := HFS.out j t q2
          have hfl2 := HFL.out (j + 1)
          have hI' := hI.below hB5
          have hnl := hI'.len
          rw [hs, List.length_append] at hfl2
          have HN1 := Lib.hid (ints_news' hI')
          have HN2 := Lib.hid (ints_one t)
          have HN0 := Lib.hid (show (t.map (Value.int .i64)).length = n' * 1 by simp; omega)
          have H := Lib.hid hs
          have hn60 : n' ≤ 1000 := by omega
          have HNL := Lib.hid hnl
          have hj0 : (0 : Int) ≤ (j : Int) := by omega
          have hj1 : (j : Int) < (k : Int) := by omega
          clear q1 q2 hI hI' hB5 hnl hs hfl2
          obtain ⟨V, hV⟩ : ∃ V, fl j = V := ⟨_, rfl⟩
          rw [hV] at hown hcl H
          rw [hV]
          obtain ⟨L, hL⟩ : ∃ L, V.length = L := ⟨_, rfl⟩
          rw [hL] at hown hcl
          rw [hL]
          have HLL := Lib.hid hL
          have HOWN := Lib.hid hown
          clear hV hL hown
          go_wp2_with (at_builtin
                       refine wpList_append_own_at _ rfl _ _ 25 rfl w.heap.size 3 i0 _ 1 8 Try.underlying25 hi hz0 hz1 hz2 rfl (by omega) _ _ _ rfl HOWN.out ⟨b2, off2, none⟩ n' c' (t.map (Value.int .i64)) rfl HN0.out HN1.out HN2.out (by unfold maxLen; omega) (by omega) HB5.out.size ?_
                       intro v1 w6 hown1 hg1 hnil _
                       have HB6 := Lib.hid (HB5.out.grown hg1 HB5.out.size (fun j e => (HOWN.out.lt j e).1))
                       have hform : ∃ A1 cap1, v1 = .slice A1 (L + n') cap1 := by
                         obtain ⟨_, ⟨rfl, h0⟩ | ⟨g, cap, cur, rfl, _⟩⟩ := hown1
                         · exact ⟨none, 0, by rw [h0]⟩
                         · exact ⟨_, _, rfl⟩
                       obtain ⟨A1, cap1, hv1⟩ := hform
                       subst hv1
                       have HOWN1 := Lib.hid hown1
                       clear hown1 hg1 hnil)
          go_roundw
          case rel => exact ⟨j + 1, A1, cap1, by omega, by go_num, by rw [H.out, List.length_append, HLL.out, HNL.out], by rw [H.out, List.length_append, HLL.out, List.map_append, ← HNL.out]; exact HOWN1.out, HB6.out⟩
          case measure => simp [intOf]; omega
        · obtain rfl : j = k := by omega
          rw [HFA.out] at hown
          rw [HFA.out]
          have HOWN := Lib.hid hown
          clear hown hB5
          go_wp2
          go_ret
          exact ⟨_, rfl, HOWN.out, HB5.out⟩

end Go.Proofs.Ytlciaecclcckbaa

/- Contracts: locate, At. -/
namespace Go.Proofs.Ytlciaecclcckbaa
open Go.RowKit

def locV (ss : Sg) (zs : List Int) : Option Nat → Array Value
  | none => #[.int .i64 0, .int .i64 0, .bool false]
  | some a => #[.int .i64 (a : Int), .int .i64 ((a + (prt ss zs a).length : Nat) : Int), .bool true]
set_option maxRecDepth 100000 in
set_option maxHeartbeats 2000000 in
theorem locate_any (As At Ap : Option Addr) (ns cs nt ct np cp : Nat) (ss : Sg) (zs path : List Int) (w : World) (hs : SigAt w w.heap.size As ns ss) (ht : IntsAt w w.heap.size At nt zs) (hp : IntsAt w w.heap.size Ap np path) (hv : valOk ss zs = true) (hnp : np ≤ 1000) :
    Calls Try.prog 56 #[.slice As ns cs, .slice At nt ct, .slice Ap np cp] w fun e w' => e = .returned (.tuple (locV ss zs (locN ss zs path 0))) ∧ Below w.heap.size w w' := by
  have h0 := PartAt.zero hv
  obtain ⟨h1, h60, hnum, hscan⟩ := valOk_term hv
  have har := sigOk_ar (valOk_sig hv)
  have hsl := sigOk_len (valOk_sig hv)
  have hh : HeadsOk ss zs := fun z hz => (hnum z hz).2
  have hls := hs.len
  have hlt := ht.len
  have hlp := hp.len
  rw [← hls] at hsl
  rw [← hlt] at h1 h60
  have HE := Lib.hid (fun V (hb : Below w.heap.size w V) (i : Nat) (hi : i ≤ 1000000) => end_any ss zs har hh As At ns cs nt ct i V (hs.up hb) (ht.up hb) hsl.1 h1 (by omega) (by omega) hi)
  have HEP := Lib.hid (fun b (hb : PartAt ss zs b) i (hi : i < arOf ss (zs.getD b 0)) => show endI ss zs (psA ss zs b i) = ((psA ss zs b (i + 1) : Nat) : Int) ∧ psA ss zs b i ≤ 60 ∧ psA ss zs b (i + 1) ≤ 60 by
    have hi' := hi
    rw [hb.getD] at hi'
    obtain ⟨s1, s2, s3, _⟩ := prt_step hb.is hb.1 hi'
    exact ⟨endI_scan s1 s3, by omega, by omega⟩)
  have HEW := Lib.hid (fun b (hb : PartAt ss zs b) => show endI ss zs b = ((b + (prt ss zs b).length : Nat) : Int) ∧ b + (prt ss zs b).length ≤ 60 by
    have hle := hb.is.le
    exact ⟨endI_scan hb.is.whole hle, by omega⟩)
  have HP0 := Lib.hid (fun b (hb : PartAt ss zs b) => show psA ss zs b 0 = b + 1 ∧ b < nt by
    have := hb.1
    exact ⟨psA_zero hb.1, by omega⟩)
  have HPA := Lib.hid (fun b (hb : PartAt ss zs b) k (hk : k < arOf ss (zs.getD b 0)) => hb.arg hk)
  have HT := Lib.hid (fun V (hb : Below w.heap.size w V) => ht.up hb)
  have HPP := Lib.hid (fun V (hb : Below w.heap.size w V) => hp.up hb)
  obtain ⟨bs, offs, rfl, hbs, hsg⟩ := hs.mem (by omega)
  have HSG := Lib.hid hsg
  have HAR := Lib.hid har
  have HHH := Lib.hid hh
  have HLS := Lib.hid hls
  have HLT := Lib.hid hlt
  have HLP := Lib.hid hlp
  obtain ⟨R, hR⟩ : ∃ R, locN ss zs path 0 = R := ⟨_, rfl⟩
  rw [hR]
  have HR0 := Lib.hid (show locN ss zs (path.drop 0) 0 = R by simpa using hR)
  have HPT := Lib.hid h0
  clear hs ht hp hv h0 hnum hscan har hh hls hlt hlp hsg hR
  go_enter Try.func56, Try.ntmps56
  go_wp2
  go_loopw [6, 14] (fun f i wr => ∃ j b : Nat, j ≤ np ∧ i = .int .i64 j ∧ f = .int .i64 b ∧ Hid (PartAt ss zs b) ∧ Hid (locN ss zs (path.drop j) b = R) ∧ Below w.heap.size w wr) (fun _ i _ => np - (intOf i).toNat)
  case atStart => exact ⟨0, 0, Nat.zero_le _, rfl, rfl, HPT, HR0, Below.refl _ _⟩
  case round =>
    obtain ⟨j, b, hj, rfl, rfl, hPT, hLR, hB⟩ := hrel
    have HB := Lib.hid hB
    obtain ⟨hp0, hbn⟩ := HP0.out b hPT.out
    by_cases hlt : j < np
    · obtain ⟨bp, op, k, hAp, c1, k1, e1⟩ := (HPP.out wr hB).cellAt hlt
      obtain ⟨bt, ot, x, hAt, c2, k2, e2⟩ := (HT.out wr hB).cellAt hbn
      subst hAp hAt
      have hd := drop_at (l := path) (j := j) (k := k) (by rw [List.getElem?_eq_getElem k1, e1])
      have hLR2 := hLR.out
      rw [hd] at hLR2
      have hg : zs.getD b 0 = x := by rw [List.getD_eq_getElem?_getD, List.getElem?_eq_getElem k2, e2]; rfl
      have hxl := HHH.out _ (List.getElem_mem k2)
      rw [e2] at hxl
      have hbad := fun h => (locN_bad (ss := ss) (zs := zs) (p := path.drop (j + 1)) (a := b) (k := k) h).symm.trans hLR2
      have hstep := fun i (h : i < arOf ss (zs.getD b 0)) (e : k = (i : Int)) => (locN_step (ss := ss) (zs := zs) (p := path.drop (j + 1)) h).symm.trans (e ▸ hLR2)
      have hep := fun i (h : i < arOf ss (zs.getD b 0)) => HEP.out b hPT.out i h
      have hpa := fun i (h : i < arOf ss (zs.getD b 0)) => HPA.out b hPT.out i h
      rw [hg] at hbad hstep hep hpa
      have hj0 : (0 : Int) ≤ (j : Int) := by omega
      have hj1 : (j : Int) < (np : Int) := by omega
      have hb0 : (0 : Int) ≤ (b : Int) := by omega
      have hb1 : (b : Int) < (nt : Int) := by omega
      clear hd hLR hLR2 hg e1 e2 k1 k2 hB
      by_cases hx : x < 0
      · have ha : arOf ss x = 0 := by simp [arOf, hx]
        have H := Lib.hid (show none = R from hbad (by rw [ha]; omega))
        clear hbad hstep hep hpa ha hxl
        go_wp2
        go_ret3
        exact ⟨by rw [← H.out]; rfl, HB.out⟩
      · obtain ⟨q, rfl⟩ : ∃ q : Nat, x = (q : Int) := ⟨x.toNat, by omega⟩
        have hql : q < ss.length := by omega
        have har1 := arOf_at hql
        have hc3 := (HB.out.cell (p := ⟨bs, offs + q * 2 + 1, none⟩) hbs).trans (HSG.out.ar q hql)
        obtain ⟨ha0, ha3⟩ := HAR.out _ (List.getElem_mem hql)
        obtain ⟨r, hr⟩ : ∃ r : Nat, ss[q].2 = (r : Int) := ⟨ss[q].2.toNat, by omega⟩
        rw [hr] at hc3 har1 ha3
        rw [Int.toNat_natCast] at har1
        rw [har1] at hbad hstep hep hpa
        have hq0 : (0 : Int) ≤ (q : Int) := by omega
        have hq1 : (q : Int) < (ns : Int) := by have := HLS.out; omega
        clear hr ha0 har1
        by_cases hk0 : k < 0
        · have H := Lib.hid (show none = R from hbad (by omega))
          clear hbad hstep hep hpa
          go_wp2
          go_ret3
          exact ⟨by rw [← H.out]; rfl, HB.out⟩
        · by_cases hkr : (r : Int) ≤ k
          · have H := Lib.hid (show none = R from hbad (by omega))
            clear hbad hstep hep hpa
            go_wp2
            go_ret3
            exact ⟨by rw [← H.out]; rfl, HB.out⟩
          · obtain ⟨kk, rfl⟩ : ∃ kk : Nat, k = (kk : Int) := ⟨k.toNat, by omega⟩
            have hkk : kk < r := by omega
            have H := Lib.hid (hstep kk hkk rfl)
            have H2 := Lib.hid (hpa kk hkk)
            have HEPP := Lib.hid hep
            clear hbad hstep hep hpa
            have HP1 := Lib.hid hp0
            clear hp0
            go_wp2
            go_loopw [6, 40] (fun f c w2 => ∃ i : Nat, i ≤ kk ∧ c = .int .i64 i ∧ f = .int .i64 (psA ss zs b i : Nat) ∧ Below w.heap.size w w2) (fun _ c _ => kk - (intOf c).toNat)
            case atStart => exact ⟨0, Nat.zero_le _, rfl, by rw [HP1.out]; go_num, HB.out⟩
            case round =>
              obtain ⟨i, hi, rfl, rfl, hB5⟩ := hrel
              have HB5 := Lib.hid hB5
              by_cases hlt2 : i < kk
              · obtain ⟨f1, f2, f3⟩ := HEPP.out i (by omega)
                obtain ⟨s, hs⟩ : ∃ s, psA ss zs b i = s := ⟨_, rfl⟩
                obtain ⟨s', hs'⟩ : ∃ s', psA ss zs b (i + 1) = s' := ⟨_, rfl⟩
                have HS' := Lib.hid hs'
                rw [hs, hs'] at f1
                rw [hs] at f2
                rw [hs'] at f3
                rw [hs]
                have C := Lib.hid (HE.out _ hB5 s (by omega))
                rw [f1] at C
                clear f1 hs hs' hB5
                go_wp2_with (go_at_call 90; refine C.out.mono ?_; rintro e w6 ⟨rfl, hB6⟩; have HB6 := Lib.hid (below_then HB5.out hB6); clear hB6)
                go_roundw
                case rel => exact ⟨i + 1, by omega, by go_num, by rw [HS'.out], HB6.out⟩
                case measure => simp [intOf]; omega
              · obtain rfl : i = kk := by omega
                go_wp2
                go_roundw
                case rel => exact ⟨j + 1, psA ss zs b i, by omega, by go_num, rfl, H2, H, HB5.out⟩
                case measure => simp [intOf]; omega
    · obtain rfl : j = np := by omega
      have hd : path.drop j = [] := List.drop_of_length_le (by have := HLP.out; omega)
      have hLR2 := hLR.out
      rw [hd, locN_nil] at hLR2
      have H := Lib.hid hLR2
      obtain ⟨f1, f2⟩ := HEW.out b hPT.out
      have C := Lib.hid (HE.out wr hB b (by omega))
      rw [f1] at C
      obtain ⟨s, hs⟩ : ∃ s, b + (prt ss zs b).length = s := ⟨_, rfl⟩
      have HSS := Lib.hid hs
      rw [hs] at C f2
      clear f1 hd hLR2 hs hLR hB
      go_wp2_with (go_at_call 90; refine C.out.mono ?_; rintro e w6 ⟨rfl, hB6⟩; have HB6 := Lib.hid (below_then HB.out hB6); clear hB6)
      go_ret3
      exact ⟨by rw [← H.out, ← HSS.out]; rfl, HB6.out⟩

set_option maxHeartbeats 400000 in
theorem at_any (As At Ap : Option Addr) (ns cs nt ct np cp : Nat) (ss : Sg) (zs path : List Int) (w : World) (hs : SigAt w w.heap.size As ns ss) (ht : IntsAt w w.heap.size At nt zs) (hp : IntsAt w w.heap.size Ap np path) (hct : nt ≤ ct) (hct2 : ct ≤ 9223372036854775807) (hnp : np ≤ 1000) :
    Calls Try.prog 16 #[.slice As ns cs, .slice At nt ct, .slice Ap np cp] w (RetT w (atR ss zs path).1 (atR ss zs path).2) := by
  have C := Lib.hid (valid_any As At ns cs nt ct ss zs w hs ht)
  cases hv : valOk ss zs
  · have hr : atR ss zs path = ([], 1) := by unfold atR; rw [if_pos hv]
    rw [hr]
    rw [hv] at C
    clear hs ht hp hv hr
    go_enter Try.func16, Try.ntmps16
    go_wp2_with (go_at_call 55; refine C.out.mono ?_; rintro e w1 ⟨rfl, hB⟩; have HB := Lib.hid hB)
    go_ret2
    exact ⟨none, 0, 0, rfl, IntsAt.nil _ _ 0, HB.out⟩
  · have C2 := Lib.hid (fun V (hb : Below w.heap.size w V) => locate_any As At Ap ns cs nt ct np cp ss zs path V (hs.up hb) (ht.up hb) (hp.up hb) hv hnp)
    rw [hv] at C
    cases hl : locN ss zs path 0 with
    | none =>
      have hr : atR ss zs path = ([], 8) := by unfold atR; rw [if_neg (by simp [hv]), hl]
      rw [hr]
      simp only [hl, locV] at C2
      clear hs ht hp hv hr hl
      go_enter Try.func16, Try.ntmps16
      go_wp2_with (first
        | (go_at_call 55; refine C.out.mono ?_; rintro e w1 ⟨rfl, hB⟩; have HB := Lib.hid hB; clear hB)
        | (go_at_call 56; refine (C2.out _ HB.out).mono ?_; rintro e w2 ⟨rfl, hB2⟩; have HB2 := Lib.hid (below_then HB.out hB2); clear hB2))
      go_ret2
      exact ⟨none, 0, 0, rfl, IntsAt.nil _ _ 0, HB2.out⟩
    | some a =>
      have hr := atR_mk hv hl
      rw [hr]
      simp only [hl, locV] at C2
      have hpa := (locN_part path 0 a (PartAt.zero hv) hl).1
      have hP := hpa.is
      obtain ⟨h1, h60, _, _⟩ := valOk_term hv
      have hlt := ht.len
      obtain ⟨P, hPP⟩ : ∃ P, prt ss zs a = P := ⟨_, rfl⟩
      rw [hPP] at hP C2 ⊢
      have hl1 := hP.len
      have hl2 := hP.le
      have hal := hpa.1
      obtain ⟨bt, offt, rfl, hbt, htc⟩ := ht.mem (by omega)
      obtain ⟨m, hm⟩ : ∃ m, P.length = m := ⟨_, rfl⟩
      obtain ⟨e, he⟩ : ∃ e, a + m = e := ⟨_, rfl⟩
      have hcells : ∀ j (h : j < P.length), w.cell? ⟨bt, offt + a + j, none⟩ = some (.int .i64 P[j]) := by
        intro j hj
        have e1 : (zs.drop a)[j]? = some P[j] := by rw [hP.split, List.getElem?_append_left hj, List.getElem?_eq_getElem hj]
        rw [List.getElem?_drop] at e1
        obtain ⟨hj2, e2⟩ := List.getElem?_eq_some_iff.1 e1
        rw [Nat.add_assoc, ← e2]
        exact htc (a + j) hj2
      have C3 := Lib.hid (fun V (hb : Below w.heap.size w V) c => cloneT_any V bt (offt + a) m c P (by omega) (by omega) hm (fun j hj => (hb.cell (p := ⟨bt, offt + a + j, none⟩) hbt).trans (hcells j hj)) (Nat.lt_of_lt_of_le hbt hb.size))
      have HM := Lib.hid hm
      rw [hm, he] at C2
      have hea : e - a = m := by omega
      have g1 : a ≤ e := by omega
      have g2 : e ≤ ct := by omega
      have g3 : ct ≠ a := by omega
      have g4 : (0 : Int) ≤ (a : Int) := by omega
      have g5 : m ≤ 60 := by omega
      clear hs ht hp hv hr hl hpa hP h1 h60 hlt hPP hm htc hcells hl1 hl2 hal he
      go_enter Try.func16, Try.ntmps16
      go_wp2_with (first
        | (go_at_call 55; refine C.out.mono ?_; rintro e w1 ⟨rfl, hB⟩; have HB := Lib.hid hB; clear hB)
        | (go_at_call 56; refine (C2.out _ HB.out).mono ?_; rintro e w2 ⟨rfl, hB2⟩; have HB2 := Lib.hid (below_then HB.out hB2); clear hB2)
        | (go_at_call 57; refine (C3.out _ HB2.out _).mono ?_; rintro e w3 ⟨v3, rfl, hrow3, hB3⟩; simp only [List.length_map] at hrow3; obtain ⟨A3, c3, e3, hI3⟩ := row_ints hrow3 (by rw [HM.out]; omega); subst e3; have HI3 := Lib.hid hI3; have HB3 := Lib.hid (below_then HB2.out hB3); clear hrow3 hI3 hB3))
      go_ret2
      exact ⟨_, _, _, rfl, HI3.out, HB3.out⟩

end Go.Proofs.Ytlciaecclcckbaa

namespace Go.Proofs.Ytlciaecclcckbaa
open Go.RowKit

theorem ints_take {w : World} {B n b off a : Nat} {zs : List Int} (h : IntsAt w B (some ⟨b, off, none⟩) n zs) (ha : a ≤ n) : IntsAt w B (some ⟨b, off, none⟩) a (zs.take a) := by
  have hl := h.len
  have hm := h.max
  refine ⟨by rw [List.length_take]; omega, by omega, fun h0 => ?_⟩
  obtain ⟨b', off', e, hb, hc⟩ := h.mem (by omega)
  cases e
  exact ⟨b, off, rfl, hb, fun j hj => by rw [List.length_take] at hj; rw [hc j (by omega), List.getElem_take]⟩
theorem ints_drop {w : World} {B n b off e : Nat} {zs : List Int} (h : IntsAt w B (some ⟨b, off, none⟩) n zs) (he : e ≤ n) : IntsAt w B (some ⟨b, off + e, none⟩) (n - e) (zs.drop e) := by
  have hl := h.len
  have hm := h.max
  refine ⟨by rw [List.length_drop]; omega, by omega, fun h0 => ?_⟩
  obtain ⟨b', off', e', hb, hc⟩ := h.mem (by omega)
  cases e'
  exact ⟨b, off + e, rfl, hb, fun j hj => by rw [List.length_drop] at hj; rw [Nat.add_assoc, hc (e + j) (by omega), List.getElem_drop]⟩
theorem terms3 {V : World} {A1 A2 A3 : Option Addr} {n1 c1 n2 c2 n3 c3 : Nat} {x y z : List Int} (h1 : IntsAt V V.heap.size A1 n1 x) (h2 : IntsAt V V.heap.size A2 n2 y) (h3 : IntsAt V V.heap.size A3 n3 z) :
    TermsAt (V.alloc (.cells #[.slice A1 n1 c1, .slice A2 n2 c2, .slice A3 n3 c3] 25)) (V.alloc (.cells #[.slice A1 n1 c1, .slice A2 n2 c2, .slice A3 n3 c3] 25)).heap.size (some ⟨V.heap.size, 0, none⟩) 3 [(A1, n1, c1), (A2, n2, c2), (A3, n3, c3)] [x, y, z] := by
  refine ⟨HdsAt.of_blk _ (Blk.new V _ _) rfl rfl (by simp), rfl, fun j a b => ?_⟩
  match j, a, b with
  | 0, _, _ => exact h1.alloc _
  | 1, _, _ => exact h2.alloc _
  | 2, _, _ => exact h3.alloc _
theorem putL_flat (ss : Sg) (zs us : List Int) (a : Nat) : [zs.take a, us, zs.drop (a + (prt ss zs a).length)].flatten = putL ss zs us a := by
  unfold putL
  simp

/-- A slice of ints, with its capacity, and an error are returned. -/
def RetTc (w : World) (zs : List Int) (er : Int) (e : Ending) (w' : World) : Prop :=
  ∃ A n c, e = .returned (.tuple #[.slice A n c, .int .i64 er]) ∧ IntsAt w' w'.heap.size A n zs ∧ Below w.heap.size w w' ∧ n ≤ c ∧ c ≤ 9223372036854775807
set_option maxHeartbeats 400000 in
theorem put_bad (As At Ap Au : Option Addr) (ns cs nt ct np cp nu cu : Nat) (ss : Sg) (zs path us : List Int) (w : World) (hs : SigAt w w.heap.size As ns ss) (ht : IntsAt w w.heap.size At nt zs) (hu : IntsAt w w.heap.size Au nu us) (hv : (valOk ss zs && valOk ss us) = false) :
    Calls Try.prog 19 #[.slice As ns cs, .slice At nt ct, .slice Ap np cp, .slice Au nu cu] w (RetTc w (putR ss zs path us).1 (putR ss zs path us).2) := by
  have hr : putR ss zs path us = ([], 1) := by unfold putR; rw [if_pos hv]
  rw [hr]
  have C := Lib.hid (valid_any As At ns cs nt ct ss zs w hs ht)
  cases h1 : valOk ss zs
  · rw [h1] at C
    clear hs ht hu hv hr h1
    go_enter Try.func19, Try.ntmps19
    go_wp2_with (go_at_call 55; refine C.out.mono ?_; rintro e w1 ⟨rfl, hB⟩; have HB := Lib.hid hB)
    go_ret2
    exact ⟨none, 0, 0, rfl, IntsAt.nil _ _ 0, HB.out, by omega, by omega⟩
  · have hsl := sigOk_len (valOk_sig h1)
    rw [← hs.len] at hsl
    have htu : termOk ss us = false := by rw [h1] at hv; simpa [valOk, valOk_sig h1] using hv
    have C2 := Lib.hid (fun V (hb : Below w.heap.size w V) => validTerm_any As Au ns cs nu cu ss us V (hs.up hb) (hu.up hb) (sigOk_ar (valOk_sig h1)) hsl.1 hsl.2)
    rw [h1] at C
    simp only [htu] at C2
    clear hs ht hu hv hr h1 htu
    go_enter Try.func19, Try.ntmps19
    go_wp2_with (first
      | (go_at_call 55; refine C.out.mono ?_; rintro e w1 ⟨rfl, hB⟩; have HB := Lib.hid hB; clear hB)
      | (go_at_call 61; refine (C2.out _ HB.out).mono ?_; rintro e w2 ⟨rfl, hB2⟩; have HB2 := Lib.hid (below_then HB.out hB2); clear hB2))
    go_ret2
    exact ⟨none, 0, 0, rfl, IntsAt.nil _ _ 0, HB2.out, by omega, by omega⟩

set_option maxRecDepth 100000 in
set_option maxHeartbeats 1000000 in
theorem put_any (As At Ap Au : Option Addr) (ns cs nt ct np cp nu cu : Nat) (ss : Sg) (zs path us : List Int) (w : World) (hs : SigAt w w.heap.size As ns ss) (ht : IntsAt w w.heap.size At nt zs) (hp : IntsAt w w.heap.size Ap np path) (hu : IntsAt w w.heap.size Au nu us) (hct : nt ≤ ct) (hct2 : ct ≤ 9223372036854775807) (hnp : np ≤ 1000) :
    Calls Try.prog 19 #[.slice As ns cs, .slice At nt ct, .slice Ap np cp, .slice Au nu cu] w (RetTc w (putR ss zs path us).1 (putR ss zs path us).2) := by
  cases hvv : (valOk ss zs && valOk ss us)
  · exact put_bad As At Ap Au ns cs nt ct np cp nu cu ss zs path us w hs ht hu hvv
  obtain ⟨hv, hvu⟩ : valOk ss zs = true ∧ valOk ss us = true := by simpa using hvv
  have C := Lib.hid (valid_any As At ns cs nt ct ss zs w hs ht)
  rw [hv] at C
  have hsl := sigOk_len (valOk_sig hv)
  rw [← hs.len] at hsl
  have htu : termOk ss us = true := by simpa [valOk, valOk_sig hv] using hvu
  have C2 := Lib.hid (fun V (hb : Below w.heap.size w V) => validTerm_any As Au ns cs nu cu ss us V (hs.up hb) (hu.up hb) (sigOk_ar (valOk_sig hv)) hsl.1 hsl.2)
  simp only [htu] at C2
  have C3 := Lib.hid (fun V (hb : Below w.heap.size w V) => locate_any As At Ap ns cs nt ct np cp ss zs path V (hs.up hb) (ht.up hb) (hp.up hb) hv hnp)
  cases hl : locN ss zs path 0 with
  | none =>
    have hr : putR ss zs path us = ([], 8) := by unfold putR; rw [if_neg (by simp [hvv]), hl]
    rw [hr]
    simp only [hl, locV] at C3
    clear hs ht hp hu hv hvv hvu hr hl htu
    go_enter Try.func19, Try.ntmps19
    go_wp2_with (first
      | (go_at_call 55; refine C.out.mono ?_; rintro e w1 ⟨rfl, hB⟩; have HB := Lib.hid hB; clear hB)
      | (go_at_call 61; refine (C2.out _ HB.out).mono ?_; rintro e w2 ⟨rfl, hB2⟩; have HB2 := Lib.hid (below_then HB.out hB2); clear hB2)
      | (go_at_call 56; refine (C3.out _ HB2.out).mono ?_; rintro e w3 ⟨rfl, hB3⟩; have HB3 := Lib.hid (below_then HB2.out hB3); clear hB3))
    go_ret2
    exact ⟨none, 0, 0, rfl, IntsAt.nil _ _ 0, HB3.out, by omega, by omega⟩
  | some a =>
    have hr := putR_mk (p := path) hv hvu hl
    rw [hr]
    simp only [hl, locV] at C3
    have hpa := (locN_part path 0 a (PartAt.zero hv) hl).1
    have hfl := putL_flat ss zs us a
    have hPle := hpa.is.le
    have hal := hpa.1
    obtain ⟨h1, h60, _, _⟩ := valOk_term hv
    obtain ⟨u1, u60, _, _⟩ := valOk_term hvu
    have hlt := ht.len
    have hlu := hu.len
    obtain ⟨e, he⟩ : ∃ e, a + (prt ss zs a).length = e := ⟨_, rfl⟩
    have hln : (putL ss zs us a).length = a + nu + (nt - e) := by
      unfold putL
      simp only [List.length_append, List.length_take, List.length_drop, he]
      omega
    rw [he] at hPle C3 hfl
    obtain ⟨F, hF⟩ : ∃ F, putL ss zs us a = F := ⟨_, rfl⟩
    rw [hF] at hfl hln ⊢
    obtain ⟨bt, offt, rfl, hbt, _⟩ := ht.mem (by omega)
    obtain ⟨bu, offu, rfl, hbu, _⟩ := hu.mem (by omega)
    have ha60 : a ≤ 60 := by omega
    have he60 : e ≤ 60 := by omega
    have hent : e ≤ nt := by omega
    have hnt60 : nt ≤ 60 := by omega
    have hnu60 : nu ≤ 60 := by omega
    have hact : a ≤ ct := by omega
    have hect : e ≤ ct := by omega
    by_cases h60' : 60 < F.length
    · rw [if_pos h60']
      have hgt : (60 : Int) < (a : Int) + (nu : Int) + (nt : Int) - (e : Int) := by omega
      clear hs ht hp hu hv hvv hvu hr hl htu hpa hfl hlt hlu hal h1 h60 u1 u60 hF he hbt hbu hln h60'
      go_enter Try.func19, Try.ntmps19
      go_wp2_with (first
        | (go_at_call 55; refine C.out.mono ?_; rintro e w1 ⟨rfl, hB⟩; have HB := Lib.hid hB; clear hB)
        | (go_at_call 61; refine (C2.out _ HB.out).mono ?_; rintro e w2 ⟨rfl, hB2⟩; have HB2 := Lib.hid (below_then HB.out hB2); clear hB2)
        | (go_at_call 56; refine (C3.out _ HB2.out).mono ?_; rintro e w3 ⟨rfl, hB3⟩; have HB3 := Lib.hid (below_then HB2.out hB3); clear hB3))
      go_ret2
      exact ⟨none, 0, 0, rfl, IntsAt.nil _ _ 0, HB3.out, by omega, by omega⟩
    · rw [if_neg h60']
      have hgt : ¬ (60 : Int) < (a : Int) + (nu : Int) + (nt : Int) - (e : Int) := by omega
      have hF1 : 1 ≤ F.length := by omega
      have hF60 : F.length ≤ 60 := by omega
      have HT := Lib.hid (fun V (hb : Below w.heap.size w V) => ht.up hb)
      have HU := Lib.hid (fun V (hb : Below w.heap.size w V) => hu.up hb)
      have HFL := Lib.hid hfl
      have ha0 : (0 : Int) ≤ (a : Int) := by omega
      have he0 : (0 : Int) ≤ (e : Int) := by omega
      have hct0 : ct ≠ 0 := by omega
      have C4 := Lib.hid (fun V (hb : Below w.heap.size w V) off3 n3 c3 (h3 : IntsAt V V.heap.size (some ⟨bt, off3, none⟩) n3 (zs.drop e)) => by
        have T3 := (terms3 (c1 := ct) (c2 := cu) (c3 := c3) (ints_take (HT.out V hb) (a := a) (by omega)) (HU.out V hb) h3).keep (w' := (V.alloc (.cells #[.slice (some ⟨bt, offt, none⟩) a ct, .slice (some ⟨bu, offu, none⟩) nu cu, .slice (some ⟨bt, off3, none⟩) n3 c3] 25)).drew) (fun _ _ => rfl)
        have := concat_any _ 3 3 _ _ _ T3 (by simp) (by omega) (by rw [hfl]; exact hF1) (by rw [hfl]; omega)
        rw [hfl] at this
        refine this.mono (R' := fun e w' => ∃ A n c, e = .returned (.slice A n c) ∧ IntsAt w' w'.heap.size A n F ∧ Below w.heap.size w w' ∧ n ≤ c ∧ c ≤ 9223372036854775807) ?_
        rintro e' w' ⟨v, rfl, ho, hB⟩
        obtain ⟨A, c, rfl, hI, hc⟩ := row_ints_c ho (by omega)
        exact ⟨A, _, c, rfl, hI, (hb.alloc hb.size _).drew.trans (hB.mono (by have := hb.size; simp; omega)), hc⟩)
      have HD := Lib.hid (fun V (hb : Below w.heap.size w V) => ints_drop (HT.out V hb) hent)
      have HZ := Lib.hid (fun V (h : ct = e) => show IntsAt V V.heap.size (some ⟨bt, offt, none⟩) 0 (zs.drop e) by
        have hz2 : zs.drop e = [] := List.drop_of_length_le (by omega)
        rw [hz2]
        exact ⟨rfl, by omega, fun h => absurd h (by omega)⟩)
      clear hs ht hp hu hv hvv hvu hr hl htu hpa hfl hlt hlu hal h1 h60 u1 u60 hF he hbt hbu hln h60'
      by_cases hce : ct = e
      · have HI := Lib.hid (fun V => HZ.out V hce)
        clear HD HZ
        subst hce
        go_enter Try.func19, Try.ntmps19
        go_wp2_with (first
          | (go_at_call 55; refine C.out.mono ?_; rintro e w1 ⟨rfl, hB⟩; have HB := Lib.hid hB; clear hB)
          | (go_at_call 61; refine (C2.out _ HB.out).mono ?_; rintro e w2 ⟨rfl, hB2⟩; have HB2 := Lib.hid (below_then HB.out hB2); clear hB2)
          | (go_at_call 56; refine (C3.out _ HB2.out).mono ?_; rintro e w3 ⟨rfl, hB3⟩; have HB3 := Lib.hid (below_then HB2.out hB3); clear hB3))
        go_region_held3 (fun _ => True) (first | trivial | assumption)
          ((go_at_call 62; refine (C4.out _ HB3.out _ _ _ (HI.out _)).mono ?_; rintro e w4 ⟨A4, n4, c4, rfl, hI4, hB4, hc4⟩; have HC4 := Lib.hid hc4; have HI4 := Lib.hid hI4; have HB4 := Lib.hid hB4; clear hI4 hB4 hc4))
        all_goals
          go_wp2
          go_ret2
          exact ⟨_, _, _, rfl, HI4.out, HB4.out, HC4.out⟩
      · have HI := Lib.hid (fun V hb => HD.out V hb)
        clear HD HZ
        have hec : ct ≠ e := hce
        go_enter Try.func19, Try.ntmps19
        go_wp2_with (first
          | (go_at_call 55; refine C.out.mono ?_; rintro e w1 ⟨rfl, hB⟩; have HB := Lib.hid hB; clear hB)
          | (go_at_call 61; refine (C2.out _ HB.out).mono ?_; rintro e w2 ⟨rfl, hB2⟩; have HB2 := Lib.hid (below_then HB.out hB2); clear hB2)
          | (go_at_call 56; refine (C3.out _ HB2.out).mono ?_; rintro e w3 ⟨rfl, hB3⟩; have HB3 := Lib.hid (below_then HB2.out hB3); clear hB3))
        go_region_held3 (fun _ => True) (first | trivial | assumption)
          ((go_at_call 62; refine (C4.out _ HB3.out _ _ _ (HI.out _ HB3.out)).mono ?_; rintro e w4 ⟨A4, n4, c4, rfl, hI4, hB4, hc4⟩; have HC4 := Lib.hid hc4; have HI4 := Lib.hid hI4; have HB4 := Lib.hid hB4; clear hI4 hB4 hc4))
        all_goals
          go_wp2
          go_ret2
          exact ⟨_, _, _, rfl, HI4.out, HB4.out, HC4.out⟩

end Go.Proofs.Ytlciaecclcckbaa
