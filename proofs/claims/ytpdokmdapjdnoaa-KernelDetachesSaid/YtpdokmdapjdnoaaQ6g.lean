/- Contract: ref.Renamed, with the capacity of what it returns. -/
import Derived.Test.YtpdokmdapjdnoaaQ5g
import Derived.Test.YtpdokmdapjdnoaaY15g
/- Contract: the reference's Renamed. -/
namespace Go.Proofs.Ytpdokmdapjdnoaa
open Go.RowKit

theorem addSeen_nodup {l : List Int} (h : l.Nodup) (z : Int) : (addSeen l z).Nodup := by
  unfold addSeen
  split
  · exact h
  · split
    · exact h
    · rename_i h1
      rw [List.nodup_append]
      refine ⟨h, by simp, fun a ha b hb => ?_⟩
      simp only [List.mem_singleton] at hb
      subst hb
      rintro rfl
      exact h1 (List.contains_iff_mem.2 ha)
theorem foldl_nodup : ∀ (zs l : List Int), l.Nodup → (zs.foldl addSeen l).Nodup
  | [], _, h => h
  | z :: r, _l, h => foldl_nodup r _ (addSeen_nodup h z)
theorem seenTo_nodup (zs : List Int) (k : Nat) : (seenTo zs k).Nodup := foldl_nodup _ _ List.nodup_nil
theorem addSeen_ext (l : List Int) (z : Int) : ∃ r, addSeen l z = l ++ r := by
  unfold addSeen
  split
  · exact ⟨[], by simp⟩
  · split
    · exact ⟨[], by simp⟩
    · exact ⟨[z], rfl⟩
theorem seenTo_ext (zs : List Int) : ∀ (d k : Nat), k + d ≤ zs.length → ∃ r, seenTo zs (k + d) = seenTo zs k ++ r
  | 0, k, _ => ⟨[], by simp⟩
  | d + 1, k, h => by
    obtain ⟨r, hr⟩ := seenTo_ext zs d k (by omega)
    obtain ⟨r2, hr2⟩ := addSeen_ext (seenTo zs (k + d)) zs[k + d]
    have := seenTo_succ (zs := zs) (k := k + d) (by omega)
    exact ⟨r ++ r2, by rw [show k + (d + 1) = k + d + 1 from by omega, this, hr2, hr, List.append_assoc]⟩
theorem mem_addSeen {l : List Int} {z : Int} (h : z < 0) : z ∈ addSeen l z := by
  unfold addSeen
  rw [if_neg (by omega)]
  split
  · rename_i h1; exact List.contains_iff_mem.1 h1
  · simp
theorem seen_neg (zs : List Int) : ∀ (k : Nat) (y : Int), y ∈ seenTo zs k → y < 0
  | 0, y, h => by simp [seenTo] at h
  | k + 1, y, h => by
    by_cases hk : k < zs.length
    · rw [seenTo_succ hk] at h
      unfold addSeen at h
      split at h
      · exact seen_neg zs k y h
      · split at h
        · exact seen_neg zs k y h
        · rcases List.mem_append.1 h with h | h
          · exact seen_neg zs k y h
          · simp only [List.mem_singleton] at h
            omega
    · have e : seenTo zs (k + 1) = seenTo zs k := by
        unfold seenTo
        rw [List.take_of_length_le (by omega), List.take_of_length_le (by omega)]
      rw [e] at h
      exact seen_neg zs k y h
theorem seen_mem (zs : List Int) : ∀ (k : Nat) (y : Int), y ∈ seenTo zs k → y ∈ zs
  | 0, y, h => by simp [seenTo] at h
  | k + 1, y, h => by
    by_cases hk : k < zs.length
    · rw [seenTo_succ hk] at h
      unfold addSeen at h
      split at h
      · exact seen_mem zs k y h
      · split at h
        · exact seen_mem zs k y h
        · rcases List.mem_append.1 h with h | h
          · exact seen_mem zs k y h
          · simp only [List.mem_singleton] at h
            subst h; exact List.getElem_mem hk
    · have e : seenTo zs (k + 1) = seenTo zs k := by
        unfold seenTo
        rw [List.take_of_length_le (by omega), List.take_of_length_le (by omega)]
      rw [e] at h
      exact seen_mem zs k y h

/-- The number at a place when q variables have been tried. -/
def cval (seen : List Int) (z : Int) (q : Nat) : Int := if z < 0 ∧ seen.idxOf z < q then -((seen.idxOf z : Nat) : Int) - 1 else z
theorem cval_zero (seen : List Int) (z : Int) : cval seen z 0 = z := by simp [cval]
theorem cval_hit {seen : List Int} {z : Int} {q : Nat} (hq : q < seen.length) (hnd : seen.Nodup) (hz : z < 0) (e : seen[q] = z) : cval seen z (q + 1) = -(q : Int) - 1 := by
  have : seen.idxOf z = q := by rw [← e]; exact hnd.idxOf_getElem q hq
  unfold cval
  rw [this, if_pos ⟨hz, by omega⟩]
theorem cval_miss {seen : List Int} {z : Int} {q : Nat} (hq : q < seen.length) (e : seen[q] ≠ z) : cval seen z (q + 1) = cval seen z q := by
  have h : seen.idxOf z ≠ q := by
    intro h
    have h1 : seen.idxOf z < seen.length := by omega
    have := List.getElem_idxOf h1
    apply e
    rw [← this]
    congr 1; exact h.symm
  unfold cval
  by_cases h1 : seen.idxOf z < q
  · by_cases h2 : z < 0
    · rw [if_pos ⟨h2, by omega⟩, if_pos ⟨h2, h1⟩]
    · rw [if_neg (fun h => h2 h.1), if_neg (fun h => h2 h.1)]
  · rw [if_neg (fun h => by have := h.2; omega), if_neg (fun h => h1 h.2)]
theorem cval_all (zs : List Int) {i : Nat} (hi : i < zs.length) : (canon zs)[i]? = some (cval (seenTo zs zs.length) zs[i] (seenTo zs zs.length).length) := by
  rw [canon_get zs hi]
  congr 1
  unfold ren1 cval
  by_cases h : 0 ≤ zs[i]
  · rw [if_pos h, if_neg (fun hh => by have := hh.1; omega)]
  · have hneg : zs[i] < 0 := by omega
    have hm := mem_addSeen (l := seenTo zs i) hneg
    obtain ⟨r, hr⟩ := seenTo_ext zs (zs.length - (i + 1)) (i + 1) (by omega)
    rw [show i + 1 + (zs.length - (i + 1)) = zs.length from by omega, seenTo_succ hi] at hr
    have hidx : (seenTo zs zs.length).idxOf zs[i] = (addSeen (seenTo zs i) zs[i]).idxOf zs[i] := by
      rw [hr, List.idxOf_append, if_pos hm]
    have hlt : (addSeen (seenTo zs i) zs[i]).idxOf zs[i] < (seenTo zs zs.length).length := by
      rw [← hidx]; exact List.idxOf_lt_length_of_mem (by rw [hr]; exact List.mem_append_left _ hm)
    rw [if_neg h, hidx, if_pos ⟨hneg, hlt⟩]
    rfl

def rl (zs : List Int) (i : Nat) : List Int := (canon zs).take i ++ zs.drop i
theorem rl_length {zs : List Int} {i : Nat} (h : i ≤ zs.length) : (rl zs i).length = zs.length := by
  unfold rl
  rw [List.length_append, List.length_take, canon_length, List.length_drop]
  omega
theorem rl_at {zs : List Int} {i : Nat} (h : i < zs.length) : (rl zs i)[i]? = some zs[i] := by
  unfold rl
  have e : ((canon zs).take i).length = i := by rw [List.length_take, canon_length]; omega
  rw [List.getElem?_append_right (by omega), e, Nat.sub_self, List.getElem?_drop]
  simp [h]
theorem rl_start {zs : List Int} {i : Nat} (h : i < zs.length) : (rl zs i).set i zs[i] = rl zs i := by
  apply List.ext_getElem?
  intro j
  rw [List.getElem?_set]
  split
  · subst_vars
    rw [if_pos (by rw [rl_length (by omega)]; exact h), rl_at h]
  · rfl
theorem rl_step {zs : List Int} {i : Nat} (h : i < zs.length) {v : Int} (hv : (canon zs)[i]? = some v) : (rl zs i).set i v = rl zs (i + 1) := by
  unfold rl
  have hk : i < (canon zs).length := by rw [canon_length]; exact h
  have hg : (canon zs)[i] = v := by rw [List.getElem?_eq_getElem hk] at hv; exact Option.some.inj hv
  have e : ((canon zs).take i).length = i := by rw [List.length_take]; omega
  rw [List.set_append_right _ _ (by omega), e, Nat.sub_self, List.take_succ_eq_append_getElem hk, hg, List.drop_eq_getElem_cons h, List.set_cons_zero, List.append_assoc]
  rfl
theorem rl_zero (zs : List Int) : rl zs 0 = zs := by simp [rl]
theorem rl_all (zs : List Int) : rl zs zs.length = canon zs := by
  unfold rl
  rw [List.take_of_length_le (by rw [canon_length]; omega), List.drop_length, List.append_nil]


theorem set_map_int (l : List Int) (i : Nat) (v : Int) : (l.map (Value.int .i64)).set i (.int .i64 v) = (l.set i v).map (Value.int .i64) := by
  rw [List.map_set]

end Go.Proofs.Ytpdokmdapjdnoaa

namespace Go.Proofs.Ytpdokmdapjdnoaa
open Go.RowKit

set_option maxRecDepth 100000 in
set_option maxHeartbeats 2000000 in
theorem refRenamed_k (A : Option Addr) (n c : Nat) (zs : List Int) (w : World) (hx : IntsAt w w.heap.size A n zs) (h1 : 1 ≤ n) (hn : n ≤ 1000000) (hb : ∀ z ∈ zs, -1000000 ≤ z ∧ z ≤ 1000000) :
    Calls Try.prog 132 #[.slice A n c] w fun e w' => ∃ A' c', e = .returned (.slice A' n c') ∧ (IntsAt w' w'.heap.size A' n (canon zs) ∧ n ≤ c' ∧ c' ≤ 9223372036854775807) ∧ Below w.heap.size w w' := by
  obtain ⟨i0, hi, hz0, hz1, hz2⟩ := info_parts info_int
  obtain ⟨bt, offt, rfl, hbt, htc⟩ := hx.mem (by omega)
  have hlen := hx.len
  have CV := Lib.hid (variables_any _ n c zs w hx hn hb)
  have HLX := Lib.hid hlen
  have HTC := Lib.hid htc
  have HBD := Lib.hid hb
  have hsl := seenTo_le zs n
  have hvl : (vof (seenTo zs n)).length = (seenTo zs n).length := by simp [vof]
  have hN1 := Lib.hid (show (zs.map (Value.int .i64)).length = n * 1 by simp [hlen])
  have hN3 := Lib.hid (show ∀ u ∈ zs.map (Value.int .i64), u.oneCell' = true by
    intro u hu
    obtain ⟨z, _, rfl⟩ := List.mem_map.1 hu
    rfl)
  obtain ⟨L, hL⟩ : ∃ L, (vof (seenTo zs n)).length = L := ⟨_, rfl⟩
  have hL2 : L ≤ n := by omega
  have HL := Lib.hid (And.intro hL (show (seenTo zs n).length = L by omega))
  rw [hL] at CV
  clear hx hb hlen htc hsl hvl hL
  go_enter Try.func132, Try.ntmps132
  go_wp2_with (first
    | (go_at_call 131; refine CV.out.mono ?_; rintro e w1 ⟨v, rfl, hown, hB⟩
       obtain ⟨Av, cv, hv, hIV⟩ := row_ints hown (by omega)
       subst hv
       have HB := Lib.hid hB
       have HIV := Lib.hid hIV
       have HN2 := Lib.hid (show ∀ j u, (zs.map (Value.int .i64))[j]? = some u → (w1.alloc (.cells #[] 3)).cell? ((⟨bt, offt, none⟩ : Addr).add j) = some u by
         intro j u hu
         rw [add0, alloc_keep _ _ _ (by have := hB.size; show bt < _; omega), hB.cell (p := ⟨bt, offt + j, none⟩) hbt]
         simp only [List.getElem?_map, Option.map_eq_some_iff] at hu
         obtain ⟨z, hz, rfl⟩ := hu
         obtain ⟨hj, rfl⟩ := List.getElem?_eq_some_iff.1 hz
         exact HTC.out j hj)
       have HO := Lib.hid (show (w1.alloc (.cells #[] 3)).ownsRow w1.heap.size 3 1 (.slice (some ⟨w1.heap.size, 0, none⟩) 0 0) 0 [] from
         ⟨rfl, .inr ⟨w1.heap.size, 0, #[], rfl, Nat.le_refl _, heap_alloc_new w1 _, Nat.le_refl _, by unfold maxLen; omega, rfl, rfl⟩⟩)
       clear hown hB hIV)
    | (at_builtin
       refine wpList_append_own_at _ rfl _ _ 25 rfl w1.heap.size 3 i0 _ 1 8 Try.underlying25 hi hz0 hz1 hz2 rfl (by omega) (.slice (some ⟨w1.heap.size, 0, none⟩) 0 0) 0 [] rfl HO.out ⟨bt, offt, none⟩ n c (zs.map (Value.int .i64)) rfl hN1.out HN2.out hN3.out (by unfold maxLen; omega) (by omega) (by simp) ?_
       intro v2 w2 hown2 hg2 _ _
       have hBW := (((Below.refl _ w1).alloc (Nat.le_refl _) _).grown hg2 (by simp) (fun k e => by cases e; exact Nat.le_refl _))
       have hown3 := hown2
       rw [Nat.zero_add, List.nil_append] at hown3
       obtain ⟨g, cap, hv2, _, hglt⟩ := hown3.form (by omega)
       subst hv2
       have HBW := Lib.hid hBW
       have HOWN := Lib.hid hown3
       have HGB := Lib.hid ((hown3.lt g rfl).1)
       clear hown2 hg2 hown3 hBW hglt))
  have HR0 : Hid (w2.ownsRow w1.heap.size 3 1 (.slice (some ⟨g, 0, none⟩) n cap) n ((rl zs 0).map (Value.int .i64))) := by
    have := HOWN.out
    rw [rl_zero]
    exact this
  clear hi hz0 hz1 hz2
  obtain ⟨S, hS⟩ : ∃ S, seenTo zs n = S := ⟨_, rfl⟩
  rw [hS] at HIV HL
  have HS := Lib.hid hS
  have HND := Lib.hid (hS ▸ seenTo_nodup zs n)
  clear hS
  go_loopw [5] (fun i wr => ∃ k : Nat, k ≤ n ∧ i = .int .i64 k ∧ wr.ownsRow w1.heap.size 3 1 (.slice (some ⟨g, 0, none⟩) n cap) n ((rl zs k).map (Value.int .i64)) ∧ Below w1.heap.size w1 wr) (fun i _ => n - (intOf i).toNat)
  case atStart => exact ⟨0, Nat.zero_le _, rfl, HR0.out, HBW.out⟩
  case round =>
    obtain ⟨k, hk, rfl, hR, hBr⟩ := hrel
    by_cases hlt : k < n
    · have k1 : k < zs.length := by have := HLX.out; omega
      have hz := HTC.out k k1
      have hst := rl_start k1
      have hbd := HBD.out _ (List.getElem_mem k1)
      have hcv : (canon zs)[k]? = some (cval S zs[k] S.length) := by
        have := cval_all zs k1
        rw [← HLX.out, HS.out] at this
        exact this
      have hstep := rl_step k1 hcv
      obtain ⟨z, hzz⟩ : ∃ z, zs[k] = z := ⟨_, rfl⟩
      rw [hzz] at hz hst hbd hcv hstep
      obtain ⟨hb1, hb2⟩ := hbd
      have hk0 : (0 : Int) ≤ (k : Int) := by omega
      have hk1 : (k : Int) < (n : Int) := by omega
      have HR : Hid (wr.ownsRow w1.heap.size 3 1 (.slice (some ⟨g, 0, none⟩) n cap) n (((rl zs k).set k (cval S z 0)).map (Value.int .i64))) := by
        rw [cval_zero, hst]; exact hR
      have HBR := Lib.hid hBr
      have HZ := Lib.hid hz
      have HSTEP := Lib.hid hstep
      clear hR hBr hst hcv hz hstep hzz
      obtain ⟨wo, rfl⟩ : ∃ wo : World, wo = wr := ⟨_, rfl⟩
      go_wp2
      go_loopw [6] (fun j wq => ∃ q : Nat, q ≤ L ∧ j = .int .i64 q ∧ wq.ownsRow w1.heap.size 3 1 (.slice (some ⟨g, 0, none⟩) n cap) n (((rl zs k).set k (cval S z q)).map (Value.int .i64)) ∧ Below w1.heap.size w1 wq) (fun j _ => L - (intOf j).toNat)
      case atStart => exact ⟨0, Nat.zero_le _, rfl, HR.out, HBR.out⟩
      case round =>
        obtain ⟨q, hq, rfl, hRq, hBq⟩ := hrel
        have HRQ := Lib.hid hRq
        have HBQ := Lib.hid hBq
        clear hRq hBq
        by_cases hql : q < L
        · have cz : wr.cell? ⟨bt, offt + k, none⟩ = some (.int .i64 z) := ((HB.out.trans (HBQ.out.mono HB.out.size)).cell (p := ⟨bt, offt + k, none⟩) hbt).trans HZ.out
          obtain ⟨b, off, vq, rfl, cv0, q1, ev⟩ := (HIV.out.below HBQ.out).cellAt hql
          have q2 : q < S.length := by have := HL.out.2; omega
          have evs : vq = -S[q] - 1 := by rw [← ev]; simp [vof]
          have hsb : -1000000 ≤ S[q] ∧ S[q] ≤ 1000000 := HBD.out _ (seen_mem zs n _ (by rw [HS.out]; exact List.getElem_mem q2))
          have hsn := seen_neg zs n S[q] (by rw [HS.out]; exact List.getElem_mem q2)
          have hv1 : -2000000 ≤ vq := by omega
          have hv2 : vq ≤ 2000000 := by omega
          have hq0 : (0 : Int) ≤ (q : Int) := by omega
          have hq1 : (q : Int) < (L : Int) := by omega
          have hq2 : (q : Int) ≤ 1000000 := by omega
          have hmiss := cval_miss (z := z) q2
          have hhit := cval_hit (z := z) q2 HND.out
          have hlenr : k < n * 1 := by omega
          have ccell := HRQ.out.cellAt k hlenr
          have cfro := HRQ.out.frozenAt k
          have cst := HRQ.out.stored k (.int .i64 (-(q : Int) - 1))
          have hrl : ((((rl zs k).set k (cval S z q)).map (Value.int .i64)))[k]? = some (.int .i64 (cval S z q)) := by
            rw [List.getElem?_map, List.getElem?_set_self (by rw [rl_length (by omega)]; exact k1)]; rfl
          rw [hrl] at ccell
          obtain ⟨cvv, hcvv⟩ : ∃ cvv, cval S z q = cvv := ⟨_, rfl⟩
          rw [hcvv] at ccell
          by_cases e : z = S[q]
          · have HX : Hid ((wr.setCell ⟨g, k, none⟩ (.int .i64 (-(q : Int) - 1))).ownsRow w1.heap.size 3 1 (.slice (some ⟨g, 0, none⟩) n cap) n (((rl zs k).set k (cval S z (q + 1))).map (Value.int .i64)) ∧ Below w1.heap.size w1 (wr.setCell ⟨g, k, none⟩ (.int .i64 (-(q : Int) - 1)))) := by
              refine ⟨?_, HBQ.out.setCell (p := ⟨g, k, none⟩) HGB.out _⟩
              have h := cst.1
              rw [set_map_int, List.set_set] at h
              rw [hhit (by omega) e.symm]
              exact h
            have he : (z == -vq - 1) = true := by simp; omega
            clear e evs hsb hsn hmiss hhit cst hrl hcvv ev
            go_wp2_with fail
            go_quiet (fail)
            go_wp2
            go_roundw
            case rel => exact ⟨q + 1, by omega, by go_num, HX.out.1, ⟨HX.out.2.os, HX.out.2.tape, HX.out.2.output, HX.out.2.size, HX.out.2.block⟩⟩
            case measure => simp [intOf]; omega
          · have HX : Hid (wr.ownsRow w1.heap.size 3 1 (.slice (some ⟨g, 0, none⟩) n cap) n (((rl zs k).set k (cval S z (q + 1))).map (Value.int .i64)) ∧ Below w1.heap.size w1 wr) :=
              ⟨by rw [hmiss (fun h => e h.symm)]; exact HRQ.out, HBQ.out⟩
            have he : (z == -vq - 1) = false := by simp; omega
            clear e evs hsb hsn hmiss hhit cst hrl hcvv ev
            go_wp2_with fail
            go_quiet (fail)
            go_wp2
            go_roundw
            case rel => exact ⟨q + 1, by omega, by go_num, HX.out.1, below_drewN HX.out.2 _⟩
            case measure => simp [intOf]; omega
        · obtain rfl : q = L := by omega
          have HX : Hid (wr.ownsRow w1.heap.size 3 1 (.slice (some ⟨g, 0, none⟩) n cap) n ((rl zs (k + 1)).map (Value.int .i64))) := by
            have h := HRQ.out
            have := HSTEP.out
            rw [HL.out.2] at this
            rw [this] at h
            exact h
          go_wp2
          go_roundw
          case rel => exact ⟨k + 1, by omega, by go_num, HX.out, HBQ.out⟩
          case measure => simp [intOf]; omega
    · obtain rfl : k = n := by omega
      have HRR := Lib.hid hR
      have HBR := Lib.hid hBr
      clear hR hBr
      go_wp2
      go_ret
      refine ⟨_, _, rfl, ?_, HB.out.trans (HBR.out.mono HB.out.size)⟩
      have h := HRR.out
      rw [HLX.out, rl_all, ← HLX.out] at h
      obtain ⟨A', c', e, hI, hk⟩ := row_intsk h hn
      cases e
      exact ⟨hI, hk⟩

end Go.Proofs.Ytpdokmdapjdnoaa
