/- Contracts: the reference's Applied, Apply, Occurs. -/
import Derived.Test.YtodcogngejgpfaaN10g
namespace Go.Proofs.Ytodcogngejgpfaa
open Go.RowKit

/-- A list of numbers handed back in memory of the call's own. -/
def RetOwn (w : World) (zs : List Int) : Ending → World → Prop := fun e w' => ∃ v base, e = .returned v ∧ w.heap.size ≤ base ∧ w'.ownsRow base 3 1 v zs.length (zs.map (Value.int .i64)) ∧ Below w.heap.size w w'
theorem RetOwn.list {w w' : World} {zs : List Int} {e : Ending} (hn : zs.length ≤ 1000000) (h : RetOwn w zs e w') : RetL w zs e w' := by
  obtain ⟨v, base, rfl, _, hrow, hB⟩ := h
  obtain ⟨A, c, rfl, hI⟩ := row_ints hrow hn
  exact ⟨A, _, c, rfl, hI, hB⟩

theorem news_ints {W : World} {B n b off : Nat} {t : List Int} (h : IntsAt W B (some ⟨b, off, none⟩) n t) (h0 : 0 < n) : ∀ j u, (t.map (Value.int .i64))[j]? = some u → W.cell? ((⟨b, off, none⟩ : Addr).add j) = some u := by
  intro j u hu
  obtain ⟨b', off', e, _, hc⟩ := h.mem h0
  cases e
  rw [List.getElem?_map] at hu
  have hj : j < t.length := by
    rcases Nat.lt_or_ge j t.length with h | h
    · exact h
    · rw [List.getElem?_eq_none h] at hu; cases hu
  rw [List.getElem?_eq_getElem hj] at hu
  cases hu
  rw [add0]
  exact hc j hj
theorem ints_cells1 (zs : List Int) : ∀ u ∈ zs.map (Value.int .i64), u.oneCell' = true := by
  intro u hu
  obtain ⟨z, _, rfl⟩ := List.mem_map.1 hu
  rfl

set_option maxRecDepth 100000 in
set_option maxHeartbeats 2000000 in
theorem refAppliedR_any (Ab At : Option Addr) (nb cb nt ct : Nat) (ss : Sg) (ls : List Hd) (bb : List Bd) (zs : List Int) (w : World) (hb : BindsAt w w.heap.size Ab nb ls bb) (ht : IntsAt w w.heap.size At nt zs) (hn : nb ≤ 1000000) (hok : bindsOk ss bb = true) (hz : NumsIn ss zs) (hnt : nt ≤ 1000) :
    Calls Try.prog 70 #[.slice Ab nb cb, .slice At nt ct] w (RetOwn w (appl bb zs)) := by
  obtain ⟨i0, hi, hz0, hz1, hz2⟩ := info_parts info_int
  have HT := Lib.hid ht
  have HB := Lib.hid hb
  have HLT := Lib.hid ht.len
  have HOK := Lib.hid hok
  have HZ := Lib.hid hz
  clear hb ht hok hz
  go_enter Try.func70, Try.ntmps70
  go_wp2
  go_loopw [5, 6] (fun o i wr => ∃ (k L : Nat) (Av : Option Addr) (cv : Nat) (xs : List Int), k ≤ nt ∧ i = .int .i64 k ∧ o = .slice Av L cv ∧ xs = appl bb (zs.take k) ∧ L = xs.length ∧ L ≤ 60 * k ∧ wr.ownsRow w.heap.size 3 1 (.slice Av L cv) L (xs.map (Value.int .i64)) ∧ Below w.heap.size w wr) (fun _ i _ => nt - (intOf i).toNat)
  case atStart => exact ⟨0, 0, none, 0, [], Nat.zero_le _, rfl, rfl, rfl, rfl, by omega, World.ownsRow_nil _ _ _ _, Below.refl _ _⟩
  case round =>
    obtain ⟨k, L, Av, cv, xs, hk, rfl, rfl, hxs, hL, hL60, hown, hB⟩ := hrel
    by_cases hlt : k < nt
    · obtain ⟨b, off, z, rfl, c0, k1, e1⟩ := HT.out.cellAt hlt
      obtain ⟨b', off', he', hbl, _⟩ := HT.out.mem (by omega)
      cases he'
      have c1 := (hB.cell (p := ⟨b, off + k, none⟩) hbl).trans c0
      have hzz := HZ.out z (by rw [← e1]; exact List.getElem_mem k1)
      have hsucc := appl_take_succ bb k1
      rw [e1, ← hxs] at hsucc
      have hk0 : (0 : Int) ≤ (k : Int) := by omega
      have hk1' : (k : Int) < (nt : Int) := by omega
      have HOWN := Lib.hid hown
      have HBW := Lib.hid hB
      have HL := Lib.hid hL
      by_cases hneg : z < 0
      · rw [if_pos hneg] at hsucc
        have CO := refOf_any Ab nb cb (-z - 1) ls bb wr (HB.out.up hB) hn (by omega) (by omega)
        have hvl := ofB_len HOK.out (v := -z - 1) (by omega) (by omega)
        obtain ⟨ys, hys⟩ : ∃ ys, ofB bb (-z - 1) = ys := ⟨_, rfl⟩
        rw [hys] at CO hvl hsucc
        have CO2 : Hid (Calls Try.prog 68 #[.slice Ab nb cb, .int .i64 (-z - 1)] wr fun e w' => ∃ b2 off2 n2 c2, e = .returned (.slice (some ⟨b2, off2, none⟩) n2 c2) ∧ n2 ≤ 60 ∧ (ys.map (Value.int .i64)).length = n2 * 1 ∧ n2 = ys.length ∧ (∀ j u, (ys.map (Value.int .i64))[j]? = some u → w'.cell? ((⟨b2, off2, none⟩ : Addr).add j) = some u) ∧ w'.ownsRow w.heap.size 3 1 (.slice Av L cv) L (xs.map (Value.int .i64)) ∧ Below w.heap.size w w') := by
          refine Lib.hid (CO.mono ?_)
          rintro e w' ⟨A', n', c', rfl, hI, hb'⟩
          have hlen := hI.len
          obtain ⟨b2, off2, z', rfl, _, _, _⟩ := hI.cellAt (show 0 < n' by omega)
          exact ⟨b2, off2, n', c', rfl, by omega, by simp; omega, hlen, news_ints hI (by omega), row_blw hown hb', below_then hB hb'⟩
        have w1' : IntKind.i64.wrap (-z) = -z := by rw [IntKind.wrap_i64]; omega
        have w2' : IntKind.i64.wrap (-z - 1) = -z - 1 := by rw [IntKind.wrap_i64]; omega
        have HY1 := Lib.hid (ints_cells1 ys)
        have HSUC := Lib.hid hsucc
        clear hown hB hxs hL hvl hys hsucc CO c0 k1 e1
        go_wp2_with (first
          | (go_at_call 68; refine CO2.out.mono ?_; rintro e w2 ⟨b2, off2, n2, c2, rfl, hn2, hl2, hn2y, hnews, hrow, hB2⟩; have HB2 := Lib.hid hB2; have HROW := Lib.hid hrow; have HNEWS := Lib.hid hnews; have HL2 := Lib.hid hl2; have HN2 := Lib.hid hn2y; clear hB2 hrow hnews hl2 hn2y)
          | (at_builtin
             refine wpList_append_own_at _ rfl _ _ 30 rfl w.heap.size 3 i0 _ 1 8 Try.underlying30 hi hz0 hz1 hz2 rfl (by omega) (.slice Av L cv) L _ rfl HROW.out ⟨b2, off2, none⟩ n2 _ (ys.map (Value.int .i64)) rfl HL2.out HNEWS.out HY1.out (by unfold maxLen; omega) (by omega) HB2.out.size ?_
             intro v4 w4 hown4 hg4 _ _
             have HB4 := Lib.hid (HB2.out.grown hg4 HB2.out.size (fun k e => (HROW.out.lt k e).1))
             rw [← List.map_append] at hown4
             obtain ⟨A4, c4, e4, _⟩ := row_ints hown4 (by omega)
             subst e4
             have HO4 := Lib.hid hown4
             clear hown4 hg4))
        go_roundw
        case rel => exact ⟨k + 1, L + n2, A4, c4, xs ++ ys, by omega, by go_num, rfl, HSUC.out.symm, by rw [List.length_append, ← HL.out, ← HN2.out], by omega, HO4.out, HB4.out⟩
        case measure => simp [intOf]; omega
      · rw [if_neg hneg] at hsucc
        have HSUC := Lib.hid hsucc
        have hpos : 0 ≤ z := by omega
        clear hown hB hxs hL hsucc c0 k1 e1
        go_wp2_with (first
          | (at_builtin
             refine wpList_append_own_at _ rfl _ _ 30 rfl w.heap.size 3 i0 _ 1 8 Try.underlying30 hi hz0 hz1 hz2 rfl (by omega) (.slice Av L cv) L _ rfl (HOWN.out.alloc _) ⟨wr.heap.size, 0, none⟩ 1 1 [.int .i64 z] rfl rfl
               (World.news_of_block (cs := #[.int .i64 z]) (t := 3) (fr := (0, 0)) (heap_alloc_new wr _)) (by simp [Value.oneCell']) (by unfold maxLen; omega) (by omega) (by have := HBW.out.size; simp; omega) ?_
             intro v4 w4 hown4 hg4 _ _
             have HB4 := Lib.hid ((HBW.out.alloc HBW.out.size _).grown hg4 (by have := HBW.out.size; simp; omega) (fun j e => (HOWN.out.lt j e).1))
             have hown5 : w4.ownsRow w.heap.size 3 1 v4 (L + 1) ((xs ++ [z]).map (Value.int .i64)) := by rw [List.map_append]; exact hown4
             obtain ⟨A4, c4, e4, _⟩ := row_ints hown5 (by omega)
             subst e4
             have HO4 := Lib.hid hown5
             clear hown4 hown5 hg4))
        go_roundw
        case rel => exact ⟨k + 1, L + 1, A4, c4, xs ++ [z], by omega, by go_num, rfl, HSUC.out.symm, by rw [List.length_append, ← HL.out]; rfl, by omega, HO4.out, HB4.out⟩
        case measure => simp [intOf]; omega
    · obtain rfl : k = nt := by omega
      have hall : zs.take k = zs := List.take_of_length_le (by rw [← HLT.out]; exact Nat.le_refl _)
      rw [hall] at hxs
      have HR := Lib.hid hown
      have HX := Lib.hid hxs
      have HBW := Lib.hid hB
      have HL := Lib.hid hL
      clear hown hB hxs hL hall
      go_wp2
      go_ret
      exact ⟨_, _, rfl, Nat.le_refl _, by rw [← HX.out, ← HL.out]; exact HR.out, HBW.out⟩

theorem refApplied_any (Ab At : Option Addr) (nb cb nt ct : Nat) (ss : Sg) (ls : List Hd) (bb : List Bd) (zs : List Int) (w : World) (hb : BindsAt w w.heap.size Ab nb ls bb) (ht : IntsAt w w.heap.size At nt zs) (hn : nb ≤ 1000000) (hok : bindsOk ss bb = true) (hz : NumsIn ss zs) (hnt : nt ≤ 1000) :
    Calls Try.prog 70 #[.slice Ab nb cb, .slice At nt ct] w (RetL w (appl bb zs)) :=
  (refAppliedR_any Ab At nb cb nt ct ss ls bb zs w hb ht hn hok hz hnt).mono fun _ _ h => h.list (by have := appl_len_take hok hz; have := ht.len; omega)

/-- What Apply hands back. -/
def applZ (ss : Sg) (bb : List Bd) (zs : List Int) : List Int × Int := if (bindsOk ss bb && valOk ss zs) = true then (if (appl bb zs).length ≤ 60 then (appl bb zs, 0) else ([], 4)) else ([], 1)
/-- What Occurs hands back. -/
def occZ (ss : Sg) (v : Int) (zs : List Int) : Bool × Int := if valOk ss zs = true then (if 0 ≤ v ∧ v < 12 then (zs.contains (-v - 1), 0) else (false, 7)) else (false, 1)

set_option maxRecDepth 100000 in
set_option maxHeartbeats 2000000 in
theorem refApply_any (As Ab At : Option Addr) (ns cs nb cb nt ct : Nat) (ss : Sg) (ls : List Hd) (bb : List Bd) (zs : List Int) (w : World) (hs : SigAt w w.heap.size As ns ss) (hb : BindsAt w w.heap.size Ab nb ls bb) (ht : IntsAt w w.heap.size At nt zs) (hn : nb ≤ 1000000) :
    Calls Try.prog 25 #[.slice As ns cs, .slice Ab nb cb, .slice At nt ct] w (RetT w (applZ ss bb zs).1 (applZ ss bb zs).2) := by
  have C1 := Lib.hid (refBinds_any As Ab ns cs nb cb ss ls bb w hs hb hn)
  have C2 := Lib.hid (fun V (h : Below w.heap.size w V) => refValid_any As At ns cs nt ct ss zs V _ (hs.up h) (ht.up h))
  cases hok : bindsOk ss bb
  · have hz : applZ ss bb zs = ([], 1) := by simp [applZ, hok]
    rw [hz]
    rw [hok] at C1
    clear hs hb ht hok hz
    go_enter Try.func25, Try.ntmps25
    go_wp2_with (go_at_call 19; refine C1.out.mono ?_; rintro e w1 ⟨rfl, hB1⟩; have HB1 := Lib.hid hB1; clear hB1)
    go_ret2
    exact ⟨none, 0, 0, rfl, IntsAt.nil _ _ 0, HB1.out⟩
  · rw [hok] at C1
    cases hv : valOk ss zs
    · have hz : applZ ss bb zs = ([], 1) := by simp [applZ, hok, hv]
      rw [hz]
      simp only [hv] at C2
      clear hs hb ht hok hz hv
      go_enter Try.func25, Try.ntmps25
      go_wp2_with (first
        | (go_at_call 19; refine C1.out.mono ?_; rintro e w1 ⟨rfl, hB1⟩; have HB1 := Lib.hid hB1; clear hB1)
        | (go_at_call 63; refine (C2.out _ HB1.out).mono ?_; rintro e w2 ⟨rfl, j2, rfl⟩; have HB2 := Lib.hid (below_drewN HB1.out j2)))
      go_ret2
      exact ⟨none, 0, 0, rfl, IntsAt.nil _ _ 0, HB2.out⟩
    · obtain ⟨hv1, hv2, hv3, hv4⟩ := valOk_term hv
      have C3 := Lib.hid (fun V (h : Below w.heap.size w V) => refApplied_any Ab At nb cb nt ct ss ls bb zs V (hb.up h) (ht.up h) hn hok hv3 (by rw [ht.len]; omega))
      have hlen := appl_len_take hok (zs := zs) hv3
      obtain ⟨xs, hxs⟩ : ∃ xs, appl bb zs = xs := ⟨_, rfl⟩
      have hz : applZ ss bb zs = if xs.length ≤ 60 then (xs, 0) else ([], 4) := by simp [applZ, hok, hv, hxs]
      rw [hz]
      rw [hxs] at hlen
      simp only [hv, hxs] at C2 C3
      have hlm : xs.length ≤ 100000 := by omega
      obtain ⟨m, hm⟩ : ∃ m, xs.length = m := ⟨_, rfl⟩
      have HM := Lib.hid hm
      rw [hm] at hlm ⊢
      by_cases h60 : m ≤ 60
      · rw [if_pos h60]
        have h60' : ¬ (60 : Int) < (m : Int) := by omega
        clear hs hb ht hok hz hv hv1 hv2 hv3 hv4 hxs hlen hm
        go_enter Try.func25, Try.ntmps25
        go_wp2_with (first
          | (go_at_call 19; refine C1.out.mono ?_; rintro e w1 ⟨rfl, hB1⟩; have HB1 := Lib.hid hB1; clear hB1)
          | (go_at_call 63; refine (C2.out _ HB1.out).mono ?_; rintro e w2 ⟨rfl, j2, rfl⟩; have HB2 := Lib.hid (below_drewN HB1.out j2))
          | (go_at_call 70; refine (C3.out _ HB2.out).mono ?_; rintro e w3 ⟨A3, n3, c3, rfl, hI3, hB3⟩; obtain rfl : n3 = m := hI3.len.trans HM.out; have HI3 := Lib.hid hI3; have HB3 := Lib.hid (below_then HB2.out hB3); clear hI3 hB3))
        go_ret2
        exact ⟨_, _, _, rfl, HI3.out, HB3.out⟩
      · rw [if_neg h60]
        have h60' : (60 : Int) < (m : Int) := by omega
        clear hs hb ht hok hz hv hv1 hv2 hv3 hv4 hxs hlen hm
        go_enter Try.func25, Try.ntmps25
        go_wp2_with (first
          | (go_at_call 19; refine C1.out.mono ?_; rintro e w1 ⟨rfl, hB1⟩; have HB1 := Lib.hid hB1; clear hB1)
          | (go_at_call 63; refine (C2.out _ HB1.out).mono ?_; rintro e w2 ⟨rfl, j2, rfl⟩; have HB2 := Lib.hid (below_drewN HB1.out j2))
          | (go_at_call 70; refine (C3.out _ HB2.out).mono ?_; rintro e w3 ⟨A3, n3, c3, rfl, hI3, hB3⟩; obtain rfl : n3 = m := hI3.len.trans HM.out; have HI3 := Lib.hid hI3; have HB3 := Lib.hid (below_then HB2.out hB3); clear hI3 hB3))
        go_ret2
        exact ⟨none, 0, 0, rfl, IntsAt.nil _ _ 0, HB3.out⟩

set_option maxRecDepth 100000 in
set_option maxHeartbeats 2000000 in
theorem refOccurs_any (As At : Option Addr) (ns cs nt ct : Nat) (v : Int) (ss : Sg) (zs : List Int) (w : World) (hs : SigAt w w.heap.size As ns ss) (ht : IntsAt w w.heap.size At nt zs) (h1 : -1000000 ≤ v) (h2 : v ≤ 1000000) :
    Calls Try.prog 28 #[.slice As ns cs, .int .i64 v, .slice At nt ct] w fun e w' => e = .returned (.tuple #[.bool (occZ ss v zs).1, .int .i64 (occZ ss v zs).2]) ∧ Below w.heap.size w w' := by
  have C1 := Lib.hid (refValid_any As At ns cs nt ct ss zs w _ hs ht)
  have CW := Lib.hid (fun V => within2_any v 0 11 V)
  have CH := Lib.hid (fun V (h : Below w.heap.size w V) => has_any At nt ct zs (-v - 1) V _ (ht.up h))
  have hw12 : wit2 v 0 11 = (decide (0 ≤ v) && decide (v ≤ 11)) := rfl
  cases hv : valOk ss zs
  · have hz : occZ ss v zs = (false, 1) := by simp [occZ, hv]
    rw [hz]
    rw [hv] at C1
    clear hs ht hv hz
    go_enter Try.func28, Try.ntmps28
    go_wp2_with (go_at_call 63; refine C1.out.mono ?_; rintro e w1 ⟨rfl, j1, rfl⟩)
    go_ret2
    exact ⟨rfl, below_drewN (Below.refl _ _) _⟩
  · rw [hv] at C1
    by_cases hr : 0 ≤ v ∧ v < 12
    · have hz : occZ ss v zs = (zs.contains (-v - 1), 0) := by simp [occZ, hv, hr]
      rw [hz]
      obtain ⟨q, hq⟩ : ∃ q, zs.contains (-v - 1) = q := ⟨_, rfl⟩
      simp only [hq] at CH ⊢
      have hwt : wit2 v 0 11 = true := by rw [hw12]; simp; omega
      simp only [hwt] at CW
      clear hs ht hv hz hq hw12 hwt
      go_enter Try.func28, Try.ntmps28
      go_wp2_with (first
        | (go_at_call 63; refine C1.out.mono ?_; rintro e w1 ⟨rfl, j1, rfl⟩)
        | (go_at_call 62; ((with_reducible refine (CW.out _).mono ?_); rintro e w2 ⟨rfl, rfl⟩))
        | (go_at_call 44; refine (CH.out _ (below_drewN (Below.refl _ _) j1)).mono ?_; rintro e w3 ⟨rfl, rfl⟩))
      go_ret2
      exact ⟨rfl, below_drewN (Below.refl _ _) _⟩
    · have hz : occZ ss v zs = (false, 7) := by simp [occZ, hv, hr]
      rw [hz]
      have hwt : wit2 v 0 11 = false := by rw [hw12]; simp; omega
      simp only [hwt] at CW
      clear hs ht hv hz hw12 hwt CH
      go_enter Try.func28, Try.ntmps28
      go_wp2_with (first
        | (go_at_call 63; refine C1.out.mono ?_; rintro e w1 ⟨rfl, j1, rfl⟩)
        | (go_at_call 62; ((with_reducible refine (CW.out _).mono ?_); rintro e w2 ⟨rfl, rfl⟩)))
      go_ret2
      exact ⟨rfl, below_drewN (Below.refl _ _) _⟩

end Go.Proofs.Ytodcogngejgpfaa
