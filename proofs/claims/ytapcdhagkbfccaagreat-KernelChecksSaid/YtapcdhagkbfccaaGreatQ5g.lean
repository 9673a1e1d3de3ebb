/- Contract: Alike. -/
import Derived.Test.YtapcdhagkbfccaaGreatW0g
import Derived.Test.YtapcdhagkbfccaaGreatC1g
import Derived.Test.YtapcdhagkbfccaaGreatR3g
import Derived.Test.YtapcdhagkbfccaaGreatV1g
/- Contracts: slices.Equal at Term; the reference's Has, Variables. -/
namespace Go.Proofs.YtapcdhagkbfccaaGreat
open Go.RowKit

set_option maxRecDepth 100000 in
set_option maxHeartbeats 1000000 in
theorem eqT_any (A A2 : Option Addr) (n c n2 c2 : Nat) (xs ys : List Int) (w : World) (B : Nat) (hx : IntsAt w B A n xs) (hy : IntsAt w B A2 n2 ys) :
    Calls Tryz.prog 88 #[.slice A n c, .slice A2 n2 c2] w fun e w' => e = .returned (.bool (decide (xs = ys))) ∧ ∃ k, w' = w.drewN k := by
  have hlx := hx.len
  have hly := hy.len
  have hmx := hx.max
  by_cases hne : n = n2
  · have HL := Lib.hid (show xs.length = ys.length by omega)
    have HX := Lib.hid hx
    have HY := Lib.hid hy
    have HLX := Lib.hid hlx
    subst hne
    have hb : ((n : Int) != (n : Int)) = false := by simp
    clear hx hy hlx hly
    go_enter Tryz.func88, Tryz.ntmps88
    go_wp2
    go_loopw [13] (fun i wr => ∃ k : Nat, k ≤ n ∧ i = .int .i64 k ∧ Agree xs ys k ∧ ∃ m, wr = w.drewN m) (fun i _ => n - (intOf i).toNat)
    case atStart => exact ⟨0, Nat.zero_le _, rfl, Agree.zero _ _, 0, rfl⟩
    case round =>
      obtain ⟨k, hk, rfl, hA, m, rfl⟩ := hrel
      by_cases hlt : k < n
      · obtain ⟨b, off, z, rfl, c1, k1, e1⟩ := HX.out.cellAt hlt
        obtain ⟨b2, off2, y, rfl, c2, k2, e2⟩ := HY.out.cellAt hlt
        have hk0 : (0 : Int) ≤ (k : Int) := by omega
        have hk1 : (k : Int) < (n : Int) := by omega
        by_cases e : z = y
        · have H := Lib.hid (hA.succ k1 k2 (by rw [e1, e2, e]))
          have he : (z != y) = false := by simp [e]
          have he2 : (z == y) = true := by simp [e]
          clear e e1 e2 hA
          go_wp2_with fail
          go_quiet (fail)
          go_wp2
          go_roundw
          case rel => exact ⟨k + 1, by omega, by go_num, H.out, _, rfl⟩
          case measure => simp [intOf]; omega
        · have H := Lib.hid (Agree.bad k1 k2 (by rw [e1, e2]; exact e))
          have he : (z != y) = true := by simp [e]
          clear e e1 e2 hA
          go_wp2_with fail
          go_quiet (fail)
          go_wp2
          go_ret
          exact ⟨ret_b H.out.symm, _, World.drewN_drewN ..⟩
      · obtain rfl : k = n := by omega
        have H := Lib.hid (Agree.good (by rw [← HLX.out]; exact hA) HL.out)
        clear hA
        go_wp2
        go_ret
        exact ⟨ret_b H.out.symm, _, rfl⟩
  · have H := Lib.hid (len_ne (xs := xs) (ys := ys) (by omega))
    have hb : ((n : Int) != (n2 : Int)) = true := by simp; omega
    clear hx hy hlx hly hne
    go_enter Tryz.func88, Tryz.ntmps88
    go_wp2
    go_ret
    exact ⟨ret_b H.out.symm, 0, rfl⟩


theorem row_ints {w : World} {base n : Nat} {v : Value} {zs : List Int} (h : w.ownsRow base 3 1 v n (zs.map (Value.int .i64))) (hn : n ≤ 1000000) : ∃ A c, v = .slice A n c ∧ IntsAt w w.heap.size A n zs := by
  obtain ⟨hl, ⟨rfl, rfl⟩ | ⟨g, cap, cur, rfl, hbg, hcur, hn1, hn2, hsz, htk⟩⟩ := h
  · have : zs = [] := List.eq_nil_of_length_eq_zero (by simpa using hl)
    subst this
    exact ⟨none, 0, rfl, IntsAt.nil _ _ 0⟩
  · have hl' : n = zs.length := by simpa using hl.symm
    refine ⟨some ⟨g, 0, none⟩, cap, rfl, ⟨hl', by omega, fun _ => ⟨g, 0, rfl, Blk.lt (t := 3) hcur, fun j hj => ?_⟩⟩⟩
    have hj' : j < n * 1 := by omega
    rw [Blk.cell (t := 3) hcur, Nat.zero_add]
    have e1 : cur.toList[j]? = (cur.toList.take (n * 1))[j]? := by rw [List.getElem?_take, if_pos hj']
    rw [← Array.getElem?_toList, e1, htk, List.getElem?_map, List.getElem?_eq_getElem hj]
    rfl

def NotIn (xs : List Int) (z : Int) (k : Nat) : Prop := ∀ j (h : j < xs.length), j < k → xs[j] ≠ z
theorem NotIn.all {xs : List Int} {z : Int} (h : NotIn xs z xs.length) : xs.contains z = false := by
  cases e : xs.contains z
  · rfl
  · obtain ⟨i, hi, he⟩ := List.mem_iff_getElem.1 (List.contains_iff_mem.1 e)
    exact absurd he (h i hi hi)

set_option maxHeartbeats 1000000 in
theorem has_any (A : Option Addr) (n c : Nat) (xs : List Int) (z : Int) (w : World) (B : Nat) (hx : IntsAt w B A n xs) :
    Calls Tryz.prog 116 #[.slice A n c, .int .i64 z] w fun e w' => e = .returned (.bool (xs.contains z)) ∧ w = w' := by
  have HLX := Lib.hid hx.len
  have hmx := hx.max
  have HX := Lib.hid hx
  obtain ⟨qb, hqb⟩ : ∃ qb, xs.contains z = qb := ⟨_, rfl⟩
  rw [hqb]
  have HQ := Lib.hid hqb
  clear hx hqb
  go_enter Tryz.func116, Tryz.ntmps116
  go_wp2
  go_loop [5] (fun i => ∃ k : Nat, k ≤ n ∧ i = .int .i64 k ∧ NotIn xs z k) (fun i => n - (intOf i).toNat)
  case atStart => exact ⟨0, Nat.zero_le _, rfl, fun _ _ h => absurd h (by omega)⟩
  case round =>
    obtain ⟨k, hk, rfl, hA⟩ := hrel
    by_cases hlt : k < n
    · obtain ⟨b, off, y, rfl, c1, k1, e1⟩ := HX.out.cellAt hlt
      by_cases e : y = z
      · have H := Lib.hid (show qb = true by rw [← HQ.out, List.contains_iff_mem, ← e, ← e1]; exact List.getElem_mem k1)
        have he : (y == z) = true := by simp [e]
        clear e e1 hA
        go_wp2
        go_ret
        exact ⟨ret_b H.out.symm, rfl⟩
      · have H : Hid (NotIn xs z (k + 1)) := by
          intro j hj hlt2
          by_cases hjk : j < k
          · exact hA j hj hjk
          · obtain rfl : j = k := by omega
            rw [e1]; exact e
        have he : (y == z) = false := by simp [e]
        clear e e1 hA
        go_wp2
        go_round
        case rel => exact ⟨k + 1, by omega, by go_num, H.out⟩
        case measure => simp [intOf]; omega
    · obtain rfl : k = n := by omega
      have H := Lib.hid (show qb = false by rw [← HQ.out]; exact NotIn.all (by rw [← HLX.out]; exact hA))
      clear hA
      go_wp2
      go_ret
      exact ⟨ret_b H.out.symm, rfl⟩

def vof (l : List Int) : List Int := l.map fun z => -z - 1
theorem vof_contains (l : List Int) (z : Int) : (vof l).contains (-z - 1) = l.contains z := by
  rw [Bool.eq_iff_iff, List.contains_iff_mem, List.contains_iff_mem]
  unfold vof
  rw [List.mem_map]
  constructor
  · rintro ⟨y, hy, e⟩
    obtain rfl : y = z := by omega
    exact hy
  · intro h; exact ⟨z, h, rfl⟩

set_option maxRecDepth 100000 in
set_option maxHeartbeats 1000000 in
theorem variables_any (A : Option Addr) (n c : Nat) (zs : List Int) (w : World) (hx : IntsAt w w.heap.size A n zs) (hn : n ≤ 1000000) (hb : ∀ z ∈ zs, -1000000 ≤ z ∧ z ≤ 1000000) :
    Calls Tryz.prog 92 #[.slice A n c] w fun e w' => ∃ v, e = .returned v ∧ w'.ownsRow w.heap.size 3 1 v (vof (seenTo zs n)).length ((vof (seenTo zs n)).map (Value.int .i64)) ∧ Below w.heap.size w w' := by
  obtain ⟨i0, hi, hz0, hz1, hz2⟩ := info_parts info_int
  have HLX := Lib.hid hx.len
  have HX := Lib.hid hx
  have HBD := Lib.hid hb
  clear hx hb
  go_enter Tryz.func92, Tryz.ntmps92
  go_wp2
  go_loopw [3, 4] (fun v i wr => ∃ (k : Nat) (Av : Option Addr) (cv : Nat), k ≤ n ∧ i = .int .i64 k ∧ v = .slice Av (vof (seenTo zs k)).length cv ∧ wr.ownsRow w.heap.size 3 1 (.slice Av (vof (seenTo zs k)).length cv) (vof (seenTo zs k)).length ((vof (seenTo zs k)).map (Value.int .i64)) ∧ Below w.heap.size w wr) (fun _ i _ => n - (intOf i).toNat)
  case atStart => exact ⟨0, none, 0, Nat.zero_le _, rfl, rfl, World.ownsRow_nil _ _ _ _, Below.refl _ _⟩
  case round =>
    obtain ⟨k, Av, cv, hk, rfl, rfl, hown, hB⟩ := hrel
    by_cases hlt : k < n
    · obtain ⟨b, off, z, rfl, c0, k1, e1⟩ := HX.out.cellAt hlt
      obtain ⟨b', off', he', hbl, _⟩ := HX.out.mem (by omega)
      cases he'
      have c1 := (hB.cell (p := ⟨b, off + k, none⟩) hbl).trans c0
      have hbd := HBD.out _ (List.getElem_mem k1)
      have hseen := seenTo_succ k1
      have hle := seenTo_le zs k
      rw [e1] at hbd hseen
      obtain ⟨hb1, hb2⟩ := hbd
      have hvl : (vof (seenTo zs k)).length = (seenTo zs k).length := by simp [vof]
      have hvl2 : (vof (seenTo zs k)).length ≤ k := by omega
      obtain ⟨Ar, cr, her, hr⟩ := row_ints hown (by omega)
      cases her
      have HH := Lib.hid (has_any Av _ cv _ (-z - 1) wr _ hr)
      have HB := Lib.hid hB
      have HOWN := Lib.hid hown
      clear hvl hr hle c0 e1 hB hown
      by_cases hpos : 0 ≤ z
      · have H := Lib.hid (show seenTo zs (k + 1) = seenTo zs k by rw [hseen]; simp [addSeen, hpos])
        have hneg : ¬ z < 0 := by omega
        clear hseen
        obtain ⟨L, hL⟩ : ∃ L, (vof (seenTo zs k)).length = L := ⟨_, rfl⟩
        rw [hL] at HOWN hvl2
        have HLL := Lib.hid hL
        rw [hL]
        clear hL HH
        go_wp2
        go_roundw
        case rel => exact ⟨k + 1, Av, cv, by omega, by go_num, by rw [H.out, HLL.out], by rw [H.out, HLL.out]; exact HOWN.out, HB.out⟩
        case measure => simp [intOf]; omega
      · have hneg : z < 0 := by omega
        clear hpos
        cases hcon : (seenTo zs k).contains z
        · have H := Lib.hid (show vof (seenTo zs (k + 1)) = vof (seenTo zs k) ++ [-z - 1] by
            rw [hseen]; simp only [addSeen, if_neg (show ¬ 0 ≤ z from by omega), hcon]; simp [vof])
          have HC := Lib.hid (show (vof (seenTo zs k)).contains (-z - 1) = false by rw [vof_contains]; exact hcon)
          clear hseen hcon
          generalize vof (seenTo zs k) = V at *
          obtain ⟨L, hL⟩ : ∃ L, V.length = L := ⟨_, rfl⟩
          rw [hL] at HOWN hvl2 HH
          have HLL := Lib.hid hL
          rw [hL]
          clear hL
          go_wp2_with (first
            | (go_at_call 116; refine HH.out.mono ?_; rintro e w' ⟨rfl, rfl⟩; rw [HC.out])
            | (at_builtin
               refine wpList_append_own_at _ rfl _ _ 26 rfl w.heap.size 3 i0 _ 1 8 Tryz.underlying26 hi hz0 hz1 hz2 rfl (by omega) _ _ _ rfl (HOWN.out.alloc _) ⟨wr.heap.size, 0, none⟩ 1 1 [.int .i64 (-z - 1)] rfl rfl
                 (World.news_of_block (cs := #[.int .i64 (-z - 1)]) (t := 3) (fr := (0, 0)) (heap_alloc_new wr _)) (by simp [Value.oneCell']) (by unfold maxLen; omega) (by omega) (by have := HB.out.size; simp; omega) ?_
               intro v1 w1 hown1 hg1 _ _
               have HB1 := Lib.hid ((HB.out.alloc HB.out.size _).grown hg1 (by have := HB.out.size; simp; omega) (fun j e => (HOWN.out.lt j e).1))
               obtain ⟨g1, cap1, hv1, _⟩ := hown1.form (by omega)
               subst hv1
               have HOWN1 := Lib.hid hown1
               clear hown1 hg1))
          go_roundw
          case rel => exact ⟨k + 1, some ⟨g1, 0, none⟩, cap1, by omega, by go_num, by rw [H.out, List.length_append, HLL.out]; rfl, by rw [H.out, List.length_append, HLL.out, List.map_append]; exact HOWN1.out, HB1.out⟩
          case measure => simp [intOf]; omega
        · have H := Lib.hid (show seenTo zs (k + 1) = seenTo zs k by
            rw [hseen]; simp only [addSeen, if_neg (show ¬ 0 ≤ z from by omega), hcon]; simp)
          have HC := Lib.hid (show (vof (seenTo zs k)).contains (-z - 1) = true by rw [vof_contains]; exact hcon)
          clear hseen hcon
          obtain ⟨L, hL⟩ : ∃ L, (vof (seenTo zs k)).length = L := ⟨_, rfl⟩
          rw [hL] at HOWN hvl2 HH
          have HLL := Lib.hid hL
          rw [hL]
          clear hL
          go_wp2_with (go_at_call 116; refine HH.out.mono ?_; rintro e w' ⟨rfl, rfl⟩; rw [HC.out])
          go_roundw
          case rel => exact ⟨k + 1, Av, cv, by omega, by go_num, by rw [H.out, HLL.out], by rw [H.out, HLL.out]; exact HOWN.out, HB.out⟩
          case measure => simp [intOf]; omega
    · obtain rfl : k = n := by omega
      obtain ⟨L, hL⟩ : ∃ L, (vof (seenTo zs k)).length = L := ⟨_, rfl⟩
      have HO := Lib.hid hown
      have HB := Lib.hid hB
      clear hown hB
      rw [hL] at HO
      rw [hL]
      have HLL := Lib.hid hL
      clear hL
      go_wp2
      go_ret
      exact ⟨.slice Av L cv, rfl, by rw [HLL.out]; exact HO.out, HB.out⟩

end Go.Proofs.YtapcdhagkbfccaaGreat

namespace Go.Proofs.YtapcdhagkbfccaaGreat
open Go.RowKit

end Go.Proofs.YtapcdhagkbfccaaGreat
