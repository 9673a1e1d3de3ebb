/- Contracts: the closure of Parts, slices.CompactFunc at Term by it. -/
import Derived.Test.YtmccdmpemlmkkaaJ4
import Derived.Deep.RegionHeld3
import Derived.Lib.SliceRun
import Derived.Maps.AppendAt
namespace Go.Proofs.Ytmccdmpemlmkkaa
open Go.RowKit Go.Shelf

set_option maxHeartbeats 400000 in
theorem partsEq_any (A A2 : Option Addr) (n c n2 c2 : Nat) (xs ys : List Int) (w : World) (B : Nat) (hx : IntsAt w B A n xs) (hy : IntsAt w B A2 n2 ys) :
    Calls Try.prog 61 #[.slice A n c, .slice A2 n2 c2] w fun e w' => e = .returned (.bool (decide (xs = ys))) ∧ w = w' := by
  have C := Lib.hid (compare_any A A2 n c n2 c2 xs ys w B hx hy)
  have H := Lib.hid (cmpL_zero xs ys)
  obtain ⟨z, hz⟩ : ∃ z, cmpL xs ys = z := ⟨_, rfl⟩
  rw [hz] at C H
  obtain ⟨q, hq⟩ : ∃ q, decide (xs = ys) = q := ⟨_, rfl⟩
  rw [hq] at H ⊢
  clear hx hy hz hq
  go_enter Try.func61, Try.ntmps61
  go_wp2_with (go_at_call 38; refine C.out.mono ?_; rintro e w' ⟨rfl, rfl⟩)
  go_ret
  exact ⟨ret_b H.out, rfl⟩

theorem partsEq_q {A A2 : Option Addr} {n c n2 c2 : Nat} {xs ys : List Int} {w : World} {B : Nat} (hx : IntsAt w B A n xs) (hy : IntsAt w B A2 n2 ys) {q : Bool} (hq : decide (xs = ys) = q) (j : Nat) :
    Calls Try.prog 61 #[.slice A n c, .slice A2 n2 c2] (w.drewN j) fun e w' => e = .returned (.bool q) ∧ ∃ k, w' = w.drewN k :=
  (partsEq_any A A2 n c n2 c2 xs ys (w.drewN j) B (hx.keep fun _ _ => rfl) (hy.keep fun _ _ => rfl)).mono fun _ _ ⟨he, hw⟩ => ⟨by rw [he, hq], j, hw.symm⟩

/-- Behind p terms of tt the row's first terms are those that are kept; those from p - 1 on are as they were. -/
structure DInv (tt : List (List Int)) (p kk : Nat) (uu : List (List Int)) : Prop where
  len : uu.length = tt.length
  low : uu.take kk = ddN tt p
  num : kk = (ddN tt p).length
  lt : kk < p
  high : ∀ j, p ≤ j + 1 → uu[j]? = tt[j]?
section
variable {tt uu : List (List Int)} {p kk : Nat} {x y : List Int}
theorem ddN_all : ∀ k, k ≤ tt.length → (∀ j, 0 < j → j < k → tt[j]? ≠ tt[j - 1]?) → ddN tt k = tt.take k
  | 0, _, _ => by simp [ddN]
  | k + 1, h, hj => by
    rw [ddN, if_pos (by
      by_cases e : k = 0
      · exact .inl e
      · exact .inr (hj k (by omega) (by omega))), ddN_all k (by omega) (fun j a b => hj j a (by omega))]
    rw [List.take_succ_eq_append_getElem (by omega), List.getD_eq_getElem?_getD, List.getElem?_eq_getElem (by omega)]
    rfl
theorem DInv.start (hk : 0 < kk) (hkl : kk < tt.length) (hall : ∀ j, 0 < j → j < kk → tt[j]? ≠ tt[j - 1]?) (hx : tt[kk]? = some x) (hy : tt[kk - 1]? = some x) : DInv tt (kk + 1) kk tt := by
  have e : ddN tt (kk + 1) = tt.take kk := by
    rw [ddN, if_neg (by rw [hx, hy]; simp; omega)]
    exact ddN_all kk (by omega) hall
  exact ⟨rfl, e.symm, by rw [e, List.length_take]; omega, by omega, fun _ _ => rfl⟩
theorem DInv.skip (h : DInv tt p kk uu) (hp : 0 < p) (hx : tt[p]? = some x) (hy : tt[p - 1]? = some x) : DInv tt (p + 1) kk uu := by
  have e : ddN tt (p + 1) = ddN tt p := by rw [ddN, if_neg (by rw [hx, hy]; simp; omega)]
  exact ⟨h.len, by rw [e]; exact h.low, by rw [e]; exact h.num, by have := h.lt; omega, fun j hj => h.high j (by omega)⟩
theorem DInv.keep (h : DInv tt p kk uu) (hx : tt[p]? = some x) (hy : tt[p - 1]? = some y) (hn : x ≠ y) : DInv tt (p + 1) (kk + 1) (uu.set kk x) := by
  have hlt := h.lt
  have hp : p < tt.length := (List.getElem?_eq_some_iff.1 hx).1
  have e : ddN tt (p + 1) = ddN tt p ++ [x] := by
    rw [ddN, if_pos (.inr (by rw [hx, hy]; simpa using hn)), List.getD_eq_getElem?_getD, hx]
    rfl
  have hl := h.len
  refine ⟨by simpa using h.len, ?_, ?_, by omega, fun j hj => ?_⟩
  · rw [e, ← h.low, List.take_set, List.take_succ_eq_append_getElem (by omega), List.set_append_right _ _ (by simp; omega)]
    congr 1
    rw [List.length_take, show kk - min kk uu.length = 0 by omega]
    rfl
  · rw [e, List.length_append, ← h.num]; rfl
  · rw [List.getElem?_set_ne (by omega)]
    exact h.high j (by omega)
end
section
variable {w w' : World} {g m k : Nat} {ls : List Hd} {tt : List (List Int)} {x : Hd} {t : List Int}
theorem IntsBut.drewN' {A : Option Addr} {n : Nat} {go : Option Nat} (h : IntsBut w go A n t) (j : Nat) : IntsBut (w.drewN j) go A n t :=
  ⟨h.len, h.max, fun hn => by obtain ⟨b, off, e, hb, hne, hc⟩ := h.mem hn; exact ⟨b, off, e, hb, hne, hc⟩⟩
theorem CRow.drewN (h : CRow w g m ls tt) (j : Nat) : CRow (w.drewN j) g m ls tt := ⟨h.blk, h.ll, h.len, fun i a b => (h.each i a b).drewN' j⟩
theorem CRow.set (h : CRow w g m ls tt) (hk : k < m) (hx : IntsBut w (some g) x.1 x.2.1 t) : CRow (w.setCell ⟨g, k, none⟩ x.val) g m (ls.set k x) (tt.set k t) := by
  obtain ⟨cs, h1, h2⟩ := h.blk
  have hll := h.ll
  have hlen := h.len
  have hb : Blk w g 25 cs := h1
  refine ⟨⟨_, hb.set_ k x.val, fun j hj => ?_⟩, by simpa using hll, by simpa using hlen, fun j a b => ?_⟩
  · rw [Array.getElem?_setIfInBounds]
    by_cases e : k = j
    · subst e
      have hkl : k < ls.length := by omega
      have h3 := h2 k hkl
      have hks : k < cs.size := (Array.getElem?_eq_some_iff.1 h3).1
      rw [if_pos rfl, if_pos hks]
      simp
    · rw [if_neg e, h2 j (by simpa using hj), List.getElem_set_ne e]
  · by_cases e : k = j
    · subst e
      simp only [List.getElem_set_self]
      exact hx.setCell
    · simp only [List.getElem_set_ne e]
      exact (h.each j (by simpa using a) (by simpa using b)).setCell
/-- The first terms of a row, whatever lies behind them. -/
theorem CRow.front (h : CRow w g m ls tt) {n : Nat} (hn : n ≤ m) (hk : ∀ i, i ≠ g → i < w.heap.size → w'.heap[i]? = w.heap[i]?) (hs : w.heap.size ≤ w'.heap.size) (hc : ∃ cs, w'.heap[g]? = some (.cells cs 25 (0, 0)) ∧ ∀ j (h : j < ls.length), j < n → cs[j]? = some ls[j].val) :
    CRow w' g n (ls.take n) (tt.take n) := by
  have hll := h.ll
  have hlen := h.len
  obtain ⟨cs, h1, h2⟩ := hc
  refine ⟨⟨cs, h1, fun j hj => ?_⟩, by simp; omega, by simp; omega, fun j a b => ?_⟩
  · have hj' : j < n := by simp at hj; omega
    rw [h2 j (by omega) hj']
    simp
  · simp only [List.getElem_take]
    have h3 := h.each j (by simp at a; omega) (by simp at b; omega)
    refine ⟨h3.len, h3.max, fun hn => ?_⟩
    obtain ⟨b', off, e, hb, hne, hc⟩ := h3.mem hn
    exact ⟨b', off, e, Nat.lt_of_lt_of_le hb hs, hne, fun j hj => (World.cell?_of_block (hk b' (fun e => hne (by rw [e])) hb)).trans (hc j hj)⟩
end

theorem grown_set (w : World) (g o : Nat) (v : Value) : w.grownBy (w.setCell ⟨g, o, none⟩ v) (some g) := ⟨rfl, rfl, rfl, by simp, fun k _ hne => heap_setCell_other w ⟨g, o, none⟩ k v (fun e => hne (by rw [e]))⟩
theorem grown_drew {w w' : World} {r : Option Nat} (h : w.grownBy w' r) (j : Nat) : w.grownBy (w'.drewN j) r := ⟨h.os, h.tape, h.output, h.size, h.block⟩
/-- Stores behind the first n cells. -/
theorem cells_behind {g n : Nat} {ls : List Hd} : ∀ (vs : List Value) (o : Nat) (w : World), n ≤ o → (∃ cs, w.heap[g]? = some (.cells cs 25 (0, 0)) ∧ ∀ j (h : j < ls.length), j < n → cs[j]? = some ls[j].val) →
    (∃ cs, (w.setCells g o vs).heap[g]? = some (.cells cs 25 (0, 0)) ∧ ∀ j (h : j < ls.length), j < n → cs[j]? = some ls[j].val) ∧ w.grownBy (w.setCells g o vs) (some g) ∧ (∀ i, i ≠ g → (w.setCells g o vs).heap[i]? = w.heap[i]?)
  | [], o, w, _, h => ⟨h, World.grownBy.refl _ _, fun _ _ => rfl⟩
  | v :: r, o, w, ho, ⟨cs, h1, h2⟩ => by
    have hb : Blk w g 25 cs := h1
    obtain ⟨q1, q2, q3⟩ := cells_behind (n := n) (ls := ls) r (o + 1) (w.setCell ⟨g, o, none⟩ v) (Nat.le_succ_of_le ho) ⟨_, hb.set_ o v, fun j hj hn => by
      rw [Array.getElem?_setIfInBounds, if_neg (show ¬ o = j by omega)]
      exact h2 j hj hn⟩
    exact ⟨q1, (grown_set w g o v).trans q2, fun i hi => (q3 i hi).trans (heap_setCell_other w ⟨g, o, none⟩ i v hi)⟩
theorem zeroTerm (w : World) : (zeroValue 25).run Try.prog w = .ok (.slice none 0 0) w := by kernel_rfl

set_option maxRecDepth 100000 in
set_option maxHeartbeats 2000000 in
theorem compact_any (g m cap : Nat) (ls : List Hd) (tt : List (List Int)) (w : World) (hR : CRow w g m ls tt) (hm : m ≤ 1000) (hcap : m ≤ cap) (hcap2 : cap ≤ 9223372036854775807) :
    Calls Try.prog 62 #[.slice (some ⟨g, 0, none⟩) m cap, .func (.func 61) #[] #[]] w fun e w' => ∃ n ls', e = .returned (.slice (some ⟨g, 0, none⟩) n cap) ∧ CRow w' g n ls' (ddN tt m) ∧ n ≤ m ∧ w.grownBy w' (some g) := by
  have hlen := hR.len
  have hglt := hR.lt
  by_cases h2 : m < 2
  · have H := Lib.hid (show ddN tt m = tt by
      rw [ddN_all m (by omega) (fun j a b => by omega), hlen, List.take_length])
    have HR := Lib.hid hR
    clear hR hlen
    go_enter Try.func62, Try.ntmps62
    go_wp2
    go_ret
    exact ⟨m, ls, rfl, by rw [H.out]; exact HR.out, Nat.le_refl _, World.grownBy.refl _ _⟩
  · have HR := Lib.hid hR
    have HLEN := Lib.hid hlen
    clear hR hlen
    go_enter Try.func62, Try.ntmps62
    go_wp2
    go_loopw [5] (fun s5 wr => ∃ k q : Nat, 1 ≤ k ∧ k ≤ m ∧ s5 = .int .i64 k ∧ wr = w.drewN q ∧ ∀ j, 0 < j → j < k → tt[j]? ≠ tt[j - 1]?) (fun s5 _ => m - (intOf s5).toNat)
    case atStart => exact ⟨1, 0, Nat.le_refl _, by omega, rfl, rfl, fun j a b => by omega⟩
    case round =>
      obtain ⟨k, q, hk1, hk, rfl, hwr, hall⟩ := hrel
      have HRW := Lib.hid (show CRow wr g m ls tt by rw [hwr]; exact HR.out.drewN q)
      have HW := Lib.hid hwr
      clear hwr
      by_cases hlt : k < m
      · obtain ⟨A, n, c, x, c1, f1, e1, p1, I1⟩ := HRW.out.cell hlt
        obtain ⟨A0, n0, c0, y, c2, f2, e2, p2, I2⟩ := HRW.out.cell (show k - 1 < m by omega)
        have hki : ((k : Int) - 1) = ((k - 1 : Nat) : Int) := by omega
        have HALL := Lib.hid hall
        have HP := Lib.hid (And.intro p1 p2)
        have hk0 : (0 : Int) ≤ (k : Int) := by omega
        have hkm : (k : Int) < (m : Int) := by omega
        have hj0 : (0 : Int) ≤ ((k - 1 : Nat) : Int) := by omega
        have hjm : ((k - 1 : Nat) : Int) < (m : Int) := by omega
        by_cases hdup : x = y
        · subst hdup
          have C := Lib.hid (fun c c0 => partsEq_q (c := c) (c2 := c0) (I1.ints) (I2.ints) (decide_eq_true rfl))
          clear hall e1 e2 p1 p2 I1 I2 f1 f2
          go_wp2_with fail
          go_quiet ((go_at_call 61; with_reducible exact C.out _ _ _))
          go_wp2
          have HD0 := Lib.hid (DInv.start (show 0 < k by omega) (by rw [← HLEN.out]; exact hlt) HALL.out HP.out.1 HP.out.2)
          clear c1 c2 C
          go_loopw [5, 7] (fun s5 s7 w2 => ∃ (kk k2 : Nat) (ls' : List Hd) (uu : List (List Int)), 1 ≤ k2 ∧ k + k2 ≤ m ∧ s5 = .int .i64 kk ∧ s7 = .int .i64 k2 ∧ CRow w2 g m ls' uu ∧ DInv tt (k + k2) kk uu ∧ w.grownBy w2 (some g)) (fun _ s7 _ => m - k - (intOf s7).toNat)
          case atStart =>
            refine ⟨k, 1, ls, tt, Nat.le_refl _, by omega, rfl, rfl, HRW.out.drewN _, HD0.out, ?_⟩
            rw [HW.out]
            exact grown_drew (grown_drew (World.grownBy.refl _ _) _) _
          case round =>
            obtain ⟨kk, k2, ls', uu, h1, hle, rfl, rfl, hR2, hD, hB⟩ := hrel
            have HR2 := Lib.hid hR2
            have HD := Lib.hid hD
            have HB := Lib.hid hB
            have hkk := hD.lt
            clear hR2 hD hB
            by_cases hlt2 : k + k2 < m
            · obtain ⟨A, n, c, x', c1, f1, e1, p1, I1⟩ := HR2.out.cell hlt2
              obtain ⟨A0, n0, c0, y', c2, f2, e2, p2, I2⟩ := HR2.out.cell (show k + k2 - 1 < m by omega)
              obtain ⟨A9, n9, c9, z', c3, f3, _, _, _⟩ := HR2.out.cell (show kk < m by omega)
              rw [HD.out.high _ (by omega)] at p1 p2
              rw [show k + k2 - 1 = k + (k2 - 1) by omega] at c2
              have hki2 : ((k2 : Int) - 1) = ((k2 - 1 : Nat) : Int) := by omega
              have HP2 := Lib.hid (And.intro p1 p2)
              have HI1 := Lib.hid I1
              have g0 : (0 : Int) ≤ (k2 : Int) := by omega
              have g1 : (k2 : Int) < ((m - k : Nat) : Int) := by omega
              have g2 : (0 : Int) ≤ ((k2 - 1 : Nat) : Int) := by omega
              have g3 : ((k2 - 1 : Nat) : Int) < ((m - k : Nat) : Int) := by omega
              have g4 : (0 : Int) ≤ (kk : Int) := by omega
              have g5 : (kk : Int) < (m : Int) := by omega
              by_cases hdup2 : x' = y'
              · subst hdup2
                have C := Lib.hid (fun c c0 => partsEq_q (c := c) (c2 := c0) (I1.ints) (I2.ints) (decide_eq_true rfl))
                clear e1 e2 p1 p2 I1 I2 f1 f2 c3 f3
                go_wp2_with fail
                go_quiet ((go_at_call 61; with_reducible exact C.out _ _ _))
                go_wp2
                go_roundw
                case rel => exact ⟨kk, k2 + 1, ls', uu, by omega, by omega, rfl, by go_num, HR2.out.drewN _, HD.out.skip (by omega) HP2.out.1 HP2.out.2, grown_drew HB.out _⟩
                case measure => simp [intOf]; omega
              · have C := Lib.hid (fun c c0 => partsEq_q (c := c) (c2 := c0) (I1.ints) (I2.ints) (decide_eq_false hdup2))
                have HX := Lib.hid hdup2
                clear e1 e2 p1 p2 I1 I2 f1 f2 hdup2
                go_wp2_with fail
                go_quiet ((go_at_call 61; with_reducible exact C.out _ _ _))
                go_wp2
                go_roundw
                case rel =>
                  refine ⟨kk + 1, k2 + 1, ls'.set kk (A, n, c), uu.set kk x', by omega, by omega, by go_num, by go_num, ?_, HD.out.keep HP2.out.1 HP2.out.2 HX.out, ?_⟩
                  · exact (HR2.out.drewN _).set (x := (A, n, c)) (by omega) (HI1.out.drewN' _)
                  · exact (grown_drew HB.out _).trans (grown_set _ g kk _)
                case measure => simp [intOf]; omega
            · have hend : k + k2 = m := by omega
              have hcl : ∀ ty, (Builtin.clear_ #[36] ty #[.slice (some ⟨g, kk, none⟩) (m - kk) (cap - kk)]).run Try.prog wr = .ok (.tuple #[]) (wr.setCells g kk (List.replicate (m - kk) (.slice none 0 0))) := fun ty =>
                Lib.run_clear_slice wr _ _ ty _ Try.underlying36 zeroTerm rfl rfl g kk _ _ (by omega) (fun j hj => by
                  obtain ⟨_, _, _, _, q1, _⟩ := HR2.out.cell (show kk + j < m by omega)
                  rw [q1]; rfl) (fun j hj => by
                  obtain ⟨_, _, _, _, _, q1, _⟩ := HR2.out.cell (show kk + j < m by omega)
                  exact q1)
              have hw := HR2.out.blk
              obtain ⟨cs, q1, q2⟩ := hw
              have HCB := Lib.hid (cells_behind (List.replicate (m - kk) (.slice none 0 0)) kk wr (Nat.le_refl _) ⟨cs, q1, fun j h _ => q2 j h⟩)
              obtain ⟨W9, hW9⟩ : ∃ W9, wr.setCells g kk (List.replicate (m - kk) (.slice none 0 0)) = W9 := ⟨_, rfl⟩
              rw [hW9] at HCB
              simp only [hW9] at hcl
              clear q1 q2 hW9
              go_wp2
              go_ret
              obtain ⟨z1, z2, z3⟩ := HCB.out
              refine ⟨kk, ls'.take kk, rfl, ?_, by omega, HB.out.trans z2⟩
              have hfr := HR2.out.front (w' := W9) (n := kk) (by omega) (fun i hi _ => z3 i hi) z2.size z1
              rw [HD.out.low, hend] at hfr
              exact hfr
        · have C := Lib.hid (fun c c0 => partsEq_q (c := c) (c2 := c0) (I1.ints) (I2.ints) (decide_eq_false hdup))
          clear hall e1 e2 p1 p2 I1 I2 f1 f2
          go_wp2_with fail
          go_quiet ((go_at_call 61; with_reducible exact C.out _ _ _))
          go_wp2
          go_roundw
          case rel =>
            refine ⟨k + 1, _, by omega, by omega, by go_num, by rw [HW.out]; exact World.drewN_drewN .., fun j a b => ?_⟩
            by_cases e : j = k
            · subst e
              rw [HP.out.1, HP.out.2]
              simpa using hdup
            · exact HALL.out j a (by omega)
          case measure => simp [intOf]; omega
      · obtain rfl : k = m := by omega
        have H := Lib.hid (show ddN tt k = tt by rw [ddN_all k (by rw [HLEN.out]; exact Nat.le_refl _) hall, HLEN.out, List.take_length])
        clear hall
        go_wp2
        go_ret
        exact ⟨k, ls, rfl, by rw [H.out]; exact HRW.out, Nat.le_refl _, by rw [HW.out]; exact grown_drew (World.grownBy.refl _ _) _⟩

end Go.Proofs.Ytmccdmpemlmkkaa
