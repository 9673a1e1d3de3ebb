/- Contract: the reference's With. -/
import Derived.Test.YtmccdmpemlmkkaaJ1
import Derived.Test.YtmccdmpemlmkkaaO2
import Derived.Test.YtmccdmpemlmkkaaB5
import Derived.Deep.RegionHeld3
namespace Go.Proofs.Ytmccdmpemlmkkaa
open Go.RowKit

/-- What is still to come of With behind a place; put: whether the term is there. -/
def goW (t : List Int) : Bool → List (List Int) → List (List Int)
  | true, l => l
  | false, [] => [t]
  | false, x :: r => if cmpL t x < 0 then t :: x :: r else if cmpL t x = 0 then x :: r else x :: goW t false r
theorem goW_true (t : List Int) (l : List (List Int)) : goW t true l = l := by cases l <;> rfl
theorem goW_false (t : List Int) : ∀ l, goW t false l = withL t l
  | [] => rfl
  | x :: r => by simp only [goW, withL, goW_false t r]
/-- Behind k terms of l the result is out and what is still to come. -/
def WGoes (t : List Int) (l : List (List Int)) (k : Nat) (put : Bool) (out : List (List Int)) : Prop := out ++ goW t put (l.drop k) = withL t l ∧ out.length ≤ k + 1
section
variable {t : List Int} {l out : List (List Int)} {k : Nat} {x : List Int}
theorem WGoes.zero (t : List Int) (l : List (List Int)) : WGoes t l 0 false [] := ⟨by simp [goW_false], by simp⟩
theorem drop_some {α : Type} {l : List α} {k : Nat} {x : α} (h : l[k]? = some x) : l.drop k = x :: l.drop (k + 1) := by
  obtain ⟨hk, rfl⟩ := List.getElem?_eq_some_iff.1 h
  exact List.drop_eq_getElem_cons hk
theorem WGoes.put (h : WGoes t l k true out) (hx : l[k]? = some x) (hl : out.length ≤ k + 1) : WGoes t l (k + 1) true (out ++ [x]) := by
  refine ⟨?_, by simp; omega⟩
  rw [← h.1, drop_some hx, goW_true, goW_true]
  simp
theorem WGoes.less (h : WGoes t l k false out) (hl : out.length ≤ k) (hx : l[k]? = some x) (hc : cmpL t x < 0) : WGoes t l (k + 1) true (out ++ [t] ++ [x]) := by
  refine ⟨?_, by simp; omega⟩
  rw [← h.1, drop_some hx, goW_true]
  simp only [goW, if_pos hc]
  simp
theorem WGoes.same (h : WGoes t l k false out) (hx : l[k]? = some x) (hc : cmpL t x = 0) : WGoes t l (k + 1) true (out ++ [x]) := by
  refine ⟨?_, by have := h.2; simp; omega⟩
  rw [← h.1, drop_some hx, goW_true]
  simp only [goW, if_neg (show ¬ cmpL t x < 0 by omega), if_pos hc]
  simp
theorem WGoes.more (h : WGoes t l k false out) (hx : l[k]? = some x) (hc : 0 < cmpL t x) : WGoes t l (k + 1) false (out ++ [x]) := by
  refine ⟨?_, by have := h.2; simp; omega⟩
  rw [← h.1, drop_some hx]
  simp only [goW, if_neg (show ¬ cmpL t x < 0 by omega), if_neg (show ¬ cmpL t x = 0 by omega)]
  simp
end

/-- A row of the call's own of slices whose numbers lie below B. -/
structure LowRow (w : World) (B base : Nat) (v : Value) (k : Nat) (ls : List Hd) (tt : List (List Int)) : Prop where
  row : w.ownsRow base 25 1 v k (ls.map Hd.val)
  len : k = tt.length
  each : ∀ j (h : j < ls.length) (h' : j < tt.length), IntsAt w B ls[j].1 ls[j].2.1 tt[j]
section
variable {w w' : World} {B base k : Nat} {v v' : Value} {ls : List Hd} {tt : List (List Int)} {x : Hd} {t : List Int}
theorem LowRow.nil (w : World) (B base : Nat) : LowRow w B base (.slice none 0 0) 0 [] [] := ⟨World.ownsRow_nil _ _ _ _, rfl, fun j hj => by simp at hj⟩
theorem LowRow.ll (h : LowRow w B base v k ls tt) : ls.length = k := by have := h.row.1; simpa using this
theorem LowRow.push (h : LowRow w B base v k ls tt) (hx : IntsAt w B x.1 x.2.1 t) (hrow : w'.ownsRow base 25 1 v' (k + 1) (ls.map Hd.val ++ [x.val])) (hb : Below B w w') : LowRow w' B base v' (k + 1) (ls ++ [x]) (tt ++ [t]) := by
  have hll := h.ll
  have hlt := h.len
  refine ⟨by simpa using hrow, by simp [hlt], fun j a b => ?_⟩
  by_cases hj : j < k
  · rw [List.getElem_append_left (by omega), List.getElem_append_left (by omega)]
    exact (h.each j (by omega) (by omega)).below hb
  · have : j = k := by simp at a; omega
    subst this
    rw [List.getElem_append_right (by omega), List.getElem_append_right (by omega)]
    simp only [hll, ← hlt, Nat.sub_self, List.getElem_cons_zero]
    exact hx.below hb
theorem LowRow.terms (h : LowRow w B base v k ls tt) (hB : B ≤ w.heap.size) (hk : k ≤ 1000000) : ∃ A c, v = .slice A k c ∧ TermsAt w w.heap.size A k ls tt := by
  have hll := h.ll
  obtain ⟨hl, ⟨rfl, rfl⟩ | ⟨g, cap, cur, rfl, hbg, hcur, hn1, hn2, hsz, htk⟩⟩ := h.row
  · have : ls = [] := List.eq_nil_of_length_eq_zero (by simpa using hl)
    subst this
    exact ⟨none, 0, rfl, ⟨rfl, by omega, fun h => absurd h (by omega)⟩, h.len, fun j hj => by simp at hj⟩
  · refine ⟨some ⟨g, 0, none⟩, cap, rfl, ⟨hll.symm, by omega, fun _ => ⟨g, 0, rfl, Blk.lt (t := 25) hcur, fun j hj => ?_⟩⟩, h.len, fun j a b => (h.each j a b).more hB⟩
    have hj' : j < k * 1 := by omega
    rw [Blk.cell (t := 25) hcur, Nat.zero_add]
    have e1 : cur.toList[j]? = (cur.toList.take (k * 1))[j]? := by rw [List.getElem?_take, if_pos hj']
    rw [← Array.getElem?_toList, e1, htk, List.getElem?_map, List.getElem?_eq_getElem hj]
    rfl
theorem LowRow.drewN (h : LowRow w B base v k ls tt) (j : Nat) : LowRow (w.drewN j) B base v k ls tt := ⟨h.row, h.len, fun i a b => (h.each i a b).keep fun _ _ => rfl⟩
theorem LowRow.app {N m : Nat} {out : List (List Int)} {o : Obj} (hN : N ≤ w.heap.size) (hR : LowRow w N N v m ls out) (hx : IntsAt w N x.1 x.2.1 t) (hrow : w'.ownsRow N 25 1 v' (m + 1) (ls.map Hd.val ++ [x.val])) (hg : (w.alloc o).grownBy w' v.ownBlock) :
    LowRow w' N N v' (m + 1) (ls ++ [x]) (out ++ [t]) ∧ Below N w w' := by
  have hb : Below N w w' := ((Below.refl N w).alloc hN o).grown hg (by simp; omega) (fun k e => (hR.row.lt k e).1)
  exact ⟨hR.push hx hrow hb, hb⟩
end

set_option maxRecDepth 100000 in
set_option maxHeartbeats 2000000 in
theorem with_any (Al At : Option Addr) (n c nt ct : Nat) (ls : List Hd) (tt : List (List Int)) (t : List Int) (w : World) (hl : TermsAt w w.heap.size Al n ls tt) (ht : IntsAt w w.heap.size At nt t) (hn : n ≤ 1000) :
    Calls Try.prog 63 #[.slice Al n c, .slice At nt ct] w fun e w' => ∃ A m d ls', e = .returned (.slice A m d) ∧ TermsAt w' w'.heap.size A m ls' (withL t tt) ∧ Below w.heap.size w w' := by
  obtain ⟨i0, hi, hz0, hz1, hz2⟩ := info_parts info_term
  have HL := Lib.hid hl
  have HT := Lib.hid ht
  have HLL := Lib.hid hl.len
  obtain ⟨N, hN⟩ : ∃ N, w.heap.size = N := ⟨_, rfl⟩
  rw [hN] at HL HT ⊢
  have HN := Lib.hid hN
  clear hl ht hN
  go_enter Try.func63, Try.ntmps63
  go_wp2
  go_loopw [5, 6, 7] (fun v p i wr => ∃ (k m : Nat) (Av : Option Addr) (cv : Nat) (ls' : List Hd) (out : List (List Int)) (put : Bool), k ≤ n ∧ i = .int .i64 k ∧ p = .bool put ∧ v = .slice Av m cv ∧ LowRow wr N N (.slice Av m cv) m ls' out ∧ WGoes t tt k put out ∧ (put = false → m ≤ k) ∧ Below N w wr) (fun _ _ i _ => n - (intOf i).toNat)
  case atStart => exact ⟨0, 0, none, 0, [], [], false, Nat.zero_le _, rfl, rfl, rfl, LowRow.nil _ _ _, WGoes.zero _ _, fun _ => Nat.le_refl _, Below.refl _ _⟩
  case round =>
    obtain ⟨k, m, Av, cv, ls', out, put, hk, rfl, rfl, rfl, hR, hG, hmk, hB⟩ := hrel
    have HR := Lib.hid hR
    have HB := Lib.hid hB
    have HG := Lib.hid hG
    have hm1 : m ≤ k + 1 := by have h1 := hR.len; have h2 := hG.2; omega
    have hNw : N ≤ wr.heap.size := by have h1 := hB.size; have := HN.out; omega
    have HLO := Lib.hid hR.len
    by_cases hlt : k < n
    · obtain ⟨b, off, A', n', c', x, rfl, hb, q1, q2, hI⟩ := HL.out.cellAt hlt
      have q3 := (hB.cell (p := ⟨b, off + k, none⟩) hb).trans q1
      have HI := Lib.hid (hI.below hB)
      have HTw := Lib.hid (HT.out.below hB)
      have C := Lib.hid (fun V c1 c2 (hV : ∀ p : Addr, p.block < N → V.cell? p = wr.cell? p) => refCompare_any At A' nt c1 n' c2 t x V N (HTw.out.keep hV) (HI.out.keep hV))
      have HQ := Lib.hid q2
      have hk0 : (0 : Int) ≤ (k : Int) := by omega
      have hk1 : (k : Int) < (n : Int) := by omega
      clear hR hG hB q1 q2 hI
      cases put
      · have hmk' := hmk rfl
        clear hmk
        by_cases hc1 : cmpL t x < 0
        · have H := Lib.hid (HG.out.less (by rw [← HLO.out]; exact hmk') HQ.out hc1)
          have hc2 : cmpL t x ≤ 0 := by omega
          obtain ⟨z, hz⟩ : ∃ z, cmpL t x = z := ⟨_, rfl⟩
          rw [hz] at hc1 hc2
          simp only [hz] at C
          clear hz
          have HNr := Lib.hid hNw
          have HKr : Hid (∀ p : Addr, p.block < N → wr.cell? p = wr.cell? p) := fun _ _ => rfl
          go_wp2_with (first
            | (go_at_call 77; ((with_reducible refine (C.out wr _ _ (fun _ _ => rfl)).mono ?_); rintro e w3 ⟨rfl, j3, e3⟩)
               have HR3 := Lib.hid (show LowRow w3 N N _ m ls' out by rw [e3]; exact HR.out.drewN j3)
               have HB3 := Lib.hid (show Below N w w3 by rw [e3]; exact below_drewN HB.out j3)
               have HK3 := Lib.hid (show ∀ p : Addr, p.block < N → w3.cell? p = wr.cell? p by rw [e3]; exact fun _ _ => rfl)
               have c3 := (HK3.out ⟨b, off + k, none⟩ hb).trans q3
               have HN3 := Lib.hid (show N ≤ w3.heap.size by rw [e3]; exact HNr.out)
               clear e3)
            | (go_at_call 77; ((with_reducible refine (C.out w3 _ _ HK3.out).mono ?_); rintro e w4 ⟨rfl, j4, e4⟩)
               have HR4 := Lib.hid (show LowRow w4 N N _ m ls' out by rw [e4]; exact HR3.out.drewN j4)
               have HB4 := Lib.hid (show Below N w w4 by rw [e4]; exact below_drewN HB3.out j4)
               have HK4 := Lib.hid (show ∀ p : Addr, p.block < N → w4.cell? p = wr.cell? p by rw [e4]; exact HK3.out)
               have c4 := (HK4.out ⟨b, off + k, none⟩ hb).trans q3
               have HN4 := Lib.hid (show N ≤ w4.heap.size by rw [e4]; exact HN3.out)
               clear e4)
            | (at_builtin
               refine wpList_append_own_at _ rfl _ _ 36 rfl N 25 i0 _ 1 24 Try.underlying36 hi hz0 hz1 hz2 rfl (by omega) (.slice Av m cv) m (ls'.map Hd.val) rfl (HR4.out.row.alloc _) ⟨w4.heap.size, 0, none⟩ 1 1 [Hd.val (At, nt, ct)] rfl rfl
                 (World.news_of_block (cs := #[Hd.val (At, nt, ct)]) (t := 25) (fr := (0, 0)) (heap_alloc_new w4 _)) (by simp [Value.oneCell', Hd.val]) (by unfold maxLen; omega) (by omega) (by have := HN4.out; simp; omega) ?_
               intro v5 w5 hown hg _ _
               obtain ⟨hlow, hbel⟩ := LowRow.app HN4.out HR4.out (x := (At, nt, ct)) (HTw.out.keep HK4.out) hown hg
               obtain ⟨g5, cap5, ev, _⟩ := hown.form (by omega)
               subst ev
               have HR5 := Lib.hid hlow
               have HB5 := Lib.hid (HB4.out.trans hbel)
               have HN5 := Lib.hid (Nat.le_trans HN4.out hbel.size)
               have HK5 := Lib.hid (fun (p : Addr) (hp : p.block < N) => (hbel.cell hp).trans (HK4.out p hp))
               have c5 := (HK5.out ⟨b, off + k, none⟩ hb).trans q3
               clear hown hg hlow hbel)
            | (at_builtin
               refine wpList_append_own_at _ rfl _ _ 36 rfl N 25 i0 _ 1 24 Try.underlying36 hi hz0 hz1 hz2 rfl (by omega) (.slice (some ⟨g5, 0, none⟩) (m + 1) cap5) (m + 1) ((ls' ++ [(At, nt, ct)]).map Hd.val) rfl (HR5.out.row.alloc _) ⟨w5.heap.size, 0, none⟩ 1 1 [Hd.val (A', n', c')] rfl rfl
                 (World.news_of_block (cs := #[Hd.val (A', n', c')]) (t := 25) (fr := (0, 0)) (heap_alloc_new w5 _)) (by simp [Value.oneCell', Hd.val]) (by unfold maxLen; omega) (by omega) (by have := HN5.out; simp; omega) ?_
               intro v6 w6 hown hg _ _
               obtain ⟨hlow, hbel⟩ := LowRow.app HN5.out HR5.out (x := (A', n', c')) (HI.out.keep HK5.out) hown hg
               obtain ⟨g6, cap6, ev, _⟩ := hown.form (by omega)
               subst ev
               have HR6 := Lib.hid hlow
               have HB6 := Lib.hid (HB5.out.trans hbel)
               have HN6 := Lib.hid (Nat.le_trans HN5.out hbel.size)
               have HK6 := Lib.hid (fun (p : Addr) (hp : p.block < N) => (hbel.cell hp).trans (HK5.out p hp))
               skip
               clear hown hg hlow hbel))
          go_roundw
          case rel => exact ⟨k + 1, m + 1 + 1, some ⟨g6, 0, none⟩, cap6, _, _, true, by omega, by go_num, rfl, rfl, HR6.out, H.out, fun h => (by cases h), HB6.out⟩
          case measure => simp [intOf]; omega
        · by_cases hc2 : cmpL t x = 0
          · have H := Lib.hid (HG.out.same HQ.out hc2)
            have HNr := Lib.hid hNw
            have hzz : ¬ (0 : Int) < 0 := by omega
            simp only [hc2] at C
            clear hc1 hc2
            go_wp2_with (first
              | (go_at_call 77; ((with_reducible refine (C.out wr _ _ (fun _ _ => rfl)).mono ?_); rintro e w3 ⟨rfl, j3, e3⟩)
                 have HR3 := Lib.hid (show LowRow w3 N N _ m ls' out by rw [e3]; exact HR.out.drewN j3)
                 have HB3 := Lib.hid (show Below N w w3 by rw [e3]; exact below_drewN HB.out j3)
                 have HK3 := Lib.hid (show ∀ p : Addr, p.block < N → w3.cell? p = wr.cell? p by rw [e3]; exact fun _ _ => rfl)
                 have c3 := (HK3.out ⟨b, off + k, none⟩ hb).trans q3
                 have HN3 := Lib.hid (show N ≤ w3.heap.size by rw [e3]; exact HNr.out)
                 clear e3)
              | (go_at_call 77; ((with_reducible refine (C.out w3 _ _ HK3.out).mono ?_); rintro e w4 ⟨rfl, j4, e4⟩)
                 have HR4 := Lib.hid (show LowRow w4 N N _ m ls' out by rw [e4]; exact HR3.out.drewN j4)
                 have HB4 := Lib.hid (show Below N w w4 by rw [e4]; exact below_drewN HB3.out j4)
                 have HK4 := Lib.hid (show ∀ p : Addr, p.block < N → w4.cell? p = wr.cell? p by rw [e4]; exact HK3.out)
                 have c4 := (HK4.out ⟨b, off + k, none⟩ hb).trans q3
                 have HN4 := Lib.hid (show N ≤ w4.heap.size by rw [e4]; exact HN3.out)
                 clear e4)
              | (at_builtin
                 refine wpList_append_own_at _ rfl _ _ 36 rfl N 25 i0 _ 1 24 Try.underlying36 hi hz0 hz1 hz2 rfl (by omega) (.slice Av m cv) m (ls'.map Hd.val) rfl (HR4.out.row.alloc _) ⟨w4.heap.size, 0, none⟩ 1 1 [Hd.val (A', n', c')] rfl rfl
                   (World.news_of_block (cs := #[Hd.val (A', n', c')]) (t := 25) (fr := (0, 0)) (heap_alloc_new w4 _)) (by simp [Value.oneCell', Hd.val]) (by unfold maxLen; omega) (by omega) (by have := HN4.out; simp; omega) ?_
                 intro v5 w5 hown hg _ _
                 obtain ⟨hlow, hbel⟩ := LowRow.app HN4.out HR4.out (x := (A', n', c')) (HI.out.keep HK4.out) hown hg
                 obtain ⟨g5, cap5, ev, _⟩ := hown.form (by omega)
                 subst ev
                 have HR5 := Lib.hid hlow
                 have HB5 := Lib.hid (HB4.out.trans hbel)
                 clear hown hg hlow hbel))
            go_roundw
            case rel => exact ⟨k + 1, m + 1, some ⟨g5, 0, none⟩, cap5, _, _, true, by omega, by go_num, rfl, rfl, HR5.out, H.out, fun h => (by cases h), HB5.out⟩
            case measure => simp [intOf]; omega
          · have H := Lib.hid (HG.out.more HQ.out (by omega))
            have HNr := Lib.hid hNw
            have hc3 : 0 < cmpL t x := by omega
            obtain ⟨z, hz⟩ : ∃ z, cmpL t x = z := ⟨_, rfl⟩
            rw [hz] at hc3
            simp only [hz] at C
            clear hz hc1 hc2
            go_wp2_with (first
              | (go_at_call 77; ((with_reducible refine (C.out wr _ _ (fun _ _ => rfl)).mono ?_); rintro e w3 ⟨rfl, j3, e3⟩)
                 have HR3 := Lib.hid (show LowRow w3 N N _ m ls' out by rw [e3]; exact HR.out.drewN j3)
                 have HB3 := Lib.hid (show Below N w w3 by rw [e3]; exact below_drewN HB.out j3)
                 have HK3 := Lib.hid (show ∀ p : Addr, p.block < N → w3.cell? p = wr.cell? p by rw [e3]; exact fun _ _ => rfl)
                 have c3 := (HK3.out ⟨b, off + k, none⟩ hb).trans q3
                 have HN3 := Lib.hid (show N ≤ w3.heap.size by rw [e3]; exact HNr.out)
                 clear e3)
              | (at_builtin
                 refine wpList_append_own_at _ rfl _ _ 36 rfl N 25 i0 _ 1 24 Try.underlying36 hi hz0 hz1 hz2 rfl (by omega) (.slice Av m cv) m (ls'.map Hd.val) rfl (HR3.out.row.alloc _) ⟨w3.heap.size, 0, none⟩ 1 1 [Hd.val (A', n', c')] rfl rfl
                   (World.news_of_block (cs := #[Hd.val (A', n', c')]) (t := 25) (fr := (0, 0)) (heap_alloc_new w3 _)) (by simp [Value.oneCell', Hd.val]) (by unfold maxLen; omega) (by omega) (by have := HN3.out; simp; omega) ?_
                 intro v5 w5 hown hg _ _
                 obtain ⟨hlow, hbel⟩ := LowRow.app HN3.out HR3.out (x := (A', n', c')) (HI.out.keep HK3.out) hown hg
                 obtain ⟨g5, cap5, ev, _⟩ := hown.form (by omega)
                 subst ev
                 have HR5 := Lib.hid hlow
                 have HB5 := Lib.hid (HB3.out.trans hbel)
                 clear hown hg hlow hbel))
            go_roundw
            case rel => exact ⟨k + 1, m + 1, some ⟨g5, 0, none⟩, cap5, _, _, false, by omega, by go_num, rfl, rfl, HR5.out, H.out, fun _ => by omega, HB5.out⟩
            case measure => simp [intOf]; omega
      · have H := Lib.hid (HG.out.put HQ.out (by rw [← HLO.out]; exact hm1))
        have HNr := Lib.hid hNw
        have HKr : Hid (∀ p : Addr, p.block < N → wr.cell? p = wr.cell? p) := fun _ _ => rfl
        clear hmk
        go_wp2_with (first
          | (at_builtin
             refine wpList_append_own_at _ rfl _ _ 36 rfl N 25 i0 _ 1 24 Try.underlying36 hi hz0 hz1 hz2 rfl (by omega) (.slice Av m cv) m (ls'.map Hd.val) rfl (HR.out.row.alloc _) ⟨wr.heap.size, 0, none⟩ 1 1 [Hd.val (A', n', c')] rfl rfl
               (World.news_of_block (cs := #[Hd.val (A', n', c')]) (t := 25) (fr := (0, 0)) (heap_alloc_new wr _)) (by simp [Value.oneCell', Hd.val]) (by unfold maxLen; omega) (by omega) (by have := HNr.out; simp; omega) ?_
             intro v5 w5 hown hg _ _
             obtain ⟨hlow, hbel⟩ := LowRow.app HNr.out HR.out (x := (A', n', c')) (HI.out.keep HKr.out) hown hg
             obtain ⟨g5, cap5, ev, _⟩ := hown.form (by omega)
             subst ev
             have HR5 := Lib.hid hlow
             have HB5 := Lib.hid (HB.out.trans hbel)
             clear hown hg hlow hbel))
        go_roundw
        case rel => exact ⟨k + 1, m + 1, some ⟨g5, 0, none⟩, cap5, _, _, true, by omega, by go_num, rfl, rfl, HR5.out, H.out, fun h => (by cases h), HB5.out⟩
        case measure => simp [intOf]; omega
    · obtain rfl : k = n := by omega
      have HG := Lib.hid (show out ++ goW t put [] = withL t tt by
        have := hG.1
        rwa [List.drop_of_length_le (by rw [← HLL.out]; exact Nat.le_refl _)] at this)
      have HNr := Lib.hid hNw
      have HKr : Hid (∀ p : Addr, p.block < N → wr.cell? p = w.cell? p) := fun p hp => HB.out.cell hp
      clear hR hG hB hmk
      cases put
      · go_wp2_with (first
          | (at_builtin
             refine wpList_append_own_at _ rfl _ _ 36 rfl N 25 i0 _ 1 24 Try.underlying36 hi hz0 hz1 hz2 rfl (by omega) (.slice Av m cv) m (ls'.map Hd.val) rfl (HR.out.row.alloc _) ⟨wr.heap.size, 0, none⟩ 1 1 [Hd.val (At, nt, ct)] rfl rfl
               (World.news_of_block (cs := #[Hd.val (At, nt, ct)]) (t := 25) (fr := (0, 0)) (heap_alloc_new wr _)) (by simp [Value.oneCell', Hd.val]) (by unfold maxLen; omega) (by omega) (by have := HNr.out; simp; omega) ?_
             intro v5 w5 hown hg _ _
             obtain ⟨hlow, hbel⟩ := LowRow.app HNr.out HR.out (x := (At, nt, ct)) (HT.out.keep HKr.out) hown hg
             obtain ⟨g5, cap5, ev, _⟩ := hown.form (by omega)
             subst ev
             have HR5 := Lib.hid hlow
             have HB5 := Lib.hid (HB.out.trans hbel)
             clear hown hg hlow hbel))
        go_ret
        have hT := HR5.out.terms (by have := HB5.out.size; have := HN.out; omega) (by omega)
        obtain ⟨A5, c5, e5, hT⟩ := hT
        cases e5
        exact ⟨_, _, _, _, rfl, by rw [← HG.out]; exact hT, HB5.out⟩
      · go_wp2
        go_ret
        have hT := HR.out.terms hNw (by omega)
        obtain ⟨A5, c5, e5, hT⟩ := hT
        cases e5
        exact ⟨_, _, _, _, rfl, by rw [← HG.out, goW_true, List.append_nil]; exact hT, HB.out⟩

end Go.Proofs.Ytmccdmpemlmkkaa
