/- Contract: ref.Renamed, with the capacity of what it returns. -/
import Derived.Test.YtcegbmibpkopaaaB6g
import Derived.Test.YtcegbmibpkopaaaW0g
import Derived.Deep.QuietTactic
import Derived.BigQuiet
import Derived.Test.YtcegbmibpkopaaaB10g
import Derived.Test.YtcegbmibpkopaaaJ4g
import Derived.Test.YtcegbmibpkopaaaO2g
import Derived.Deep.RegionHeld3
import Derived.Test.YtcegbmibpkopaaaQ4g
import Derived.Test.YtcegbmibpkopaaaY15g
/- Contract: the reference's SameTerms, of equal lists; the arguments of a valid term. -/
namespace Go.Proofs.Ytcegbmibpkopaaa
open Go.RowKit

theorem quiet_draw {P : Program} {f : FuncId} {args : Array Value} {w : World} {n : Nat} {v : Value}
    (h : Calls P f args (w.drewN n) fun e w' => e = .returned v ∧ ∃ k, w' = (w.drewN n).drewN k) : Calls P f args (w.drewN n) fun e w' => e = .returned v ∧ ∃ m, w' = w.drewN m :=
  h.mono fun _ _ ⟨he, k, hm⟩ => ⟨he, n + k, by rw [hm, World.drewN_drewN]⟩

set_option maxRecDepth 100000 in
set_option maxHeartbeats 1000000 in
theorem sameTerms_self (A A2 : Option Addr) (n c n2 c2 : Nat) (ls ls2 : List Hd) (tt : List (List Int)) (w : World) (B : Nat) (hx : TermsAt w B A n ls tt) (hy : TermsAt w B A2 n2 ls2 tt) (htt : tt.length ≤ 1000000) :
    Calls Try.prog 76 #[.slice A n c, .slice A2 n2 c2] w fun e w' => e = .returned (.bool true) ∧ ∃ k, w' = w.drewN k := by
  have hlx := hx.len
  have hly := hy.len
  obtain rfl : n = n2 := by omega
  have hn : n ≤ 1000000 := by omega
  have hb : ((n : Int) != (n : Int)) = false := by simp
  have HX := Lib.hid (fun m => show TermsAt (w.drewN m) B A n ls tt from hx.keep fun _ _ => rfl)
  have HY := Lib.hid (fun m => show TermsAt (w.drewN m) B A2 n ls2 tt from hy.keep fun _ _ => rfl)
  clear hx hy hlx hly htt
  go_enter Try.func76, Try.ntmps76
  go_wp2
  go_loopw [5] (fun i wr => ∃ k : Nat, k ≤ n ∧ i = .int .i64 k ∧ ∃ m, wr = w.drewN m) (fun i _ => n - (intOf i).toNat)
  case atStart => exact ⟨0, Nat.zero_le _, rfl, 0, rfl⟩
  case round =>
    obtain ⟨k, hk, rfl, m, hm⟩ := hrel
    by_cases hlt : k < n
    · obtain ⟨b, off, A', n', c', t, rfl, _, q1, q2, hI⟩ := (HX.out m).cellAt hlt
      obtain ⟨b2, off2, A2', n2', c2', t2, rfl, _, q3, q4, hI2⟩ := (HY.out m).cellAt hlt
      rw [q2] at q4
      obtain rfl := Option.some.inj q4
      rw [← hm] at q1 q3 hI hI2
      have CS := Lib.hid (fun nq => same_self A' A2' n' c' n2' c2' t (wr.drewN nq) B (hI.keep fun _ _ => rfl) (hI2.keep fun _ _ => rfl))
      have HM := Lib.hid hm
      have hk0 : (0 : Int) ≤ (k : Int) := by omega
      have hk1 : (k : Int) < (n : Int) := by omega
      clear q2 q4 hI hI2 hm
      go_wp2_with fail
      go_quiet ((go_at_call 20; with_reducible exact quiet_draw (CS.out _)))
      go_wp2
      go_roundw
      case rel => exact ⟨k + 1, by omega, by go_num, by rw [HM.out]; exact ⟨_, World.drewN_drewN ..⟩⟩
      case measure => simp [intOf]; omega
    · obtain rfl : k = n := by omega
      go_wp2
      go_ret
      exact ⟨rfl, m, rfl⟩

/-- The arguments of a valid term, put behind its symbol, are the term. -/
theorem argsTo_flat {ss : Sg} {zs : List Int} {r : Nat} (h : scan ss r (zs.drop 1) = some []) (hl : 1 ≤ zs.length) : ∀ k, k ≤ r → (argsTo ss zs k).flatten = (zs.drop 1).take (pos ss zs k - 1) := by
  intro k
  induction k with
  | zero => intro _; rw [pos_zero ss hl]; simp [argsTo]
  | succ k ih =>
    intro hk
    obtain ⟨_, a2, a3⟩ := pos_scan h hl (Nat.le_of_succ_le hk)
    obtain ⟨_, b2, b3⟩ := pos_scan h hl hk
    obtain ⟨_, c2, _⟩ := pos_step h hl hk
    rw [argsTo_succ, List.flatten_append, ih (by omega)]
    simp only [List.flatten_cons, List.flatten_nil, List.append_nil]
    unfold argL
    have e1 : zs.drop (pos ss zs k) = (zs.drop 1).drop (pos ss zs k - 1) := by rw [List.drop_drop]; congr 1; omega
    rw [e1, show pos ss zs (k + 1) - 1 = (pos ss zs k - 1) + (pos ss zs (k + 1) - pos ss zs k) from by omega, List.take_add]
theorem argsTo_ok {ss : Sg} {zs : List Int} {r : Nat} (hv : valOk ss zs = true) (h : scan ss r (zs.drop 1) = some []) : (argsTo ss zs r).all (termOk ss) = true := by
  obtain ⟨h1, h60, hnum, _⟩ := valOk_term hv
  rw [List.all_eq_true]
  intro x hx
  unfold argsTo at hx
  obtain ⟨k, hk, rfl⟩ := List.mem_map.1 hx
  rw [List.mem_range] at hk
  obtain ⟨a1, a2⟩ := argL_ok h h1 hk
  obtain ⟨_, c2, _⟩ := pos_step h h1 hk
  obtain ⟨_, b2, b3⟩ := pos_scan h h1 (show k + 1 ≤ r from hk)
  simp only [termOk, Bool.and_eq_true, decide_eq_true_eq, List.all_eq_true, numOk]
  exact ⟨by omega, by omega, fun z hz => hnum z (List.mem_of_mem_drop (List.mem_of_mem_take hz)), a1⟩
theorem built_args {ss : Sg} {zs : List Int} (hv : valOk ss zs = true) (h0 : 0 < zs.length) (hz : 0 ≤ zs[0]) : builtR ss zs[0] (argsL ss zs) = (zs, 0) := by
  obtain ⟨h1, h60, hnum, hscan⟩ := valOk_term hv
  have hhd : zs.headD 0 = zs[0] := by cases zs with
    | nil => simp at h0
    | cons z r => rfl
  have hrest := scan_head hscan h0
  have hok := argsTo_ok hv hrest
  have hfl := argsTo_flat hrest h1 _ (Nat.le_refl _)
  obtain ⟨d1, d2, d3⟩ := pos_scan hrest h1 (Nat.le_refl _)
  rw [hrest] at d1
  have e : pos ss zs (arOf ss zs[0]) = zs.length := by
    have := congrArg List.length (Option.some.inj d1)
    simp only [List.length_nil, List.length_drop] at this
    omega
  rw [e, List.take_of_length_le (by rw [List.length_drop]; omega)] at hfl
  have hall : zs[0] :: (argsTo ss zs (arOf ss zs[0])).flatten = zs := by
    rw [hfl]
    cases zs with
    | nil => simp at h0
    | cons z r => rfl
  have hzl := (hnum _ (List.getElem_mem h0)).2
  unfold argsL
  rw [hhd, builtR_good (by simp [valOk_sig hv, hok]) (by omega) (by simp [argsTo]) (by rw [hall]; omega), hall]

end Go.Proofs.Ytcegbmibpkopaaa

/- Contract: the reference's SameInts. -/
namespace Go.Proofs.Ytcegbmibpkopaaa
open Go.RowKit

set_option maxRecDepth 100000 in
set_option maxHeartbeats 1000000 in
theorem sameInts_any (A A2 : Option Addr) (n c n2 c2 : Nat) (xs ys : List Int) (w : World) (B : Nat) (hx : IntsAt w B A n xs) (hy : IntsAt w B A2 n2 ys) :
    Calls Try.prog 57 #[.slice A n c, .slice A2 n2 c2] w fun e w' => e = .returned (.bool (decide (xs = ys))) ∧ ∃ k, w' = w.drewN k := by
  have hlx := hx.len
  have hly := hy.len
  have hmx := hx.max
  by_cases hne : n = n2
  · have HL := Lib.hid (show xs.length = ys.length by omega)
    have HX := Lib.hid hx
    have HY := Lib.hid hy
    have HLX := Lib.hid hlx
    subst hne
    have hb : ((n : Int) != (n : Int)) = false := by simp
    clear hx hy hlx hly
    go_enter Try.func57, Try.ntmps57
    go_wp2
    go_loopw [5] (fun i wr => ∃ k : Nat, k ≤ n ∧ i = .int .i64 k ∧ Agree xs ys k ∧ ∃ m, wr = w.drewN m) (fun i _ => n - (intOf i).toNat)
    case atStart => exact ⟨0, Nat.zero_le _, rfl, Agree.zero _ _, 0, rfl⟩
    case round =>
      obtain ⟨k, hk, rfl, hA, m, rfl⟩ := hrel
      by_cases hlt : k < n
      · obtain ⟨b, off, z, rfl, c1, k1, e1⟩ := HX.out.cellAt hlt
        obtain ⟨b2, off2, y, rfl, c2, k2, e2⟩ := HY.out.cellAt hlt
        have hk0 : (0 : Int) ≤ (k : Int) := by omega
        have hk1 : (k : Int) < (n : Int) := by omega
        by_cases e : z = y
        · have H := Lib.hid (hA.succ k1 k2 (by rw [e1, e2, e]))
          have he : (z != y) = false := by simp [e]
          have he2 : (z == y) = true := by simp [e]
          clear e e1 e2 hA
          go_wp2_with fail
          go_quiet (fail)
          go_wp2
          go_roundw
          case rel => exact ⟨k + 1, by omega, by go_num, H.out, _, rfl⟩
          case measure => simp [intOf]; omega
        · have H := Lib.hid (Agree.bad k1 k2 (by rw [e1, e2]; exact e))
          have he : (z != y) = true := by simp [e]
          clear e e1 e2 hA
          go_wp2_with fail
          go_quiet (fail)
          go_wp2
          go_ret
          exact ⟨ret_b H.out.symm, _, World.drewN_drewN ..⟩
      · obtain rfl : k = n := by omega
        have H := Lib.hid (Agree.good (by rw [← HLX.out]; exact hA) HL.out)
        clear hA
        go_wp2
        go_ret
        exact ⟨ret_b H.out.symm, _, rfl⟩
  · have H := Lib.hid (len_ne (xs := xs) (ys := ys) (by omega))
    have hb : ((n : Int) != (n2 : Int)) = true := by simp; omega
    clear hx hy hlx hly hne
    go_enter Try.func57, Try.ntmps57
    go_wp2
    go_ret
    exact ⟨ret_b H.out.symm, 0, rfl⟩

end Go.Proofs.Ytcegbmibpkopaaa

/- Contract: SamePaths of equal lists. -/
namespace Go.Proofs.Ytcegbmibpkopaaa
open Go.RowKit


set_option maxRecDepth 100000 in
set_option maxHeartbeats 1000000 in
theorem samePaths_self (A A2 : Option Addr) (n c n2 c2 : Nat) (ls ls2 : List Hd) (tt : List (List Int)) (w : World) (B : Nat) (hx : TermsAt w B A n ls tt) (hy : TermsAt w B A2 n2 ls2 tt) (htt : tt.length ≤ 1000000) :
    Calls Try.prog 71 #[.slice A n c, .slice A2 n2 c2] w fun e w' => e = .returned (.bool true) ∧ ∃ k, w' = w.drewN k := by
  have hlx := hx.len
  have hly := hy.len
  obtain rfl : n = n2 := by omega
  have hn : n ≤ 1000000 := by omega
  have hb : ((n : Int) != (n : Int)) = false := by simp
  have HX := Lib.hid (fun m => show TermsAt (w.drewN m) B A n ls tt from hx.keep fun _ _ => rfl)
  have HY := Lib.hid (fun m => show TermsAt (w.drewN m) B A2 n ls2 tt from hy.keep fun _ _ => rfl)
  clear hx hy hlx hly htt
  go_enter Try.func71, Try.ntmps71
  go_wp2
  go_loopw [5] (fun i wr => ∃ k : Nat, k ≤ n ∧ i = .int .i64 k ∧ ∃ m, wr = w.drewN m) (fun i _ => n - (intOf i).toNat)
  case atStart => exact ⟨0, Nat.zero_le _, rfl, 0, rfl⟩
  case round =>
    obtain ⟨k, hk, rfl, m, hm⟩ := hrel
    by_cases hlt : k < n
    · obtain ⟨b, off, A', n', c', t, rfl, _, q1, q2, hI⟩ := (HX.out m).cellAt hlt
      obtain ⟨b2, off2, A2', n2', c2', t2, rfl, _, q3, q4, hI2⟩ := (HY.out m).cellAt hlt
      rw [q2] at q4
      obtain rfl := Option.some.inj q4
      rw [← hm] at q1 q3 hI hI2
      have CS := Lib.hid (fun nq => by
        have := sameInts_any A' A2' n' c' n2' c2' t t (wr.drewN nq) B (hI.keep fun _ _ => rfl) (hI2.keep fun _ _ => rfl)
        rw [show decide (t = t) = true from by simp] at this
        exact this)
      have HM := Lib.hid hm
      have hk0 : (0 : Int) ≤ (k : Int) := by omega
      have hk1 : (k : Int) < (n : Int) := by omega
      clear q2 q4 hI hI2 hm
      go_wp2_with fail
      go_quiet ((go_at_call 57; with_reducible exact quiet_draw (CS.out _)))
      go_wp2
      go_roundw
      case rel => exact ⟨k + 1, by omega, by go_num, by rw [HM.out]; exact ⟨_, World.drewN_drewN ..⟩⟩
      case measure => simp [intOf]; omega
    · obtain rfl : k = n := by omega
      go_wp2
      go_ret
      exact ⟨rfl, m, rfl⟩

end Go.Proofs.Ytcegbmibpkopaaa

/- Contract: the reference's With. -/
namespace Go.Proofs.Ytcegbmibpkopaaa
open Go.RowKit

/-- What is still to come of With behind a place; put: whether the term is there. -/
def goW (t : List Int) : Bool → List (List Int) → List (List Int)
  | true, l => l
  | false, [] => [t]
  | false, x :: r => if cmpL t x < 0 then t :: x :: r else if cmpL t x = 0 then x :: r else x :: goW t false r
theorem goW_true (t : List Int) (l : List (List Int)) : goW t true l = l := by cases l <;> rfl
theorem goW_false (t : List Int) : ∀ l, goW t false l = withL t l
  | [] => rfl
  | x :: r => by simp only [goW, withL, goW_false t r]
/-- Behind k terms of l the result is out and what is still to come. -/
def WGoes (t : List Int) (l : List (List Int)) (k : Nat) (put : Bool) (out : List (List Int)) : Prop := out ++ goW t put (l.drop k) = withL t l ∧ out.length ≤ k + 1
section
variable {t : List Int} {l out : List (List Int)} {k : Nat} {x : List Int}
theorem WGoes.zero (t : List Int) (l : List (List Int)) : WGoes t l 0 false [] := ⟨by simp [goW_false], by simp⟩
theorem drop_some {α : Type} {l : List α} {k : Nat} {x : α} (h : l[k]? = some x) : l.drop k = x :: l.drop (k + 1) := by
  obtain ⟨hk, rfl⟩ := List.getElem?_eq_some_iff.1 h
  exact List.drop_eq_getElem_cons hk
theorem WGoes.put (h : WGoes t l k true out) (hx : l[k]? = some x) (hl : out.length ≤ k + 1) : WGoes t l (k + 1) true (out ++ [x]) := by
  refine ⟨?_, by simp; omega⟩
  rw [← h.1, drop_some hx, goW_true, goW_true]
  simp
theorem WGoes.less (h : WGoes t l k false out) (hl : out.length ≤ k) (hx : l[k]? = some x) (hc : cmpL t x < 0) : WGoes t l (k + 1) true (out ++ [t] ++ [x]) := by
  refine ⟨?_, by simp; omega⟩
  rw [← h.1, drop_some hx, goW_true]
  simp only [goW, if_pos hc]
  simp
theorem WGoes.same (h : WGoes t l k false out) (hx : l[k]? = some x) (hc : cmpL t x = 0) : WGoes t l (k + 1) true (out ++ [x]) := by
  refine ⟨?_, by have := h.2; simp; omega⟩
  rw [← h.1, drop_some hx, goW_true]
  simp only [goW, if_neg (show ¬ cmpL t x < 0 by omega), if_pos hc]
  simp
theorem WGoes.more (h : WGoes t l k false out) (hx : l[k]? = some x) (hc : 0 < cmpL t x) : WGoes t l (k + 1) false (out ++ [x]) := by
  refine ⟨?_, by have := h.2; simp; omega⟩
  rw [← h.1, drop_some hx]
  simp only [goW, if_neg (show ¬ cmpL t x < 0 by omega), if_neg (show ¬ cmpL t x = 0 by omega)]
  simp
end

/-- A row of the call's own of slices whose numbers lie below B. -/
structure LowRow (w : World) (B base : Nat) (v : Value) (k : Nat) (ls : List Hd) (tt : List (List Int)) : Prop where
  row : w.ownsRow base 25 1 v k (ls.map Hd.val)
  len : k = tt.length
  each : ∀ j (h : j < ls.length) (h' : j < tt.length), IntsAt w B ls[j].1 ls[j].2.1 tt[j]
section
variable {w w' : World} {B base k : Nat} {v v' : Value} {ls : List Hd} {tt : List (List Int)} {x : Hd} {t : List Int}
theorem LowRow.nil (w : World) (B base : Nat) : LowRow w B base (.slice none 0 0) 0 [] [] := ⟨World.ownsRow_nil _ _ _ _, rfl, fun j hj => by simp at hj⟩
theorem LowRow.ll (h : LowRow w B base v k ls tt) : ls.length = k := by have := h.row.1; simpa using this
theorem LowRow.push (h : LowRow w B base v k ls tt) (hx : IntsAt w B x.1 x.2.1 t) (hrow : w'.ownsRow base 25 1 v' (k + 1) (ls.map Hd.val ++ [x.val])) (hb : Below B w w') : LowRow w' B base v' (k + 1) (ls ++ [x]) (tt ++ [t]) := by
  have hll := h.ll
  have hlt := h.len
  refine ⟨by simpa using hrow, by simp [hlt], fun j a b => ?_⟩
  by_cases hj : j < k
  · rw [List.getElem_append_left (by omega), List.getElem_append_left (by omega)]
    exact (h.each j (by omega) (by omega)).below hb
  · have : j = k := by simp at a; omega
    subst this
    rw [List.getElem_append_right (by omega), List.getElem_append_right (by omega)]
    simp only [hll, ← hlt, Nat.sub_self, List.getElem_cons_zero]
    exact hx.below hb
theorem LowRow.terms (h : LowRow w B base v k ls tt) (hB : B ≤ w.heap.size) (hk : k ≤ 1000000) : ∃ A c, v = .slice A k c ∧ TermsAt w w.heap.size A k ls tt := by
  have hll := h.ll
  obtain ⟨hl, ⟨rfl, rfl⟩ | ⟨g, cap, cur, rfl, hbg, hcur, hn1, hn2, hsz, htk⟩⟩ := h.row
  · have : ls = [] := List.eq_nil_of_length_eq_zero (by simpa using hl)
    subst this
    exact ⟨none, 0, rfl, ⟨rfl, by omega, fun h => absurd h (by omega)⟩, h.len, fun j hj => by simp at hj⟩
  · refine ⟨some ⟨g, 0, none⟩, cap, rfl, ⟨hll.symm, by omega, fun _ => ⟨g, 0, rfl, Blk.lt (t := 25) hcur, fun j hj => ?_⟩⟩, h.len, fun j a b => (h.each j a b).more hB⟩
    have hj' : j < k * 1 := by omega
    rw [Blk.cell (t := 25) hcur, Nat.zero_add]
    have e1 : cur.toList[j]? = (cur.toList.take (k * 1))[j]? := by rw [List.getElem?_take, if_pos hj']
    rw [← Array.getElem?_toList, e1, htk, List.getElem?_map, List.getElem?_eq_getElem hj]
    rfl
theorem LowRow.drewN (h : LowRow w B base v k ls tt) (j : Nat) : LowRow (w.drewN j) B base v k ls tt := ⟨h.row, h.len, fun i a b => (h.each i a b).keep fun _ _ => rfl⟩
theorem LowRow.app {N m : Nat} {out : List (List Int)} {o : Obj} (hN : N ≤ w.heap.size) (hR : LowRow w N N v m ls out) (hx : IntsAt w N x.1 x.2.1 t) (hrow : w'.ownsRow N 25 1 v' (m + 1) (ls.map Hd.val ++ [x.val])) (hg : (w.alloc o).grownBy w' v.ownBlock) :
    LowRow w' N N v' (m + 1) (ls ++ [x]) (out ++ [t]) ∧ Below N w w' := by
  have hb : Below N w w' := ((Below.refl N w).alloc hN o).grown hg (by simp; omega) (fun k e => (hR.row.lt k e).1)
  exact ⟨hR.push hx hrow hb, hb⟩
end

set_option maxRecDepth 100000 in
set_option maxHeartbeats 2000000 in
theorem with_any (Al At : Option Addr) (n c nt ct : Nat) (ls : List Hd) (tt : List (List Int)) (t : List Int) (w : World) (hl : TermsAt w w.heap.size Al n ls tt) (ht : IntsAt w w.heap.size At nt t) (hn : n ≤ 1000) :
    Calls Try.prog 129 #[.slice Al n c, .slice At nt ct] w fun e w' => ∃ A m d ls', e = .returned (.slice A m d) ∧ TermsAt w' w'.heap.size A m ls' (withL t tt) ∧ Below w.heap.size w w' := by
  obtain ⟨i0, hi, hz0, hz1, hz2⟩ := info_parts info_term
  have HL := Lib.hid hl
  have HT := Lib.hid ht
  have HLL := Lib.hid hl.len
  obtain ⟨N, hN⟩ : ∃ N, w.heap.size = N := ⟨_, rfl⟩
  rw [hN] at HL HT ⊢
  have HN := Lib.hid hN
  clear hl ht hN
  go_enter Try.func129, Try.ntmps129
  go_wp2
  go_loopw [5, 6, 7] (fun v p i wr => ∃ (k m : Nat) (Av : Option Addr) (cv : Nat) (ls' : List Hd) (out : List (List Int)) (put : Bool), k ≤ n ∧ i = .int .i64 k ∧ p = .bool put ∧ v = .slice Av m cv ∧ LowRow wr N N (.slice Av m cv) m ls' out ∧ WGoes t tt k put out ∧ (put = false → m ≤ k) ∧ Below N w wr) (fun _ _ i _ => n - (intOf i).toNat)
  case atStart => exact ⟨0, 0, none, 0, [], [], false, Nat.zero_le _, rfl, rfl, rfl, LowRow.nil _ _ _, WGoes.zero _ _, fun _ => Nat.le_refl _, Below.refl _ _⟩
  case round =>
    obtain ⟨k, m, Av, cv, ls', out, put, hk, rfl, rfl, rfl, hR, hG, hmk, hB⟩ := hrel
    have HR := Lib.hid hR
    have HB := Lib.hid hB
    have HG := Lib.hid hG
    have hm1 : m ≤ k + 1 := by have h1 := hR.len; have h2 := hG.2; omega
    have hNw : N ≤ wr.heap.size := by have h1 := hB.size; have := HN.out; omega
    have HLO := Lib.hid hR.len
    by_cases hlt : k < n
    · obtain ⟨b, off, A', n', c', x, rfl, hb, q1, q2, hI⟩ := HL.out.cellAt hlt
      have q3 := (hB.cell (p := ⟨b, off + k, none⟩) hb).trans q1
      have HI := Lib.hid (hI.below hB)
      have HTw := Lib.hid (HT.out.below hB)
      have C := Lib.hid (fun V c1 c2 (hV : ∀ p : Addr, p.block < N → V.cell? p = wr.cell? p) => refCompare_any At A' nt c1 n' c2 t x V N (HTw.out.keep hV) (HI.out.keep hV))
      have HQ := Lib.hid q2
      have hk0 : (0 : Int) ≤ (k : Int) := by omega
      have hk1 : (k : Int) < (n : Int) := by omega
      clear hR hG hB q1 q2 hI
      cases put
      · have hmk' := hmk rfl
        clear hmk
        by_cases hc1 : cmpL t x < 0
        · have H := Lib.hid (HG.out.less (by rw [← HLO.out]; exact hmk') HQ.out hc1)
          have hc2 : cmpL t x ≤ 0 := by omega
          obtain ⟨z, hz⟩ : ∃ z, cmpL t x = z := ⟨_, rfl⟩
          rw [hz] at hc1 hc2
          simp only [hz] at C
          clear hz
          have HNr := Lib.hid hNw
          have HKr : Hid (∀ p : Addr, p.block < N → wr.cell? p = wr.cell? p) := fun _ _ => rfl
          go_wp2_with (first
            | (go_at_call 164; ((with_reducible refine (C.out wr _ _ (fun _ _ => rfl)).mono ?_); rintro e w3 ⟨rfl, j3, e3⟩)
               have HR3 := Lib.hid (show LowRow w3 N N _ m ls' out by rw [e3]; exact HR.out.drewN j3)
               have HB3 := Lib.hid (show Below N w w3 by rw [e3]; exact below_drewN HB.out j3)
               have HK3 := Lib.hid (show ∀ p : Addr, p.block < N → w3.cell? p = wr.cell? p by rw [e3]; exact fun _ _ => rfl)
               have c3 := (HK3.out ⟨b, off + k, none⟩ hb).trans q3
               have HN3 := Lib.hid (show N ≤ w3.heap.size by rw [e3]; exact HNr.out)
               clear e3)
            | (go_at_call 164; ((with_reducible refine (C.out w3 _ _ HK3.out).mono ?_); rintro e w4 ⟨rfl, j4, e4⟩)
               have HR4 := Lib.hid (show LowRow w4 N N _ m ls' out by rw [e4]; exact HR3.out.drewN j4)
               have HB4 := Lib.hid (show Below N w w4 by rw [e4]; exact below_drewN HB3.out j4)
               have HK4 := Lib.hid (show ∀ p : Addr, p.block < N → w4.cell? p = wr.cell? p by rw [e4]; exact HK3.out)
               have c4 := (HK4.out ⟨b, off + k, none⟩ hb).trans q3
               have HN4 := Lib.hid (show N ≤ w4.heap.size by rw [e4]; exact HN3.out)
               clear e4)
            | (at_builtin
               refine wpList_append_own_at _ rfl _ _ 49 rfl N 25 i0 _ 1 24 Try.underlying49 hi hz0 hz1 hz2 rfl (by omega) (.slice Av m cv) m (ls'.map Hd.val) rfl (HR4.out.row.alloc _) ⟨w4.heap.size, 0, none⟩ 1 1 [Hd.val (At, nt, ct)] rfl rfl
                 (World.news_of_block (cs := #[Hd.val (At, nt, ct)]) (t := 25) (fr := (0, 0)) (heap_alloc_new w4 _)) (by simp [Value.oneCell', Hd.val]) (by unfold maxLen; omega) (by omega) (by have := HN4.out; simp; omega) ?_
               intro v5 w5 hown hg _ _
               obtain ⟨hlow, hbel⟩ := LowRow.app HN4.out HR4.out (x := (At, nt, ct)) (HTw.out.keep HK4.out) hown hg
               obtain ⟨g5, cap5, ev, _⟩ := hown.form (by omega)
               subst ev
               have HR5 := Lib.hid hlow
               have HB5 := Lib.hid (HB4.out.trans hbel)
               have HN5 := Lib.hid (Nat.le_trans HN4.out hbel.size)
               have HK5 := Lib.hid (fun (p : Addr) (hp : p.block < N) => (hbel.cell hp).trans (HK4.out p hp))
               have c5 := (HK5.out ⟨b, off + k, none⟩ hb).trans q3
               clear hown hg hlow hbel)
            | (at_builtin
               refine wpList_append_own_at _ rfl _ _ 49 rfl N 25 i0 _ 1 24 Try.underlying49 hi hz0 hz1 hz2 rfl (by omega) (.slice (some ⟨g5, 0, none⟩) (m + 1) cap5) (m + 1) ((ls' ++ [(At, nt, ct)]).map Hd.val) rfl (HR5.out.row.alloc _) ⟨w5.heap.size, 0, none⟩ 1 1 [Hd.val (A', n', c')] rfl rfl
                 (World.news_of_block (cs := #[Hd.val (A', n', c')]) (t := 25) (fr := (0, 0)) (heap_alloc_new w5 _)) (by simp [Value.oneCell', Hd.val]) (by unfold maxLen; omega) (by omega) (by have := HN5.out; simp; omega) ?_
               intro v6 w6 hown hg _ _
               obtain ⟨hlow, hbel⟩ := LowRow.app HN5.out HR5.out (x := (A', n', c')) (HI.out.keep HK5.out) hown hg
               obtain ⟨g6, cap6, ev, _⟩ := hown.form (by omega)
               subst ev
               have HR6 := Lib.hid hlow
               have HB6 := Lib.hid (HB5.out.trans hbel)
               have HN6 := Lib.hid (Nat.le_trans HN5.out hbel.size)
               have HK6 := Lib.hid (fun (p : Addr) (hp : p.block < N) => (hbel.cell hp).trans (HK5.out p hp))
               skip
               clear hown hg hlow hbel))
          go_roundw
          case rel => exact ⟨k + 1, m + 1 + 1, some ⟨g6, 0, none⟩, cap6, _, _, true, by omega, by go_num, rfl, rfl, HR6.out, H.out, fun h => (by cases h), HB6.out⟩
          case measure => simp [intOf]; omega
        · by_cases hc2 : cmpL t x = 0
          · have H := Lib.hid (HG.out.same HQ.out hc2)
            have HNr := Lib.hid hNw
            have hzz : ¬ (0 : Int) < 0 := by omega
            simp only [hc2] at C
            clear hc1 hc2
            go_wp2_with (first
              | (go_at_call 164; ((with_reducible refine (C.out wr _ _ (fun _ _ => rfl)).mono ?_); rintro e w3 ⟨rfl, j3, e3⟩)
                 have HR3 := Lib.hid (show LowRow w3 N N _ m ls' out by rw [e3]; exact HR.out.drewN j3)
                 have HB3 := Lib.hid (show Below N w w3 by rw [e3]; exact below_drewN HB.out j3)
                 have HK3 := Lib.hid (show ∀ p : Addr, p.block < N → w3.cell? p = wr.cell? p by rw [e3]; exact fun _ _ => rfl)
                 have c3 := (HK3.out ⟨b, off + k, none⟩ hb).trans q3
                 have HN3 := Lib.hid (show N ≤ w3.heap.size by rw [e3]; exact HNr.out)
                 clear e3)
              | (go_at_call 164; ((with_reducible refine (C.out w3 _ _ HK3.out).mono ?_); rintro e w4 ⟨rfl, j4, e4⟩)
                 have HR4 := Lib.hid (show LowRow w4 N N _ m ls' out by rw [e4]; exact HR3.out.drewN j4)
                 have HB4 := Lib.hid (show Below N w w4 by rw [e4]; exact below_drewN HB3.out j4)
                 have HK4 := Lib.hid (show ∀ p : Addr, p.block < N → w4.cell? p = wr.cell? p by rw [e4]; exact HK3.out)
                 have c4 := (HK4.out ⟨b, off + k, none⟩ hb).trans q3
                 have HN4 := Lib.hid (show N ≤ w4.heap.size by rw [e4]; exact HN3.out)
                 clear e4)
              | (at_builtin
                 refine wpList_append_own_at _ rfl _ _ 49 rfl N 25 i0 _ 1 24 Try.underlying49 hi hz0 hz1 hz2 rfl (by omega) (.slice Av m cv) m (ls'.map Hd.val) rfl (HR4.out.row.alloc _) ⟨w4.heap.size, 0, none⟩ 1 1 [Hd.val (A', n', c')] rfl rfl
                   (World.news_of_block (cs := #[Hd.val (A', n', c')]) (t := 25) (fr := (0, 0)) (heap_alloc_new w4 _)) (by simp [Value.oneCell', Hd.val]) (by unfold maxLen; omega) (by omega) (by have := HN4.out; simp; omega) ?_
                 intro v5 w5 hown hg _ _
                 obtain ⟨hlow, hbel⟩ := LowRow.app HN4.out HR4.out (x := (A', n', c')) (HI.out.keep HK4.out) hown hg
                 obtain ⟨g5, cap5, ev, _⟩ := hown.form (by omega)
                 subst ev
                 have HR5 := Lib.hid hlow
                 have HB5 := Lib.hid (HB4.out.trans hbel)
                 clear hown hg hlow hbel))
            go_roundw
            case rel => exact ⟨k + 1, m + 1, some ⟨g5, 0, none⟩, cap5, _, _, true, by omega, by go_num, rfl, rfl, HR5.out, H.out, fun h => (by cases h), HB5.out⟩
            case measure => simp [intOf]; omega
          · have H := Lib.hid (HG.out.more HQ.out (by omega))
            have HNr := Lib.hid hNw
            have hc3 : 0 < cmpL t x := by omega
            obtain ⟨z, hz⟩ : ∃ z, cmpL t x = z := ⟨_, rfl⟩
            rw [hz] at hc3
            simp only [hz] at C
            clear hz hc1 hc2
            go_wp2_with (first
              | (go_at_call 164; ((with_reducible refine (C.out wr _ _ (fun _ _ => rfl)).mono ?_); rintro e w3 ⟨rfl, j3, e3⟩)
                 have HR3 := Lib.hid (show LowRow w3 N N _ m ls' out by rw [e3]; exact HR.out.drewN j3)
                 have HB3 := Lib.hid (show Below N w w3 by rw [e3]; exact below_drewN HB.out j3)
                 have HK3 := Lib.hid (show ∀ p : Addr, p.block < N → w3.cell? p = wr.cell? p by rw [e3]; exact fun _ _ => rfl)
                 have c3 := (HK3.out ⟨b, off + k, none⟩ hb).trans q3
                 have HN3 := Lib.hid (show N ≤ w3.heap.size by rw [e3]; exact HNr.out)
                 clear e3)
              | (at_builtin
                 refine wpList_append_own_at _ rfl _ _ 49 rfl N 25 i0 _ 1 24 Try.underlying49 hi hz0 hz1 hz2 rfl (by omega) (.slice Av m cv) m (ls'.map Hd.val) rfl (HR3.out.row.alloc _) ⟨w3.heap.size, 0, none⟩ 1 1 [Hd.val (A', n', c')] rfl rfl
                   (World.news_of_block (cs := #[Hd.val (A', n', c')]) (t := 25) (fr := (0, 0)) (heap_alloc_new w3 _)) (by simp [Value.oneCell', Hd.val]) (by unfold maxLen; omega) (by omega) (by have := HN3.out; simp; omega) ?_
                 intro v5 w5 hown hg _ _
                 obtain ⟨hlow, hbel⟩ := LowRow.app HN3.out HR3.out (x := (A', n', c')) (HI.out.keep HK3.out) hown hg
                 obtain ⟨g5, cap5, ev, _⟩ := hown.form (by omega)
                 subst ev
                 have HR5 := Lib.hid hlow
                 have HB5 := Lib.hid (HB3.out.trans hbel)
                 clear hown hg hlow hbel))
            go_roundw
            case rel => exact ⟨k + 1, m + 1, some ⟨g5, 0, none⟩, cap5, _, _, false, by omega, by go_num, rfl, rfl, HR5.out, H.out, fun _ => by omega, HB5.out⟩
            case measure => simp [intOf]; omega
      · have H := Lib.hid (HG.out.put HQ.out (by rw [← HLO.out]; exact hm1))
        have HNr := Lib.hid hNw
        have HKr : Hid (∀ p : Addr, p.block < N → wr.cell? p = wr.cell? p) := fun _ _ => rfl
        clear hmk
        go_wp2_with (first
          | (at_builtin
             refine wpList_append_own_at _ rfl _ _ 49 rfl N 25 i0 _ 1 24 Try.underlying49 hi hz0 hz1 hz2 rfl (by omega) (.slice Av m cv) m (ls'.map Hd.val) rfl (HR.out.row.alloc _) ⟨wr.heap.size, 0, none⟩ 1 1 [Hd.val (A', n', c')] rfl rfl
               (World.news_of_block (cs := #[Hd.val (A', n', c')]) (t := 25) (fr := (0, 0)) (heap_alloc_new wr _)) (by simp [Value.oneCell', Hd.val]) (by unfold maxLen; omega) (by omega) (by have := HNr.out; simp; omega) ?_
             intro v5 w5 hown hg _ _
             obtain ⟨hlow, hbel⟩ := LowRow.app HNr.out HR.out (x := (A', n', c')) (HI.out.keep HKr.out) hown hg
             obtain ⟨g5, cap5, ev, _⟩ := hown.form (by omega)
             subst ev
             have HR5 := Lib.hid hlow
             have HB5 := Lib.hid (HB.out.trans hbel)
             clear hown hg hlow hbel))
        go_roundw
        case rel => exact ⟨k + 1, m + 1, some ⟨g5, 0, none⟩, cap5, _, _, true, by omega, by go_num, rfl, rfl, HR5.out, H.out, fun h => (by cases h), HB5.out⟩
        case measure => simp [intOf]; omega
    · obtain rfl : k = n := by omega
      have HG := Lib.hid (show out ++ goW t put [] = withL t tt by
        have := hG.1
        rwa [List.drop_of_length_le (by rw [← HLL.out]; exact Nat.le_refl _)] at this)
      have HNr := Lib.hid hNw
      have HKr : Hid (∀ p : Addr, p.block < N → wr.cell? p = w.cell? p) := fun p hp => HB.out.cell hp
      clear hR hG hB hmk
      cases put
      · go_wp2_with (first
          | (at_builtin
             refine wpList_append_own_at _ rfl _ _ 49 rfl N 25 i0 _ 1 24 Try.underlying49 hi hz0 hz1 hz2 rfl (by omega) (.slice Av m cv) m (ls'.map Hd.val) rfl (HR.out.row.alloc _) ⟨wr.heap.size, 0, none⟩ 1 1 [Hd.val (At, nt, ct)] rfl rfl
               (World.news_of_block (cs := #[Hd.val (At, nt, ct)]) (t := 25) (fr := (0, 0)) (heap_alloc_new wr _)) (by simp [Value.oneCell', Hd.val]) (by unfold maxLen; omega) (by omega) (by have := HNr.out; simp; omega) ?_
             intro v5 w5 hown hg _ _
             obtain ⟨hlow, hbel⟩ := LowRow.app HNr.out HR.out (x := (At, nt, ct)) (HT.out.keep HKr.out) hown hg
             obtain ⟨g5, cap5, ev, _⟩ := hown.form (by omega)
             subst ev
             have HR5 := Lib.hid hlow
             have HB5 := Lib.hid (HB.out.trans hbel)
             clear hown hg hlow hbel))
        go_ret
        have hT := HR5.out.terms (by have := HB5.out.size; have := HN.out; omega) (by omega)
        obtain ⟨A5, c5, e5, hT⟩ := hT
        cases e5
        exact ⟨_, _, _, _, rfl, by rw [← HG.out]; exact hT, HB5.out⟩
      · go_wp2
        go_ret
        have hT := HR.out.terms hNw (by omega)
        obtain ⟨A5, c5, e5, hT⟩ := hT
        cases e5
        exact ⟨_, _, _, _, rfl, by rw [← HG.out, goW_true, List.append_nil]; exact hT, HB.out⟩

end Go.Proofs.Ytcegbmibpkopaaa

namespace Go.Proofs.Ytcegbmibpkopaaa
open Go.RowKit

set_option maxRecDepth 100000 in
set_option maxHeartbeats 2000000 in
theorem refRenamed_k (A : Option Addr) (n c : Nat) (zs : List Int) (w : World) (hx : IntsAt w w.heap.size A n zs) (h1 : 1 ≤ n) (hn : n ≤ 1000000) (hb : ∀ z ∈ zs, -1000000 ≤ z ∧ z ≤ 1000000) :
    Calls Try.prog 86 #[.slice A n c] w fun e w' => ∃ A' c', e = .returned (.slice A' n c') ∧ (IntsAt w' w'.heap.size A' n (canon zs) ∧ n ≤ c' ∧ c' ≤ 9223372036854775807) ∧ Below w.heap.size w w' := by
  obtain ⟨i0, hi, hz0, hz1, hz2⟩ := info_parts info_int
  obtain ⟨bt, offt, rfl, hbt, htc⟩ := hx.mem (by omega)
  have hlen := hx.len
  have CV := Lib.hid (variables_any _ n c zs w hx hn hb)
  have HLX := Lib.hid hlen
  have HTC := Lib.hid htc
  have HBD := Lib.hid hb
  have hsl := seenTo_le zs n
  have hvl : (vof (seenTo zs n)).length = (seenTo zs n).length := by simp [vof]
  have hN1 := Lib.hid (show (zs.map (Value.int .i64)).length = n * 1 by simp [hlen])
  have hN3 := Lib.hid (show ∀ u ∈ zs.map (Value.int .i64), u.oneCell' = true by
    intro u hu
    obtain ⟨z, _, rfl⟩ := List.mem_map.1 hu
    rfl)
  obtain ⟨L, hL⟩ : ∃ L, (vof (seenTo zs n)).length = L := ⟨_, rfl⟩
  have hL2 : L ≤ n := by omega
  have HL := Lib.hid (And.intro hL (show (seenTo zs n).length = L by omega))
  rw [hL] at CV
  clear hx hb hlen htc hsl hvl hL
  go_enter Try.func86, Try.ntmps86
  go_wp2_with (first
    | (go_at_call 110; refine CV.out.mono ?_; rintro e w1 ⟨v, rfl, hown, hB⟩
       obtain ⟨Av, cv, hv, hIV⟩ := row_ints hown (by omega)
       subst hv
       have HB := Lib.hid hB
       have HIV := Lib.hid hIV
       have HN2 := Lib.hid (show ∀ j u, (zs.map (Value.int .i64))[j]? = some u → (w1.alloc (.cells #[] 3)).cell? ((⟨bt, offt, none⟩ : Addr).add j) = some u by
         intro j u hu
         rw [add0, alloc_keep _ _ _ (by have := hB.size; show bt < _; omega), hB.cell (p := ⟨bt, offt + j, none⟩) hbt]
         simp only [List.getElem?_map, Option.map_eq_some_iff] at hu
         obtain ⟨z, hz, rfl⟩ := hu
         obtain ⟨hj, rfl⟩ := List.getElem?_eq_some_iff.1 hz
         exact HTC.out j hj)
       have HO := Lib.hid (show (w1.alloc (.cells #[] 3)).ownsRow w1.heap.size 3 1 (.slice (some ⟨w1.heap.size, 0, none⟩) 0 0) 0 [] from
         ⟨rfl, .inr ⟨w1.heap.size, 0, #[], rfl, Nat.le_refl _, heap_alloc_new w1 _, Nat.le_refl _, by unfold maxLen; omega, rfl, rfl⟩⟩)
       clear hown hB hIV)
    | (at_builtin
       refine wpList_append_own_at _ rfl _ _ 25 rfl w1.heap.size 3 i0 _ 1 8 Try.underlying25 hi hz0 hz1 hz2 rfl (by omega) (.slice (some ⟨w1.heap.size, 0, none⟩) 0 0) 0 [] rfl HO.out ⟨bt, offt, none⟩ n c (zs.map (Value.int .i64)) rfl hN1.out HN2.out hN3.out (by unfold maxLen; omega) (by omega) (by simp) ?_
       intro v2 w2 hown2 hg2 _ _
       have hBW := (((Below.refl _ w1).alloc (Nat.le_refl _) _).grown hg2 (by simp) (fun k e => by cases e; exact Nat.le_refl _))
       have hown3 := hown2
       rw [Nat.zero_add, List.nil_append] at hown3
       obtain ⟨g, cap, hv2, _, hglt⟩ := hown3.form (by omega)
       subst hv2
       have HBW := Lib.hid hBW
       have HOWN := Lib.hid hown3
       have HGB := Lib.hid ((hown3.lt g rfl).1)
       clear hown2 hg2 hown3 hBW hglt))
  have HR0 : Hid (w2.ownsRow w1.heap.size 3 1 (.slice (some ⟨g, 0, none⟩) n cap) n ((rl zs 0).map (Value.int .i64))) := by
    have := HOWN.out
    rw [rl_zero]
    exact this
  clear hi hz0 hz1 hz2
  obtain ⟨S, hS⟩ : ∃ S, seenTo zs n = S := ⟨_, rfl⟩
  rw [hS] at HIV HL
  have HS := Lib.hid hS
  have HND := Lib.hid (hS ▸ seenTo_nodup zs n)
  clear hS
  go_loopw [5] (fun i wr => ∃ k : Nat, k ≤ n ∧ i = .int .i64 k ∧ wr.ownsRow w1.heap.size 3 1 (.slice (some ⟨g, 0, none⟩) n cap) n ((rl zs k).map (Value.int .i64)) ∧ Below w1.heap.size w1 wr) (fun i _ => n - (intOf i).toNat)
  case atStart => exact ⟨0, Nat.zero_le _, rfl, HR0.out, HBW.out⟩
  case round =>
    obtain ⟨k, hk, rfl, hR, hBr⟩ := hrel
    by_cases hlt : k < n
    · have k1 : k < zs.length := by have := HLX.out; omega
      have hz := HTC.out k k1
      have hst := rl_start k1
      have hbd := HBD.out _ (List.getElem_mem k1)
      have hcv : (canon zs)[k]? = some (cval S zs[k] S.length) := by
        have := cval_all zs k1
        rw [← HLX.out, HS.out] at this
        exact this
      have hstep := rl_step k1 hcv
      obtain ⟨z, hzz⟩ : ∃ z, zs[k] = z := ⟨_, rfl⟩
      rw [hzz] at hz hst hbd hcv hstep
      obtain ⟨hb1, hb2⟩ := hbd
      have hk0 : (0 : Int) ≤ (k : Int) := by omega
      have hk1 : (k : Int) < (n : Int) := by omega
      have HR : Hid (wr.ownsRow w1.heap.size 3 1 (.slice (some ⟨g, 0, none⟩) n cap) n (((rl zs k).set k (cval S z 0)).map (Value.int .i64))) := by
        rw [cval_zero, hst]; exact hR
      have HBR := Lib.hid hBr
      have HZ := Lib.hid hz
      have HSTEP := Lib.hid hstep
      clear hR hBr hst hcv hz hstep hzz
      obtain ⟨wo, rfl⟩ : ∃ wo : World, wo = wr := ⟨_, rfl⟩
      go_wp2
      go_loopw [6] (fun j wq => ∃ q : Nat, q ≤ L ∧ j = .int .i64 q ∧ wq.ownsRow w1.heap.size 3 1 (.slice (some ⟨g, 0, none⟩) n cap) n (((rl zs k).set k (cval S z q)).map (Value.int .i64)) ∧ Below w1.heap.size w1 wq) (fun j _ => L - (intOf j).toNat)
      case atStart => exact ⟨0, Nat.zero_le _, rfl, HR.out, HBR.out⟩
      case round =>
        obtain ⟨q, hq, rfl, hRq, hBq⟩ := hrel
        have HRQ := Lib.hid hRq
        have HBQ := Lib.hid hBq
        clear hRq hBq
        by_cases hql : q < L
        · have cz : wr.cell? ⟨bt, offt + k, none⟩ = some (.int .i64 z) := ((HB.out.trans (HBQ.out.mono HB.out.size)).cell (p := ⟨bt, offt + k, none⟩) hbt).trans HZ.out
          obtain ⟨b, off, vq, rfl, cv0, q1, ev⟩ := (HIV.out.below HBQ.out).cellAt hql
          have q2 : q < S.length := by have := HL.out.2; omega
          have evs : vq = -S[q] - 1 := by rw [← ev]; simp [vof]
          have hsb : -1000000 ≤ S[q] ∧ S[q] ≤ 1000000 := HBD.out _ (seen_mem zs n _ (by rw [HS.out]; exact List.getElem_mem q2))
          have hsn := seen_neg zs n S[q] (by rw [HS.out]; exact List.getElem_mem q2)
          have hv1 : -2000000 ≤ vq := by omega
          have hv2 : vq ≤ 2000000 := by omega
          have hq0 : (0 : Int) ≤ (q : Int) := by omega
          have hq1 : (q : Int) < (L : Int) := by omega
          have hq2 : (q : Int) ≤ 1000000 := by omega
          have hmiss := cval_miss (z := z) q2
          have hhit := cval_hit (z := z) q2 HND.out
          have hlenr : k < n * 1 := by omega
          have ccell := HRQ.out.cellAt k hlenr
          have cfro := HRQ.out.frozenAt k
          have cst := HRQ.out.stored k (.int .i64 (-(q : Int) - 1))
          have hrl : ((((rl zs k).set k (cval S z q)).map (Value.int .i64)))[k]? = some (.int .i64 (cval S z q)) := by
            rw [List.getElem?_map, List.getElem?_set_self (by rw [rl_length (by omega)]; exact k1)]; rfl
          rw [hrl] at ccell
          obtain ⟨cvv, hcvv⟩ : ∃ cvv, cval S z q = cvv := ⟨_, rfl⟩
          rw [hcvv] at ccell
          by_cases e : z = S[q]
          · have HX : Hid ((wr.setCell ⟨g, k, none⟩ (.int .i64 (-(q : Int) - 1))).ownsRow w1.heap.size 3 1 (.slice (some ⟨g, 0, none⟩) n cap) n (((rl zs k).set k (cval S z (q + 1))).map (Value.int .i64)) ∧ Below w1.heap.size w1 (wr.setCell ⟨g, k, none⟩ (.int .i64 (-(q : Int) - 1)))) := by
              refine ⟨?_, HBQ.out.setCell (p := ⟨g, k, none⟩) HGB.out _⟩
              have h := cst.1
              rw [set_map_int, List.set_set] at h
              rw [hhit (by omega) e.symm]
              exact h
            have he : (z == -vq - 1) = true := by simp; omega
            clear e evs hsb hsn hmiss hhit cst hrl hcvv ev
            go_wp2_with fail
            go_quiet (fail)
            go_wp2
            go_roundw
            case rel => exact ⟨q + 1, by omega, by go_num, HX.out.1, ⟨HX.out.2.os, HX.out.2.tape, HX.out.2.output, HX.out.2.size, HX.out.2.block⟩⟩
            case measure => simp [intOf]; omega
          · have HX : Hid (wr.ownsRow w1.heap.size 3 1 (.slice (some ⟨g, 0, none⟩) n cap) n (((rl zs k).set k (cval S z (q + 1))).map (Value.int .i64)) ∧ Below w1.heap.size w1 wr) :=
              ⟨by rw [hmiss (fun h => e h.symm)]; exact HRQ.out, HBQ.out⟩
            have he : (z == -vq - 1) = false := by simp; omega
            clear e evs hsb hsn hmiss hhit cst hrl hcvv ev
            go_wp2_with fail
            go_quiet (fail)
            go_wp2
            go_roundw
            case rel => exact ⟨q + 1, by omega, by go_num, HX.out.1, below_drewN HX.out.2 _⟩
            case measure => simp [intOf]; omega
        · obtain rfl : q = L := by omega
          have HX : Hid (wr.ownsRow w1.heap.size 3 1 (.slice (some ⟨g, 0, none⟩) n cap) n ((rl zs (k + 1)).map (Value.int .i64))) := by
            have h := HRQ.out
            have := HSTEP.out
            rw [HL.out.2] at this
            rw [this] at h
            exact h
          go_wp2
          go_roundw
          case rel => exact ⟨k + 1, by omega, by go_num, HX.out, HBQ.out⟩
          case measure => simp [intOf]; omega
    · obtain rfl : k = n := by omega
      have HRR := Lib.hid hR
      have HBR := Lib.hid hBr
      clear hR hBr
      go_wp2
      go_ret
      refine ⟨_, _, rfl, ?_, HB.out.trans (HBR.out.mono HB.out.size)⟩
      have h := HRR.out
      rw [HLX.out, rl_all, ← HLX.out] at h
      obtain ⟨A', c', e, hI, hk⟩ := row_intsk h hn
      cases e
      exact ⟨hI, hk⟩

end Go.Proofs.Ytcegbmibpkopaaa
