/- Contract: the reference's Compose. -/
import Derived.Test.YtlciaecclcckbaaN13g
import Derived.Test.YtlciaecclcckbaaB4g
/- Words: rows of binds that grow; contracts: the reference's SameBinds, Compose. -/
namespace Go.Proofs.Ytlciaecclcckbaa
open Go.RowKit

theorem info_bind : (Try.prog.info? 77).map (fun i => (i.zero, i.size, i.bytes)) = some (some (.agg #[.int .i64 0, .slice none 0 0]), 2, 32) := by kernel_rfl
/-- The cells of binds. -/
def flatB : List Hd → List Bd → List Value
  | h :: ls, x :: bb => .int .i64 x.1 :: .slice h.1 h.2.1 h.2.2 :: flatB ls bb
  | _, _ => []
theorem flatB_len : ∀ (ls : List Hd) (bb : List Bd), ls.length = bb.length → (flatB ls bb).length = 2 * bb.length
  | [], [], _ => rfl
  | [], _ :: _, h => by simp at h
  | _ :: _, [], h => by simp at h
  | h :: ls, x :: bb, e => by simp only [flatB, List.length_cons]; rw [flatB_len ls bb (by simpa using e)]; omega
theorem flatB_snoc : ∀ (ls : List Hd) (bb : List Bd) (h : Hd) (x : Bd), ls.length = bb.length → flatB (ls ++ [h]) (bb ++ [x]) = flatB ls bb ++ [.int .i64 x.1, .slice h.1 h.2.1 h.2.2]
  | [], [], _, _, _ => rfl
  | [], _ :: _, _, _, h => by simp at h
  | _ :: _, [], _, _, h => by simp at h
  | y :: ls, z :: bb, h, x, e => by
    simp only [List.cons_append, flatB]
    rw [flatB_snoc ls bb h x (by simpa using e)]
theorem flatB_get : ∀ (ls : List Hd) (bb : List Bd) (j : Nat) (h : j < ls.length) (h' : j < bb.length), (flatB ls bb)[j * 2]? = some (.int .i64 bb[j].1) ∧ (flatB ls bb)[j * 2 + 1]? = some (.slice ls[j].1 ls[j].2.1 ls[j].2.2)
  | [], _, _, h, _ => by simp at h
  | _ :: _, [], _, _, h => by simp at h
  | y :: ls, z :: bb, 0, _, _ => ⟨rfl, rfl⟩
  | y :: ls, z :: bb, j + 1, h, h' => by
    have := flatB_get ls bb j (by simpa using h) (by simpa using h')
    simp only [flatB, List.getElem_cons_succ]
    rw [show (j + 1) * 2 = j * 2 + 1 + 1 from by omega]
    simpa using this

/-- A row of the call's own, of binds: the blocks of their terms are not the row's. -/
structure BRowAt (w : World) (base : Nat) (v : Value) (k : Nat) (ls : List Hd) (bb : List Bd) : Prop where
  row : w.ownsRow base 77 2 v k (flatB ls bb)
  ll : ls.length = k
  bl : bb.length = k
  each : ∀ j (h : j < ls.length) (h' : j < bb.length), IntsBut w v.ownBlock ls[j].1 ls[j].2.1 bb[j].2
theorem BRowAt.nil (w : World) (base : Nat) : BRowAt w base (.slice none 0 0) 0 [] [] := ⟨World.ownsRow_nil _ _ _ _, rfl, rfl, fun j hj => by simp at hj⟩
theorem BRowAt.below {w w' : World} {base k : Nat} {v : Value} {ls : List Hd} {bb : List Bd} (h : BRowAt w base v k ls bb) (hb : Below w.heap.size w w') : BRowAt w' base v k ls bb :=
  ⟨row_below h.row hb, h.ll, h.bl, fun j a b => (h.each j a b).below hb⟩
theorem BRowAt.push {w w' : World} {base k : Nat} {v v' : Value} {ls : List Hd} {bb : List Bd} {x : Hd} {t : Bd} (h : BRowAt w base v k ls bb) (hx : IntsBut w v.ownBlock x.1 x.2.1 t.2)
    (hrow : w'.ownsRow base 77 2 v' (k + 1) (flatB ls bb ++ [.int .i64 t.1, .slice x.1 x.2.1 x.2.2])) (hg : w.grownBy w' v.ownBlock) (hv : v'.ownBlock = v.ownBlock ∨ v'.ownBlock = some w.heap.size) : BRowAt w' base v' (k + 1) (ls ++ [x]) (bb ++ [t]) := by
  have hll := h.ll
  have hlt := h.bl
  refine ⟨by rw [flatB_snoc _ _ _ _ (by omega)]; exact hrow, by simp [hll], by simp [hlt], fun j a b => ?_⟩
  by_cases hj : j < k
  · rw [List.getElem_append_left (by omega), List.getElem_append_left (by omega)]
    exact (h.each j (by omega) (by omega)).grown hg hv
  · have : j = k := by simp at a; omega
    subst this
    rw [List.getElem_append_right (by omega), List.getElem_append_right (by omega)]
    simp only [hll, hlt, Nat.sub_self, List.getElem_cons_zero]
    exact hx.grown hg hv
theorem BRowAt.binds {w : World} {base k : Nat} {v : Value} {ls : List Hd} {bb : List Bd} (h : BRowAt w base v k ls bb) (hk : k ≤ 1000000) : ∃ A c, v = .slice A k c ∧ BindsAt w w.heap.size A k ls bb := by
  have hll := h.ll
  have hbl := h.bl
  obtain ⟨hl, ⟨rfl, rfl⟩ | ⟨g, cap, cur, rfl, hbg, hcur, hn1, hn2, hsz, htk⟩⟩ := h.row
  · have e1 : ls = [] := List.eq_nil_of_length_eq_zero hll
    have e2 : bb = [] := List.eq_nil_of_length_eq_zero hbl
    subst e1
    subst e2
    exact ⟨none, 0, rfl, ⟨rfl, rfl, by omega, fun h => absurd h (by omega), fun j hj => by simp at hj⟩⟩
  · refine ⟨some ⟨g, 0, none⟩, cap, rfl, ⟨hbl.symm, hll.symm, by omega, fun _ => ⟨g, 0, rfl, Blk.lt (t := 77) hcur, fun j hj hj' => ?_⟩, fun j a b => (h.each j a b).ints⟩⟩
    have hf := flatB_get ls bb j hj' hj
    have key : ∀ i, i < k * 2 → cur[i]? = (flatB ls bb)[i]? := by
      intro i hi
      rw [← htk, List.getElem?_take, if_pos hi, Array.getElem?_toList]
    refine ⟨?_, ?_⟩
    · rw [Blk.cell (t := 77) hcur, Nat.zero_add, key _ (by omega)]
      exact hf.1
    · rw [Blk.cell (t := 77) hcur, Nat.zero_add, key _ (by omega)]
      exact hf.2

set_option maxRecDepth 100000 in
set_option maxHeartbeats 2000000 in
theorem sameBinds_self (A A2 : Option Addr) (n c n2 c2 : Nat) (ls ls2 : List Hd) (bb : List Bd) (w : World) (B : Nat) (hx : BindsAt w B A n ls bb) (hy : BindsAt w B A2 n2 ls2 bb) :
    Calls Try.prog 35 #[.slice A n c, .slice A2 n2 c2] w fun e w' => e = .returned (.bool true) ∧ ∃ k, w' = w.drewN k := by
  have hlx := hx.len
  have hly := hy.len
  have hmx := hx.max
  obtain rfl : n = n2 := by omega
  have HX := Lib.hid hx
  have HY := Lib.hid hy
  clear hx hy hlx hly
  have hb : ((n : Int) != (n : Int)) = false := by simp
  go_enter Try.func35, Try.ntmps35
  go_wp2
  go_loopw [5] (fun i wr => ∃ k : Nat, k ≤ n ∧ i = .int .i64 k ∧ ∃ m, wr = w.drewN m) (fun i _ => n - (intOf i).toNat)
  case atStart => exact ⟨0, Nat.zero_le _, rfl, 0, rfl⟩
  case round =>
    obtain ⟨k, hk, rfl, m, hm⟩ := hrel
    have HM := Lib.hid hm
    have hxw : BindsAt wr B A n ls bb := by rw [hm]; exact HX.out.keep fun _ _ => rfl
    have hyw : BindsAt wr B A2 n ls2 bb := by rw [hm]; exact HY.out.keep fun _ _ => rfl
    clear hm
    by_cases hlt : k < n
    · obtain ⟨b, off, v, t, A', n', c', rfl, hbl, q1, q2, e1, e2, hI⟩ := hxw.cellAt hlt
      obtain ⟨b2, off2, v2, t2, A2', n2', c2', rfl, hbl2, p1, p2, f1, f2, hI2⟩ := hyw.cellAt hlt
      rw [e1] at f1
      cases f1
      have hk0 : (0 : Int) ≤ (k : Int) := by omega
      have hk1 : (k : Int) < (n : Int) := by omega
      have hv : (v != v) = false := by simp
      have CS := Lib.hid (fun nq => same_self A' A2' n' c' n2' c2' t (wr.drewN nq) B (hI.keep fun _ _ => rfl) (hI2.keep fun _ _ => rfl))
      clear e1 e2 f2 hI hI2 hxw hyw
      go_wp2_with fail
      go_quiet ((go_at_call 18; with_reducible exact quiet_draw2 (CS.out _)))
      go_wp2
      go_roundw
      case rel => exact ⟨k + 1, by omega, by go_num, _, by rw [HM.out]; exact World.drewN_drewN ..⟩
      case measure => simp [intOf]; omega
    · obtain rfl : k = n := by omega
      clear hxw hyw
      go_wp2
      go_ret
      exact ⟨rfl, m, HM.out⟩

/-- What Compose hands back: the binds and the error. -/
noncomputable def compZ (ss : Sg) (bb mm : List Bd) : List Bd × Int := by
  classical
  exact if (bindsOk ss bb && bindsOk ss mm) = true then (if LongTo bb mm 12 then ([], 4) else (compB bb mm, 0)) else ([], 1)
/-- Binds and an error are returned. -/
def RetB (w : World) (bb : List Bd) (er : Int) (e : Ending) (w' : World) : Prop :=
  ∃ A n c ls, e = .returned (.tuple #[.slice A n c, .int .i64 er]) ∧ BindsAt w' w'.heap.size A n ls bb ∧ Below w.heap.size w w'
theorem BindsAt.none (w : World) (B : Nat) : BindsAt w B none 0 [] [] := ⟨rfl, rfl, by omega, fun h => absurd h (by omega), fun j hj => by simp at hj⟩

end Go.Proofs.Ytlciaecclcckbaa

namespace Go.Proofs.Ytlciaecclcckbaa
open Go.RowKit

theorem compZ_bad1 {ss : Sg} {bb mm : List Bd} (h : bindsOk ss bb = false) : compZ ss bb mm = ([], 1) := by simp [compZ, h]
theorem compZ_bad2 {ss : Sg} {bb mm : List Bd} (h : bindsOk ss mm = false) : compZ ss bb mm = ([], 1) := by simp [compZ, h]
theorem compZ_long {ss : Sg} {bb mm : List Bd} (h1 : bindsOk ss bb = true) (h2 : bindsOk ss mm = true) (h : LongTo bb mm 12) : compZ ss bb mm = ([], 4) := by simp [compZ, h1, h2, h]
theorem compZ_ok {ss : Sg} {bb mm : List Bd} (h1 : bindsOk ss bb = true) (h2 : bindsOk ss mm = true) (h : ¬ LongTo bb mm 12) : compZ ss bb mm = (compB bb mm, 0) := by simp [compZ, h1, h2, h]
theorem LongTo.more {bb mm : List Bd} {k : Nat} (h : 60 < (appl mm (ofB bb (k : Int))).length) (hk : k < 12) : LongTo bb mm 12 := ⟨k, hk, h⟩
theorem LongTo.not_succ {bb mm : List Bd} {k : Nat} (h : ¬ LongTo bb mm k) (h1 : ¬ 60 < (appl mm (ofB bb (k : Int))).length) : ¬ LongTo bb mm (k + 1) := by
  rintro ⟨v, hv, h2⟩
  by_cases e : v < k
  · exact h ⟨v, e, h2⟩
  · obtain rfl : v = k := by omega
    exact h1 h2

theorem blk_nx (w : World) (o : Obj) (k : Nat) (T : TypeId) (cs : Array Value) : Blk (((w.alloc o).drewN k).alloc (.cells cs T)) (w.heap.size + 1) T cs := by
  have := Blk.new ((w.alloc o).drewN k) T cs
  rw [show ((w.alloc o).drewN k).heap.size = w.heap.size + 1 from World.size_alloc w o] at this
  exact this

set_option maxRecDepth 100000 in
set_option maxHeartbeats 4000000 in
theorem refCompose_any (As Ab Am : Option Addr) (ns cs nb cb nm cm : Nat) (ss : Sg) (ls lm : List Hd) (bb mm : List Bd) (w : World) (hs : SigAt w w.heap.size As ns ss) (hb : BindsAt w w.heap.size Ab nb ls bb) (hm : BindsAt w w.heap.size Am nm lm mm) (hn : nb ≤ 1000000) (hn2 : nm ≤ 1000000) :
    Calls Try.prog 34 #[.slice As ns cs, .slice Ab nb cb, .slice Am nm cm] w (RetB w (compZ ss bb mm).1 (compZ ss bb mm).2) := by
  obtain ⟨i0, hi, hz0, hz1, hz2⟩ := info_parts info_bind
  have C1 := Lib.hid (refBinds_any As Ab ns cs nb cb ss ls bb w hs hb hn)
  have C2 := Lib.hid (fun V (h : Below w.heap.size w V) => refBinds_any As Am ns cs nm cm ss lm mm V (hs.up h) (hm.up h) hn2)
  cases hok : bindsOk ss bb
  · rw [compZ_bad1 hok]
    rw [hok] at C1
    clear hs hb hm hok
    go_enter Try.func34, Try.ntmps34
    go_wp2_with (go_at_call 24; refine C1.out.mono ?_; rintro e w1 ⟨rfl, hB1⟩; have HB1 := Lib.hid hB1; clear hB1)
    go_ret2
    exact ⟨none, 0, 0, [], rfl, BindsAt.none _ _, HB1.out⟩
  · rw [hok] at C1
    cases hok2 : bindsOk ss mm
    · rw [compZ_bad2 hok2]
      simp only [hok2] at C2
      clear hs hb hm hok hok2
      go_enter Try.func34, Try.ntmps34
      go_wp2_with (first
        | (go_at_call 24; ((with_reducible refine C1.out.mono ?_); clear C1; rintro e w1 ⟨rfl, hB1⟩; have HB1 := Lib.hid hB1; clear hB1))
        | (go_at_call 24; ((with_reducible refine (C2.out _ HB1.out).mono ?_); rintro e w2 ⟨rfl, hB2⟩; have HB2 := Lib.hid (below_then HB1.out hB2); clear hB2)))
      go_ret2
      exact ⟨none, 0, 0, [], rfl, BindsAt.none _ _, HB2.out⟩
    · simp only [hok2] at C2
      have HOK := Lib.hid hok
      have HOK2 := Lib.hid hok2
      have HBD := Lib.hid hb
      have HMD := Lib.hid hm
      have HLONG : Hid (LongTo bb mm 12 → compZ ss bb mm = ([], 4)) := Lib.hid (compZ_long hok hok2)
      have HFINE : Hid (¬ LongTo bb mm 12 → compZ ss bb mm = (compB bb mm, 0)) := Lib.hid (compZ_ok hok hok2)
      obtain ⟨CZ, hcz⟩ : ∃ CZ, compZ ss bb mm = CZ := ⟨_, rfl⟩
      rw [hcz] at HLONG HFINE ⊢
      clear hs hb hm hok hok2 hcz
      go_enter Try.func34, Try.ntmps34
      go_wp2_with (first
        | (go_at_call 24; ((with_reducible refine C1.out.mono ?_); clear C1; rintro e w1 ⟨rfl, hB1⟩; have HB1 := Lib.hid hB1; clear hB1))
        | (go_at_call 24; ((with_reducible refine (C2.out _ HB1.out).mono ?_); rintro e w2 ⟨rfl, hB2⟩; have HB2 := Lib.hid (below_then HB1.out hB2); clear hB2)))
      go_loopw [8, 9] (fun o i wr => ∃ (k L : Nat) (Av : Option Addr) (cv : Nat) (lr : List Hd) (cc : List Bd), k ≤ 12 ∧ i = .int .i64 k ∧ o = .slice Av L cv ∧ cc = compTo bb mm k ∧ L ≤ 12 ∧ BRowAt wr w.heap.size (.slice Av L cv) L lr cc ∧ ¬ LongTo bb mm k ∧ Below w.heap.size w wr) (fun _ i _ => 12 - (intOf i).toNat)
      case atStart => exact ⟨0, 0, none, 0, [], [], Nat.zero_le _, rfl, rfl, rfl, by omega, BRowAt.nil _ _, (fun ⟨v, hv, _⟩ => by omega), HB2.out⟩
      case round =>
        obtain ⟨k, L, Av, cv, lr, cc, hk, rfl, rfl, hcc, hL, hrow, hlong, hB⟩ := hrel
        by_cases hlt : k < 12
        · have CO := Lib.hid (refOf_any Ab nb cb (k : Int) ls bb wr (HBD.out.up hB) hn (by omega) (by omega))
          have hvl := ofB_len HOK.out (v := (k : Int)) (by omega) (by omega)
          have hnums := ofB_nums HOK.out (v := (k : Int)) (by omega) (by omega)
          have hsucc := compTo_succ bb mm k
          have hal := appl_len_take HOK2.out (zs := ofB bb (k : Int)) hnums
          have hLs := HLONG.out
          have hmore := @LongTo.more bb mm k
          have hnot := @LongTo.not_succ bb mm k hlong
          obtain ⟨zs, hzs⟩ : ∃ zs, ofB bb (k : Int) = zs := ⟨_, rfl⟩
          rw [hzs] at CO hvl hnums hsucc hal hmore hnot
          obtain ⟨ts, hts⟩ : ∃ ts, appl mm zs = ts := ⟨_, rfl⟩
          have CA := Lib.hid (fun (V : World) (A' : Option Addr) (n' c' : Nat) (h : Below w.heap.size w V) (hI : IntsAt V V.heap.size A' n' zs) => refAppliedR_any Am A' nm cm n' c' ss lm mm zs V (HMD.out.up h) hI hn2 HOK2.out hnums (by rw [hI.len]; omega))
          rw [hts] at hsucc hal hmore hnot
          simp only [hts] at CA
          rw [← hcc] at hsucc
          have hbl : ∀ g, (Value.slice Av L cv).ownBlock = some g → g < wr.heap.size := fun g e => (hrow.row.lt g e).2
          have CA2 := Lib.hid (fun (V : World) (A' : Option Addr) (n' c' : Nat) (h : Below wr.heap.size wr V) (hI : IntsAt V V.heap.size A' n' zs) => (CA.out V A' n' c' (below_then hB h) hI).mono (R' := fun e w' => ∃ A3 c3, e = .returned (.slice A3 ts.length c3) ∧ IntsBut w' (Value.slice Av L cv).ownBlock A3 ts.length ts ∧ Below wr.heap.size wr w') (fun e w' ⟨v3, base3, e1, e2, e3, e4⟩ => by
            obtain ⟨A3, c3, rfl, hbut⟩ := IntsBut.of_row e3 (by omega) (g := (Value.slice Av L cv).ownBlock) (fun g eg => by have := hbl g eg; have := h.size; omega)
            exact ⟨A3, c3, e1, hbut, below_then h e4⟩))
          obtain ⟨m, hm⟩ : ∃ m, ts.length = m := ⟨_, rfl⟩
          rw [hm] at hal hmore hnot
          simp only [hm] at CA2
          have hm2 : m ≤ 10000 := by omega
          have HB := Lib.hid hB
          have HROW := Lib.hid hrow
          have HCC := Lib.hid hcc
          have HMM := Lib.hid hm
          have CVAR := Lib.hid (fun V => refVar_any (k : Int) V (by omega) (by omega))
          by_cases h60 : 60 < m
          · have H := Lib.hid (hLs (hmore h60 hlt))
            have h60' : (60 : Int) < (m : Int) := by omega
            clear hrow hlong hB hvl hnums hsucc hal hLs hmore hnot hzs hts CA hbl hm hcc
            go_wp2_with (first
              | (go_at_call 73; ((with_reducible refine CO.out.mono ?_); rintro e w3 ⟨A3, n3, c3, rfl, hI3, hB3⟩; have HI3 := Lib.hid hI3; have HB3 := Lib.hid hB3; clear hI3 hB3))
              | (go_at_call 75; ((with_reducible refine (CA2.out _ _ _ _ HB3.out HI3.out).mono ?_); rintro e w4 ⟨A4, c4, rfl, hI4, hB4⟩; have HB4 := Lib.hid (below_then HB.out hB4); clear hI4 hB4)))
            go_ret2
            exact ⟨none, 0, 0, [], by rw [H.out]; rfl, by rw [H.out]; exact BindsAt.none _ _, HB4.out⟩
          · have HN := Lib.hid (hnot h60)
            have h60' : ¬ (60 : Int) < (m : Int) := by omega
            by_cases hq : ts = [-(k : Int) - 1]
            · rw [if_pos hq, List.append_nil] at hsucc
              have HSUC := Lib.hid hsucc
              have HQ := Lib.hid (show decide (ts = [-(k : Int) - 1]) = true from decide_eq_true hq)
              clear hrow hlong hB hvl hnums hsucc hal hLs hmore hnot hzs hts CA hbl hm hcc hq
              go_wp2_with (first
                | (go_at_call 73; ((with_reducible refine CO.out.mono ?_); rintro e w3 ⟨A3, n3, c3, rfl, hI3, hB3⟩; have HI3 := Lib.hid hI3; have HB3 := Lib.hid hB3; clear hI3 hB3))
                | (go_at_call 75; ((with_reducible refine (CA2.out _ _ _ _ HB3.out HI3.out).mono ?_); rintro e w4 ⟨A4, c4, rfl, hI4, hB4⟩; have HB4 := Lib.hid hB4; have HI4 := Lib.hid hI4; clear hI4 hB4))
                | (go_at_call 69; ((with_reducible refine (CVAR.out _).mono ?_); rintro e w5 ⟨rfl, rfl⟩; have HB5 := Lib.hid (bel_al HB4.out (.cells #[.int .i64 (-(k : Int) - 1)] 3))))
                | (go_at_call 18; ((with_reducible refine (same_any _ _ _ _ _ _ ts [-(k : Int) - 1] _ _ (HI4.out.ints.alloc _) (ints_var _ _)).mono ?_); rintro e w6 ⟨rfl, j6, rfl⟩; rw [HQ.out]; have HB6 := Lib.hid (below_drewN HB5.out j6))))
              go_roundw
              case rel => exact ⟨k + 1, L, Av, cv, lr, cc, by omega, by go_num, rfl, HSUC.out.symm, hL, HROW.out.below HB6.out, HN.out, below_then HB.out HB6.out⟩
              case measure => simp [intOf]; omega
            · rw [if_neg hq] at hsucc
              have HSUC := Lib.hid hsucc
              have HQ := Lib.hid (show decide (ts = [-(k : Int) - 1]) = false from decide_eq_false hq)
              have hLle : L + 1 ≤ 12 := by
                have h1 := compTo_le bb mm (k + 1)
                have h2 := hrow.bl
                rw [hsucc, List.length_append, List.length_singleton] at h1
                omega
              clear hrow hlong hB hvl hnums hsucc hal hLs hmore hnot hzs hts CA hbl hm hcc hq
              go_wp2_with (first
                | (go_at_call 73; ((with_reducible refine CO.out.mono ?_); rintro e w3 ⟨A3, n3, c3, rfl, hI3, hB3⟩; have HI3 := Lib.hid hI3; have HB3 := Lib.hid hB3; clear hI3 hB3))
                | (go_at_call 75; ((with_reducible refine (CA2.out _ _ _ _ HB3.out HI3.out).mono ?_); rintro e w4 ⟨A4, c4, rfl, hI4, hB4⟩; have HB4 := Lib.hid hB4; have HI4 := Lib.hid hI4; clear hI4 hB4))
                | (go_at_call 69; ((with_reducible refine (CVAR.out _).mono ?_); rintro e w5 ⟨rfl, rfl⟩; have HB5 := Lib.hid (bel_al HB4.out (.cells #[.int .i64 (-(k : Int) - 1)] 3)); have HI5 := Lib.hid (HI4.out.below (bel_al (Below.refl w4.heap.size w4) (.cells #[.int .i64 (-(k : Int) - 1)] 3)))))
                | (go_at_call 18; ((with_reducible refine (same_any _ _ _ _ _ _ ts [-(k : Int) - 1] _ _ HI5.out.ints (ints_var _ _)).mono ?_); rintro e w6 ⟨rfl, j6, rfl⟩; rw [HQ.out]; have HB6 := Lib.hid (bel_al (below_drewN HB5.out j6) (.cells #[.int .i64 (k : Int), .slice A4 m c4] 77)); have HI6 := Lib.hid ((HI5.out.below (below_drewN (Below.refl _ _) j6)).below (bel_al (Below.refl _ _) (.cells #[.int .i64 (k : Int), .slice A4 m c4] 77)))))
                | (at_builtin
                   refine wpList_append_own_at _ rfl _ _ 36 rfl w.heap.size 77 i0 _ 2 32 Try.underlying36 hi hz0 hz1 hz2 rfl (by omega) (.slice Av L cv) L (flatB lr cc) rfl (HROW.out.below HB6.out).row ⟨w4.heap.size + 1, 0, none⟩ 1 1 [.int .i64 (k : Int), .slice A4 m c4] rfl rfl
                     ?_ (by simp [Value.oneCell']) (by unfold maxLen; omega) (by omega) (Nat.le_trans HB.out.size HB6.out.size) ?_
                   · exact World.news_of_block (cs := #[.int .i64 (k : Int), .slice A4 m c4]) (t := 77) (fr := (0, 0)) (blk_nx w4 _ j6 _ _)
                   intro v7 w7 hown7 hg7 _ hv7
                   have hrow7 := (HROW.out.below HB6.out).push (x := (A4, m, c4)) (t := ((k : Int), ts)) HI6.out hown7 hg7 hv7
                   have HB7 := Lib.hid ((below_then HB.out HB6.out).grown hg7 (Nat.le_trans HB.out.size HB6.out.size) (fun k e => (HROW.out.row.lt k e).1))
                   obtain ⟨A7, c7, e7, _⟩ := hrow7.binds (by omega)
                   subst e7
                   have HROW7 := Lib.hid hrow7
                   clear hrow7 hown7 hg7 hv7))
              go_roundw
              case rel => exact ⟨k + 1, L + 1, A7, c7, _, _, by omega, by go_num, rfl, HSUC.out.symm, hLle, HROW7.out, HN.out, HB7.out⟩
              case measure => simp [intOf]; omega
        · obtain rfl : k = 12 := by omega
          have H := Lib.hid (HFINE.out hlong)
          obtain ⟨Ar, cr, er, hr⟩ := hrow.binds (by omega)
          cases er
          have HR := Lib.hid hr
          have HCC := Lib.hid hcc
          have HB := Lib.hid hB
          clear hrow hcc hB hlong hr
          go_wp2
          go_ret2
          exact ⟨_, _, _, _, by rw [H.out]; rfl, by rw [H.out]; show BindsAt _ _ _ _ _ (compTo bb mm 12); rw [← HCC.out]; exact HR.out, HB.out⟩

end Go.Proofs.Ytlciaecclcckbaa
