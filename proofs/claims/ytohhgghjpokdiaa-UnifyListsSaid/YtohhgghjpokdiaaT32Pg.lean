/- lemmarylaw02.UnifyLists: for every sign, every list of lists of numbers and every number the statement's function returns true, and its arguments read behind the call as they read before. No condition. -/
import Derived.Test.YtohhgghjpokdiaaZOg
import Derived.Test.YtohhgghjpokdiaaO3g
import Derived.Test.YtohhgghjpokdiaaY21g
import Derived.Deep.AppendLies
import Derived.Deep.RegionHeld3
import Derived.IntWalk
import Derived.Test.YtohhgghjpokdiaaK2g
import Derived.Test.YtohhgghjpokdiaaB4g
/- The walk of UnifyLists. -/
namespace Go.Proofs.Ytohhgghjpokdiaa
open Go.RowKit

/-- An append of some cells, none perhaps, at a step of a region that draws. -/
theorem step_append_any {P : Program} {ops : Array Oper} {o : Oper} {a : Act} {w : World} {K : Act → World → Prop} {Q : Exit → Act → World → Prop} {E : Prop} (hgd : o.guard = none) (s x : Operand) (t : TypeId)
    (ho : o.op = .call { callee := .builtin .append, args := #[s, x], argTypes := #[t, t] })
    (base : Nat) (e : TypeId) (i : TypeInfo) (z : Value) (size bytes : Nat) (ht : P.underlying t = some (.slice e)) (hi : P.info? e = some i) (hz : i.zero = some z)
    (hsize : i.size = size) (hby : i.bytes = bytes) (hzs : z.cells.size = size) (hsz : 0 < size)
    (v : Value) (n : Nat) (xs : List Value) (hs : a.eval s = v) (hown : w.ownsRow base e size v n xs)
    (ad : Addr) (m c : Nat) (news : List Value) (hx : a.eval x = .slice (some ad) m c) (hl : news.length = m * size) (hnews : ∀ j u, news[j]? = some u → w.cell? (ad.add j) = some u) (h1 : ∀ u ∈ news, u.oneCell' = true)
    (hm : 0 < n + m) (h63 : n + m ≤ maxLen) (hbytes : (n + m) * bytes ≤ 140737488355328) (hbase : base ≤ w.heap.size)
    (h : ∀ g cap w', w'.ownsRow base e size (.slice (some ⟨g, 0, none⟩) (n + m) cap) (n + m) (xs ++ news) → w.grownBy w' v.ownBlock → base ≤ g → K (a.put o.dst (.slice (some ⟨g, 0, none⟩) (n + m) cap)) w') :
    if Region.wanted o (yielded ops a.tmps) = true then Oper.wp P o a w K Q else E := by
  have hw : Region.wanted o (yielded ops a.tmps) = true := by simp [Region.wanted, hgd]
  rw [if_pos hw]
  obtain ⟨v', w', hr, h2, h3, _, _⟩ := run_append_own_at (P := P) w base t o.type e i z size bytes ht hi hz hsize hby hzs hsz v n xs hown ad m c news hl hnews h1 h63 hbytes hbase
  obtain ⟨g, cap, rfl, hg, _⟩ := h2.form hm
  unfold Oper.wp execOp
  simp only [ho, resolve, invoke, builtin, Sem.run_bind, Sem.run_pure, Result.andThen_ok, List.map_toArray, List.map_cons, List.map_nil, hs, hx, hr]
  exact h g cap w' h2 h3 hg
/-- The headers of terms, as values. -/
def hdV (l : List Hd) : List Value := l.map fun h => .slice h.1 h.2.1 h.2.2
theorem hdV_one (l : List Hd) : ∀ u ∈ hdV l, u.oneCell' = true := by
  intro u hu
  obtain ⟨h, _, rfl⟩ := List.mem_map.1 hu
  rfl
/-- A row of headers reads as terms. -/
theorem row_terms {w V : World} {base n g cap : Nat} {ls : List Hd} {tt : List (List Int)} (h : V.ownsRow base 30 1 (.slice (some ⟨g, 0, none⟩) n cap) n (hdV ls)) (hn : 0 < n) (hn2 : n ≤ 1000000) (hlt : tt.length = n) (hll : ls.length = n) (he : ∀ j (a : j < ls.length) (b : j < tt.length), IntsAt V V.heap.size ls[j].1 ls[j].2.1 tt[j]) :
    TermsAt V V.heap.size (some ⟨g, 0, none⟩) n ls tt ∧ n ≤ cap ∧ cap ≤ 9223372036854775807 := by
  obtain ⟨_, hlen, _⟩ := h.form hn
  obtain ⟨hl0, ⟨e, h0⟩ | ⟨g', cap', cur, e, hb, hg, hn1, hc1, hsz, htk⟩⟩ := id h
  · omega
  · cases e
    unfold maxLen at hc1
    refine ⟨⟨⟨hll.symm, by omega, fun _ => ⟨g, 0, rfl, Blk.lt (w := V) (g := g) hg, fun j hj => ?_⟩⟩, hlt.symm, he⟩, hn1, by omega⟩
    have := h.cellAt j (by omega)
    rw [Nat.zero_add, this]
    unfold hdV
    rw [List.getElem?_map, List.getElem?_eq_getElem hj]
    rfl

set_option maxRecDepth 100000 in
set_option maxHeartbeats 8000000 in
theorem uli_small (As At : Option Addr) (ns cs n c : Nat) (at' : Int) (ss : Sg) (ls : List Hd) (tt : List (List Int)) (w : World) (hs : SigAt w w.heap.size As ns ss) (ht : TermsAt w w.heap.size At n ls tt) (hk : n ≤ c ∧ c ≤ 9223372036854775807) (hcap : ∀ x ∈ ls, capOk x) (hsm : smallOk ns ls = false ∨ 70 < n) :
    Calls Try.prog 14 #[.slice As ns cs, .slice At n c, .int .i64 at'] w fun e w' => e = .returned (.bool true) ∧ Below w.heap.size w w' := by
  have HS := Lib.hid (small_any As At ns cs n c ls w _ ht.hds)
  have HB := Lib.hid (Below.refl w.heap.size w)
  cases h : smallOk ns ls
  · have HSM := Lib.hid h
    clear hs ht hk hcap hsm h
    go_enter Try.func14, Try.ntmps14
    go_wp2_with (first
      | (go_at_call 15; refine HS.out.mono ?_; rintro e w' ⟨rfl, rfl⟩; rw [HSM.out])
      | (go_at_call 17; refine (awake2_any _).mono ?_; rintro e VX ⟨rfl, hBX⟩; have HBX := Lib.hid (below_then HB.out hBX); clear hBX))
    go_ret
    exact ⟨rfl, HBX.out⟩
  · have HSM := Lib.hid h
    have h70 : (70 : Int) < (n : Int) := by
      rcases hsm with h2 | h2
      · rw [h] at h2; cases h2
      · omega
    clear hs ht hk hcap hsm h
    go_enter Try.func14, Try.ntmps14
    go_wp2_with (first
      | (go_at_call 15; refine HS.out.mono ?_; rintro e w' ⟨rfl, rfl⟩; rw [HSM.out])
      | (go_at_call 17; refine (awake2_any _).mono ?_; rintro e VX ⟨rfl, hBX⟩; have HBX := Lib.hid (below_then HB.out hBX); clear hBX))
    go_ret
    exact ⟨rfl, HBX.out⟩

theorem rot_idx (x : Int) (n : Nat) (h1 : 1 ≤ n) (h70 : n ≤ 70) : ∃ k : Nat, k < n ∧ (wrap64 (x.tmod (n : Int) + (n : Int))).tmod (n : Int) = (k : Int) := by
  have hn : (0 : Int) < (n : Int) := by omega
  have a1 : x.tmod (n : Int) < (n : Int) := Int.tmod_lt_of_pos x hn
  have a2 : -(n : Int) < x.tmod (n : Int) := Int.lt_tmod_of_pos x hn
  rw [IntWalk.wrap64_in _ (by omega)]
  have a3 : 0 ≤ x.tmod (n : Int) + (n : Int) := by omega
  rw [Int.tmod_eq_emod_of_nonneg a3]
  have b1 := Int.emod_nonneg (x.tmod (n : Int) + (n : Int)) (by omega : (n : Int) ≠ 0)
  have b2 := Int.emod_lt_of_pos (x.tmod (n : Int) + (n : Int)) hn
  exact ⟨((x.tmod (n : Int) + (n : Int)) % (n : Int)).toNat, by omega, by omega⟩
set_option maxRecDepth 100000 in
set_option maxHeartbeats 8000000 in
theorem uli_ok (As At : Option Addr) (ns cs n c : Nat) (at' : Int) (ss : Sg) (ls : List Hd) (tt : List (List Int)) (w : World) (hs : SigAt w w.heap.size As ns ss) (ht : TermsAt w w.heap.size At n ls tt) (hk : n ≤ c ∧ c ≤ 9223372036854775807) (hcap : ∀ x ∈ ls, capOk x) (hsm : smallOk ns ls = true) (h70 : n ≤ 70) :
    Calls Try.prog 14 #[.slice As ns cs, .slice At n c, .int .i64 at'] w fun e w' => e = .returned (.bool true) ∧ Below w.heap.size w w' := by
  obtain ⟨i1, hi1, hy0, hy1, hy2⟩ := info_parts info_termC
  have HS := Lib.hid (small_any As At ns cs n c ls w _ ht.hds)
  have HSM := Lib.hid hsm
  have HB0 := Lib.hid (Below.refl w.heap.size w)
  have h70' : ¬ (70 : Int) < (n : Int) := by omega
  have C1 := Lib.hid (meetAll_any As At ns cs n c ss ls tt w hs ht hk hcap (by omega))
  have C2 := Lib.hid (fun V (h : Below w.heap.size w V) => refMeetAll_any As At ns cs n c ss ls tt V (hs.up h) (ht.up h) hcap (by omega))
  have C3 := Lib.hid (fun V (h : Below w.heap.size w V) => joinAll_any As At ns cs n c ss ls tt V (hs.up h) (ht.up h) hk hcap (by omega))
  have C4 := Lib.hid (fun V (h : Below w.heap.size w V) => refJoinAll_any As At ns cs n c ss ls tt V (hs.up h) (ht.up h) hcap (by omega))
  have hord := fun uu (hl : uu.length = tt.length) (hm : ∀ x, x ∈ uu ↔ x ∈ tt) (h : (allZ (joZ ss) ss tt).2 = 0) => allJ_order (ss := ss) h hl hm
  have hpos := fun (h : (allZ (joZ ss) ss tt).2 = 0) => (allJ h).1
  obtain ⟨M, hM⟩ : ∃ M, allZ (comZ ss 12) ss tt = M := ⟨_, rfl⟩
  obtain ⟨J, hJ⟩ : ∃ J, allZ (joZ ss) ss tt = J := ⟨_, rfl⟩
  simp only [hM] at C1 C2
  simp only [hJ] at C3 C4 hord hpos
  obtain ⟨tm, em⟩ := M
  obtain ⟨tj, ej⟩ := J
  simp only at C1 C2 C3 C4 hord hpos
  have hmm : (em != em) = false := by simp
  have hjj : (ej != ej) = false := by simp
  by_cases hej : ej = 0
  · subst hej
    have hlt := ht.len
    have hll := ht.hds.len
    have hn1 : 1 ≤ n := by have := hpos rfl; omega
    have hne0 : ((n : Int) == 0) = false := by simp; omega
    obtain ⟨k, hkn, hkv⟩ := rot_idx at' n hn1 h70
    have HKV := Lib.hid hkv
    obtain ⟨b, off, rfl, hb, hcells⟩ := ht.hds.mem (by omega)
    have HL1 := Lib.hid (show (hdV (ls.drop k)).length = (n - k) * 1 by simp [hdV]; omega)
    have HL2 := Lib.hid (show (hdV (ls.take k)).length = k * 1 by simp [hdV]; omega)
    have HW1 := Lib.hid (show ∀ V, Below w.heap.size w V → ∀ j u, (hdV (ls.drop k))[j]? = some u → V.cell? ((⟨b, off + k, none⟩ : Addr).add j) = some u from fun V hV j u hu => by
      unfold hdV at hu
      rw [List.getElem?_map, List.getElem?_drop, Option.map_eq_some_iff] at hu
      obtain ⟨x, hx, rfl⟩ := hu
      obtain ⟨hj, rfl⟩ := List.getElem?_eq_some_iff.1 hx
      rw [add0, hV.cell (p := ⟨b, off + k + j, none⟩) hb, show off + k + j = off + (k + j) by omega]
      exact hcells (k + j) hj)
    have HW2 := Lib.hid (show ∀ V, Below w.heap.size w V → ∀ j u, (hdV (ls.take k))[j]? = some u → V.cell? ((⟨b, off, none⟩ : Addr).add j) = some u from fun V hV j u hu => by
      unfold hdV at hu
      rw [List.getElem?_map, Option.map_eq_some_iff] at hu
      obtain ⟨x, hx, rfl⟩ := hu
      have hjk : j < k := by
        by_cases h : j < k
        · exact h
        · rw [List.getElem?_take, if_neg h] at hx; cases hx
      rw [List.getElem?_take, if_pos hjk] at hx
      obtain ⟨hj, rfl⟩ := List.getElem?_eq_some_iff.1 hx
      rw [add0, hV.cell (p := ⟨b, off + j, none⟩) hb]
      exact hcells j hj)
    have hul : (tt.drop k ++ tt.take k).length = tt.length := by rw [List.length_append, List.length_drop, List.length_take]; omega
    have hum : ∀ x, x ∈ tt.drop k ++ tt.take k ↔ x ∈ tt := fun x => by
      constructor
      · intro h
        rcases List.mem_append.1 h with h | h
        · exact List.mem_of_mem_drop h
        · exact List.mem_of_mem_take h
      · intro h
        rw [← List.take_append_drop k tt] at h
        rcases List.mem_append.1 h with h | h
        · exact List.mem_append_right _ h
        · exact List.mem_append_left _ h
    have HROW := Lib.hid (show ∀ (V : World) (g cap B : Nat), Below w.heap.size w V → V.ownsRow B 30 1 (.slice (some ⟨g, 0, none⟩) (0 + (n - k) + k) cap) (0 + (n - k) + k) ([] ++ hdV (ls.drop k) ++ hdV (ls.take k)) →
        TermsAt V V.heap.size (some ⟨g, 0, none⟩) (0 + (n - k) + k) (ls.drop k ++ ls.take k) (tt.drop k ++ tt.take k) ∧ 0 + (n - k) + k ≤ cap ∧ cap ≤ 9223372036854775807 from fun V g cap B hV hown => by
      have hh : hdV (ls.drop k ++ ls.take k) = [] ++ hdV (ls.drop k) ++ hdV (ls.take k) := by unfold hdV; rw [List.map_append, List.nil_append]
      rw [← hh] at hown
      refine row_terms (w := w) hown (by omega) (by omega) (by rw [hul]; omega) (by rw [List.length_append, List.length_drop, List.length_take]; omega) fun j a b => ?_
      have key : ∀ (i : Nat) (a' : i < ls.length) (b' : i < tt.length), IntsAt V V.heap.size ls[i].1 ls[i].2.1 tt[i] := fun i a' b' => (ht.each i a' b').up hV
      by_cases hj : j < n - k
      · have e1 : (ls.drop k ++ ls.take k)[j] = ls[k + j]'(by omega) := by rw [List.getElem_append_left (by rw [List.length_drop]; omega), List.getElem_drop]
        have e2 : (tt.drop k ++ tt.take k)[j] = tt[k + j]'(by omega) := by rw [List.getElem_append_left (by rw [List.length_drop]; omega), List.getElem_drop]
        rw [e1, e2]
        exact key _ _ _
      · have hjl : j < n := by rw [List.length_append, List.length_drop, List.length_take] at a; omega
        have e1 : (ls.drop k ++ ls.take k)[j] = ls[j - (n - k)]'(by omega) := by
          rw [List.getElem_append_right (by rw [List.length_drop]; omega), List.getElem_take]
          congr 1
          rw [List.length_drop]; omega
        have e2 : (tt.drop k ++ tt.take k)[j] = tt[j - (n - k)]'(by omega) := by
          rw [List.getElem_append_right (by rw [List.length_drop]; omega), List.getElem_take]
          congr 1
          rw [List.length_drop]; omega
        rw [e1, e2]
        exact key _ _ _)
    have hcap2 : ∀ x ∈ ls.drop k ++ ls.take k, capOk x := fun x hx => by
      rcases List.mem_append.1 hx with h | h
      · exact hcap x (List.mem_of_mem_drop h)
      · exact hcap x (List.mem_of_mem_take h)
    have C9 := Lib.hid (fun (V : World) (A : Option Addr) (n9 c9 : Nat) (h : Below w.heap.size w V) (hT : TermsAt V V.heap.size A n9 (ls.drop k ++ ls.take k) (tt.drop k ++ tt.take k)) (hk9 : n9 ≤ c9 ∧ c9 ≤ 9223372036854775807) => joinAll_any As A ns cs n9 c9 ss _ _ V (hs.up h) hT hk9 hcap2 (by have := hT.len; rw [hul] at this; omega))
    have hor := hord _ hul hum rfl
    obtain ⟨U, hU⟩ : ∃ U, allZ (joZ ss) ss (tt.drop k ++ tt.take k) = U := ⟨_, rfl⟩
    simp only [hU] at C9
    rw [hU] at hor
    obtain ⟨tu, eu⟩ := U
    simp only at C9 hor
    have CAL0 := Lib.hid (fun (V : World) (A1 A2 : Option Addr) (n1 n2 k1 k2 : Nat) (h : Below w.heap.size w V) (h1 : IntsAt V V.heap.size A1 n1 tj) (h2 : IntsAt V V.heap.size A2 n2 tu) => alike_any As A1 A2 ns cs n1 k1 n2 k2 ss tj tu V (hs.up h) h1 h2)
    obtain ⟨hk1, hk2⟩ := hk
    have hkc : k ≠ c := by omega
    have hkc' : c ≠ k := by omega
    have hck : k ≤ c := by omega
    have hc0 : c ≠ 0 := by omega
    have hkn' : k ≤ n := by omega
    have hckI : (k : Int) ≤ (c : Int) := by omega
    have hknI : (k : Int) ≤ (n : Int) := by omega
    have hk0I : (0 : Int) ≤ (k : Int) := by omega
    have hc0' : 0 ≠ c := by omega
    clear hs ht hcap hord hpos hM hJ hlt hll hb hcells hul hum hcap2 hU hkv
    rcases hor with h4 | ⟨h0, hal⟩
    · subst h4
      clear CAL0
      go_enter Try.func14, Try.ntmps14
      go_upto_region 14 with (first
        | (go_at_call 15; refine HS.out.mono ?_; rintro e w' ⟨rfl, rfl⟩; rw [HSM.out])
        | (go_at_call 54; refine C1.out.mono ?_; rintro e V1 ⟨A1, n1, c1, rfl, hI1, hk1, hB1⟩; have HI1 := Lib.hid hI1; have HB1 := Lib.hid hB1; clear hI1 hB1 hk1)
        | (go_at_call 55; refine (C2.out _ HB1.out).mono ?_; rintro e V2 ⟨A2, n2, c2, rfl, hI2, hB2⟩; have HI12 := Lib.hid (HI1.out.up hB2); have HI2 := Lib.hid hI2; have HB2 := Lib.hid (below_then HB1.out hB2); clear hI2 hB2)
        | (go_at_call 26; ((with_reducible refine (same_self _ _ _ _ _ _ tm _ _ HI12.out HI2.out).mono ?_); rintro e V3 ⟨rfl, h3⟩; have HB3 := Lib.hid (show Below w.heap.size w V3 from by obtain ⟨j3, rfl⟩ := h3; exact below_drewN HB2.out j3); clear h3))
        | (go_at_call 56; ((with_reducible refine (C3.out _ HB3.out).mono ?_); rintro e V4 ⟨A4, n4, c4, rfl, hI4, hk4, hB4⟩; have HI4 := Lib.hid hI4; have HB4 := Lib.hid (below_then HB3.out hB4); clear hI4 hB4 hk4))
        | (go_at_call 57; refine (C4.out _ HB4.out).mono ?_; rintro e V5 ⟨A5, n5, c5, rfl, hI5, hB5⟩; have HI45 := Lib.hid (HI4.out.up hB5); have HI5 := Lib.hid hI5; have HB5 := Lib.hid (below_then HB4.out hB5); clear hI5 hB5)
        | (go_at_call 26; ((with_reducible refine (same_self _ _ _ _ _ _ tj _ _ HI45.out HI5.out).mono ?_); rintro e V6 ⟨rfl, h6⟩; have HB6 := Lib.hid (show Below w.heap.size w V6 ∧ Below V5.heap.size V5 V6 from by obtain ⟨j6, rfl⟩ := h6; exact ⟨below_drewN HB5.out j6, below_drewN (Below.refl _ _) j6⟩); have HI46 := Lib.hid (HI45.out.up HB6.out.2); have HB6 := Lib.hid HB6.out.1; clear h6)))
      rw [HKV.out]
      have HB7 := Lib.hid (show Below V6.heap.size V6 (V6.alloc (.cells #[] 30)).drew from below_drewN (bel_al (Below.refl V6.heap.size V6) _) 1)
      have HB7w := Lib.hid (below_then HB6.out HB7.out)
      have HO := Lib.hid (show (V6.alloc (.cells #[] 30)).drew.ownsRow V6.heap.size 30 1 (.slice (some ⟨V6.heap.size, 0, none⟩) 0 0) 0 [] from
        ⟨rfl, .inr ⟨V6.heap.size, 0, #[], rfl, Nat.le_refl _, heap_alloc_new V6 _, Nat.le_refl _, by unfold maxLen; omega, rfl, rfl⟩⟩)
      go_region_held3 (fun _ => True) (first | trivial | assumption)
        (first
        | (refine step_append_any (by rfl) _ _ 60 (by rfl) V6.heap.size 30 i1 _ 1 24 Try.underlying60 hi1 hy0 hy1 hy2 (by rfl) (by omega) (.slice (some ⟨V6.heap.size, 0, none⟩) 0 0) 0 [] (by rfl) HO.out ⟨b, off + k, none⟩ (n - k) (c - k) (hdV (ls.drop k)) (by rfl) HL1.out (HW1.out _ HB7w.out) (hdV_one _) (by omega) (by unfold maxLen; omega) (by omega) HB7.out.size ?_
           intro g8 cap8 V8 hown8 hg8 hge8
           have hB8 : Below V6.heap.size V6 V8 := HB7.out.grown hg8 HB7.out.size (fun k e => by cases e; exact Nat.le_refl _)
           have HOWN8 := Lib.hid hown8
           have HG8 := Lib.hid hge8
           have HB68 := Lib.hid hB8
           have HB8 := Lib.hid (below_then HB6.out hB8)
           clear hown8 hg8 hB8 hge8)
        | (refine step_append_any (by rfl) _ _ 60 (by rfl) V6.heap.size 30 i1 _ 1 24 Try.underlying60 hi1 hy0 hy1 hy2 (by rfl) (by omega) (.slice (some ⟨g8, 0, none⟩) (0 + (n - k)) cap8) (0 + (n - k)) ([] ++ hdV (ls.drop k)) (by rfl) HOWN8.out ⟨b, off, none⟩ k c (hdV (ls.take k)) (by rfl) HL2.out (HW2.out _ HB8.out) (hdV_one _) (by omega) (by unfold maxLen; omega) (by omega) HB68.out.size ?_
           intro g9 cap9 V9 hown9 hg9 hge9
           have hB9 : Below V6.heap.size V6 V9 := HB68.out.grown hg9 HB68.out.size (fun k e => by cases e; exact HG8.out)
           obtain ⟨hT9, hc9⟩ := HROW.out V9 g9 cap9 V6.heap.size (below_then HB6.out hB9) hown9
           rw [show 0 + (n - k) + k = n from by omega] at hT9 hc9
           have HT9 := Lib.hid hT9
           have HC9 := Lib.hid hc9
           have HI48 := Lib.hid (HI46.out.up hB9)
           have HB8' := Lib.hid (below_then HB6.out hB9)
           clear hown9 hg9 hB9 hge9 hT9 hc9)
        | (go_at_call 56; ((with_reducible refine (C9.out _ _ _ _ HB8'.out HT9.out HC9.out).mono ?_); rintro e VB ⟨A9, n9, c9, rfl, hI9, hk9, hBB⟩; have HI9 := Lib.hid hI9; have HI49 := Lib.hid (HI48.out.up hBB); have HB9 := Lib.hid (below_then HB8'.out hBB); clear hI9 hk9 hBB)))
      all_goals
        go_wp2_with (first
          | fail
          | (go_at_call 17; refine (awake2_any _).mono ?_; rintro e VX ⟨rfl, hBX⟩; have HBX := Lib.hid (below_then HB9.out hBX); clear hBX))
        go_ret
        exact ⟨rfl, HBX.out⟩
    · subst h0
      have CAL := CAL0
      simp only [hal] at CAL
      clear hal CAL0
      go_enter Try.func14, Try.ntmps14
      go_upto_region 14 with (first
        | (go_at_call 15; refine HS.out.mono ?_; rintro e w' ⟨rfl, rfl⟩; rw [HSM.out])
        | (go_at_call 54; refine C1.out.mono ?_; rintro e V1 ⟨A1, n1, c1, rfl, hI1, hk1, hB1⟩; have HI1 := Lib.hid hI1; have HB1 := Lib.hid hB1; clear hI1 hB1 hk1)
        | (go_at_call 55; refine (C2.out _ HB1.out).mono ?_; rintro e V2 ⟨A2, n2, c2, rfl, hI2, hB2⟩; have HI12 := Lib.hid (HI1.out.up hB2); have HI2 := Lib.hid hI2; have HB2 := Lib.hid (below_then HB1.out hB2); clear hI2 hB2)
        | (go_at_call 26; ((with_reducible refine (same_self _ _ _ _ _ _ tm _ _ HI12.out HI2.out).mono ?_); rintro e V3 ⟨rfl, h3⟩; have HB3 := Lib.hid (show Below w.heap.size w V3 from by obtain ⟨j3, rfl⟩ := h3; exact below_drewN HB2.out j3); clear h3))
        | (go_at_call 56; ((with_reducible refine (C3.out _ HB3.out).mono ?_); rintro e V4 ⟨A4, n4, c4, rfl, hI4, hk4, hB4⟩; have HI4 := Lib.hid hI4; have HB4 := Lib.hid (below_then HB3.out hB4); clear hI4 hB4 hk4))
        | (go_at_call 57; refine (C4.out _ HB4.out).mono ?_; rintro e V5 ⟨A5, n5, c5, rfl, hI5, hB5⟩; have HI45 := Lib.hid (HI4.out.up hB5); have HI5 := Lib.hid hI5; have HB5 := Lib.hid (below_then HB4.out hB5); clear hI5 hB5)
        | (go_at_call 26; ((with_reducible refine (same_self _ _ _ _ _ _ tj _ _ HI45.out HI5.out).mono ?_); rintro e V6 ⟨rfl, h6⟩; have HB6 := Lib.hid (show Below w.heap.size w V6 ∧ Below V5.heap.size V5 V6 from by obtain ⟨j6, rfl⟩ := h6; exact ⟨below_drewN HB5.out j6, below_drewN (Below.refl _ _) j6⟩); have HI46 := Lib.hid (HI45.out.up HB6.out.2); have HB6 := Lib.hid HB6.out.1; clear h6)))
      rw [HKV.out]
      have HB7 := Lib.hid (show Below V6.heap.size V6 (V6.alloc (.cells #[] 30)).drew from below_drewN (bel_al (Below.refl V6.heap.size V6) _) 1)
      have HB7w := Lib.hid (below_then HB6.out HB7.out)
      have HO := Lib.hid (show (V6.alloc (.cells #[] 30)).drew.ownsRow V6.heap.size 30 1 (.slice (some ⟨V6.heap.size, 0, none⟩) 0 0) 0 [] from
        ⟨rfl, .inr ⟨V6.heap.size, 0, #[], rfl, Nat.le_refl _, heap_alloc_new V6 _, Nat.le_refl _, by unfold maxLen; omega, rfl, rfl⟩⟩)
      go_region_held3 (fun _ => True) (first | trivial | assumption)
        (first
        | (refine step_append_any (by rfl) _ _ 60 (by rfl) V6.heap.size 30 i1 _ 1 24 Try.underlying60 hi1 hy0 hy1 hy2 (by rfl) (by omega) (.slice (some ⟨V6.heap.size, 0, none⟩) 0 0) 0 [] (by rfl) HO.out ⟨b, off + k, none⟩ (n - k) (c - k) (hdV (ls.drop k)) (by rfl) HL1.out (HW1.out _ HB7w.out) (hdV_one _) (by omega) (by unfold maxLen; omega) (by omega) HB7.out.size ?_
           intro g8 cap8 V8 hown8 hg8 hge8
           have hB8 : Below V6.heap.size V6 V8 := HB7.out.grown hg8 HB7.out.size (fun k e => by cases e; exact Nat.le_refl _)
           have HOWN8 := Lib.hid hown8
           have HG8 := Lib.hid hge8
           have HB68 := Lib.hid hB8
           have HB8 := Lib.hid (below_then HB6.out hB8)
           clear hown8 hg8 hB8 hge8)
        | (refine step_append_any (by rfl) _ _ 60 (by rfl) V6.heap.size 30 i1 _ 1 24 Try.underlying60 hi1 hy0 hy1 hy2 (by rfl) (by omega) (.slice (some ⟨g8, 0, none⟩) (0 + (n - k)) cap8) (0 + (n - k)) ([] ++ hdV (ls.drop k)) (by rfl) HOWN8.out ⟨b, off, none⟩ k c (hdV (ls.take k)) (by rfl) HL2.out (HW2.out _ HB8.out) (hdV_one _) (by omega) (by unfold maxLen; omega) (by omega) HB68.out.size ?_
           intro g9 cap9 V9 hown9 hg9 hge9
           have hB9 : Below V6.heap.size V6 V9 := HB68.out.grown hg9 HB68.out.size (fun k e => by cases e; exact HG8.out)
           obtain ⟨hT9, hc9⟩ := HROW.out V9 g9 cap9 V6.heap.size (below_then HB6.out hB9) hown9
           rw [show 0 + (n - k) + k = n from by omega] at hT9 hc9
           have HT9 := Lib.hid hT9
           have HC9 := Lib.hid hc9
           have HI48 := Lib.hid (HI46.out.up hB9)
           have HB8' := Lib.hid (below_then HB6.out hB9)
           clear hown9 hg9 hB9 hge9 hT9 hc9)
        | (go_at_call 56; ((with_reducible refine (C9.out _ _ _ _ HB8'.out HT9.out HC9.out).mono ?_); rintro e VB ⟨A9, n9, c9, rfl, hI9, hk9, hBB⟩; have HI9 := Lib.hid hI9; have HI49 := Lib.hid (HI48.out.up hBB); have HB9 := Lib.hid (below_then HB8'.out hBB); clear hI9 hk9 hBB)))
      all_goals
        go_wp2_with (first
          | (go_at_call 37; ((with_reducible refine (CAL.out _ _ _ _ _ _ _ HB9.out HI49.out HI9.out).mono ?_); rintro e VA ⟨rfl, hBA⟩; have HB9' := Lib.hid (below_then HB9.out hBA); clear hBA))
          | (go_at_call 17; refine (awake2_any _).mono ?_; rintro e VX ⟨rfl, hBX⟩; have HBX := Lib.hid (below_then HB9'.out hBX); clear hBX))
        go_ret
        exact ⟨rfl, HBX.out⟩
  · have hne : (ej != 0) = true := by simpa using hej
    clear hs ht hk hcap hsm h70 hord hpos hM hJ hej
    go_enter Try.func14, Try.ntmps14
    go_wp2_with (first
      | (go_at_call 15; refine HS.out.mono ?_; rintro e w' ⟨rfl, rfl⟩; rw [HSM.out])
      | (go_at_call 54; refine C1.out.mono ?_; rintro e V1 ⟨A1, n1, c1, rfl, hI1, hk1, hB1⟩; have HI1 := Lib.hid hI1; have HB1 := Lib.hid hB1; clear hI1 hB1 hk1)
      | (go_at_call 55; refine (C2.out _ HB1.out).mono ?_; rintro e V2 ⟨A2, n2, c2, rfl, hI2, hB2⟩; have HI12 := Lib.hid (HI1.out.up hB2); have HI2 := Lib.hid hI2; have HB2 := Lib.hid (below_then HB1.out hB2); clear hI2 hB2)
      | (go_at_call 26; ((with_reducible refine (same_self _ _ _ _ _ _ tm _ _ HI12.out HI2.out).mono ?_); rintro e V3 ⟨rfl, h3⟩; have HB3 := Lib.hid (show Below w.heap.size w V3 from by obtain ⟨j3, rfl⟩ := h3; exact below_drewN HB2.out j3); clear h3))
      | (go_at_call 56; ((with_reducible refine (C3.out _ HB3.out).mono ?_); rintro e V4 ⟨A4, n4, c4, rfl, hI4, hk4, hB4⟩; have HI4 := Lib.hid hI4; have HB4 := Lib.hid (below_then HB3.out hB4); clear hI4 hB4 hk4))
      | (go_at_call 57; refine (C4.out _ HB4.out).mono ?_; rintro e V5 ⟨A5, n5, c5, rfl, hI5, hB5⟩; have HI45 := Lib.hid (HI4.out.up hB5); have HI5 := Lib.hid hI5; have HB5 := Lib.hid (below_then HB4.out hB5); clear hI5 hB5)
      | (go_at_call 26; ((with_reducible refine (same_self _ _ _ _ _ _ tj _ _ HI45.out HI5.out).mono ?_); rintro e V6 ⟨rfl, h6⟩; have HB6 := Lib.hid (show Below w.heap.size w V6 ∧ Below V5.heap.size V5 V6 from by obtain ⟨j6, rfl⟩ := h6; exact ⟨below_drewN HB5.out j6, below_drewN (Below.refl _ _) j6⟩); have HI46 := Lib.hid (HI45.out.up HB6.out.2); have HB6 := Lib.hid HB6.out.1; clear h6))
      | (go_at_call 17; refine (awake2_any _).mono ?_; rintro e VX ⟨rfl, hBX⟩; have HBX := Lib.hid (below_then HB6.out hBX); clear hBX))
    go_ret
    exact ⟨rfl, HBX.out⟩

theorem uli_walk (As At : Option Addr) (ns cs n c : Nat) (at' : Int) (ss : Sg) (ls : List Hd) (tt : List (List Int)) (w : World) (hs : SigAt w w.heap.size As ns ss) (ht : TermsAt w w.heap.size At n ls tt) (hk : n ≤ c ∧ c ≤ 9223372036854775807) (hcap : ∀ x ∈ ls, capOk x) :
    Calls Try.prog 14 #[.slice As ns cs, .slice At n c, .int .i64 at'] w fun e w' => e = .returned (.bool true) ∧ Below w.heap.size w w' := by
  cases hsm : smallOk ns ls
  · exact uli_small As At ns cs n c at' ss ls tt w hs ht hk hcap (.inl hsm)
  · by_cases h70 : 70 < n
    · exact uli_small As At ns cs n c at' ss ls tt w hs ht hk hcap (.inr h70)
    · exact uli_ok As At ns cs n c at' ss ls tt w hs ht hk hcap hsm (by omega)

end Go.Proofs.Ytohhgghjpokdiaa

/- Arguments opened: slices of terms, with their capacities. -/
namespace Go.Proofs.Ytohhgghjpokdiaa
open Go.ChangeShapes Go.WideShapes Go.ChangeAt Go.RowKit Go.Deep

/-- What is read as a slice of terms is one; each term lies within its capacity. -/
theorem read_termsk {H : Type} {enc : TypeId × Value → H} {w : World} {base : Nat} {spare : Nat → Bool} {held : Bool} {fuel : Nat} {v : Value} {x : DataW H × List MemPlace} (h : DataW.trod enc Try.prog w base spare held fuel 60 [v] = some x) :
    ∃ A n c ls tt, v = .slice A n c ∧ TermsAt w w.heap.size A n ls tt ∧ (n ≤ c ∧ c ≤ 9223372036854775807) ∧ ∀ x ∈ ls, capOk x := by
  rcases open_slice1 Try.underlying60 cells_term h with ⟨hcs, _⟩ | ⟨a, len, cap, m, n, V, D, Pl, hcs, _, hl, hm, hmm, _, hi⟩
  · simp only [List.cons.injEq, and_true] at hcs
    exact ⟨none, 0, 0, [], [], hcs, ⟨⟨rfl, by omega, fun h => absurd h (by omega)⟩, rfl, fun j hj => by simp at hj⟩, by omega, fun x hx => by simp at hx⟩
  · simp only [List.cons.injEq, and_true] at hcs
    unfold maxLen at hm
    have hlm : len ≤ m := by rw [hmm]; split <;> omega
    by_cases h0 : len = 0
    · subst h0
      exact ⟨some a, 0, cap, [], [], hcs, ⟨⟨rfl, by omega, fun h => absurd h (by omega)⟩, rfl, fun j hj => by simp at hj⟩, by omega, fun x hx => by simp at hx⟩
    · have each : ∀ i, i < len → ∃ p : Hd × List Int, w.cell? (a.add i) = some (.slice p.1.1 p.1.2.1 p.1.2.2) ∧ IntsAt w w.heap.size p.1.1 p.1.2.1 p.2 ∧ capOk p.1 := by
        intro i hil
        obtain ⟨hc, ht⟩ := hi i (by omega)
        obtain ⟨A', n', c', zs, e, hI, hk1, hk2, _⟩ := read_ints Try.underlying30 ht
        exact ⟨((A', n', c'), zs), by rw [hc, e], hI, hk1, hk2⟩
      obtain ⟨b, off, spot⟩ := a
      obtain ⟨p0, q0, _⟩ := each 0 (by omega)
      have hspot : spot = none := by simpa [Addr.add] using World.cell?_spot q0
      subst hspot
      have hblt : b < w.heap.size := by
        have := World.block_lt_of_cell? w _ q0
        simpa [Addr.add] using this
      obtain ⟨l, hll, hlp⟩ := list_of _ len each
      refine ⟨some ⟨b, off, none⟩, len, cap, l.map (·.1), l.map (·.2), hcs, ⟨⟨by simp [hll], by omega, fun _ => ⟨b, off, rfl, hblt, fun j hj => ?_⟩⟩, by simp [hll], fun j hj hj' => ?_⟩, by omega, fun x hx => ?_⟩
      · have hj2 : j < l.length := by simpa using hj
        have := (hlp j hj2).1
        rw [add0] at this
        simpa using this
      · have hj2 : j < l.length := by simpa using hj
        have := (hlp j hj2).2.1
        simpa using this
      · obtain ⟨p, hp, rfl⟩ := List.mem_map.1 hx
        obtain ⟨j, hj, rfl⟩ := List.mem_iff_getElem.1 hp
        exact (hlp j hj).2.2

end Go.Proofs.Ytohhgghjpokdiaa

namespace Go.Proofs.Ytohhgghjpokdiaa
open Go.ChangeShapes Go.WideShapes Go.ChangeAt Go.RowKit Go.Deep

set_option maxRecDepth 100000 in
theorem ulists_lifted (os : Os) (started : os.Started) (H : Type) (enc : TypeId × Value → H) :
    ReturnsInHanded {} Try.checked os 14 .any (Rows.unifyListsSpec.pre6 enc Try.prog Try.f14 Rows.unifyListsRow.domain false) (Rows.unifyListsSpec.post enc Try.prog Try.f14 false true false false) := by
  refine returnsInHanded_of_change (C := Try.checked) own started (by kernel_rfl) Try.func14
    (ChangeSpec.witness6 (enc := enc) (C := Try.checked) false ⟨#[], #[.slice none 0 0, .slice none 0 0, .int .i64 0], []⟩ 8 (by kernel_rfl) (by kernel_rfl) (by kernel_rfl) (by kernel_rfl)) ?_
  intro W base args ds gs before hval0 hW hcnd _
  have hval : ∀ (j : Nat) t v, Try.f14.params[j]? = some t → args[j]? = some v → Value.okWide Try.prog W .any base t v := hval0
  have hW' := hW
  obtain ⟨p, q, hA0, hV, rfl, hfz, hnd⟩ := hW
  have hA : DataW.TrodAll enc Try.prog W 0 (fun _ => true) true Try.f14.params.toList args.toList ds p := hA0
  rw [Try.params14] at hA hval
  obtain ⟨v0, vs0, d0, ds0, p0, q0, hargs, rfl, rfl, h0, r0⟩ := trodAll_cons hA
  obtain ⟨v1, vs1, d1, ds1, p1, q1, rfl, rfl, rfl, h1, r1⟩ := trodAll_cons r0
  obtain ⟨v2, vs2, d2, ds2, p2, q2, rfl, rfl, rfl, h2, r2⟩ := trodAll_cons r1
  obtain ⟨rfl, rfl, rfl⟩ := trodAll_nil r2
  obtain rfl : args = #[v0, v1, v2] := by cases args; simp_all
  obtain ⟨rfl, rfl⟩ := trodVars_none hV
  obtain ⟨a0, len0, cap0, rfl⟩ := okWide_slice Try.underlying23 (hval 0 23 v0 rfl rfl)
  obtain ⟨a1, len1, cap1, rfl⟩ := okWide_slice Try.underlying60 (hval 1 60 v1 rfl rfl)
  obtain ⟨at2, rfl⟩ := okWide_int Try.underlying3 (hval 2 3 v2 rfl rfl)
  have k0 := h0
  have k1 := h1
  have k2 := h2
  have lt0 : ∀ x ∈ p0, x.block < W.heap.size := by obtain ⟨m, hm⟩ := k0; exact DataW.trod_lt m _ _ _ hm
  have lt1 : ∀ x ∈ p1, x.block < W.heap.size := by obtain ⟨m, hm⟩ := k1; exact DataW.trod_lt m _ _ _ hm
  have lt2 : ∀ x ∈ p2, x.block < W.heap.size := by obtain ⟨m, hm⟩ := k2; exact DataW.trod_lt m _ _ _ hm
  obtain ⟨f0, e0⟩ := h0
  obtain ⟨f1, e1⟩ := h1
  obtain ⟨As, ns, cs, ss, es, hs⟩ := read_sign e0
  obtain ⟨At, nt, ct, ls, tt, et, ht, hkt, hcap⟩ := read_termsk e1
  cases es
  cases et
  clear hA0 hval0
  refine (uli_walk _ _ _ _ _ _ at2 ss ls tt W hs ht hkt hcap).mono fun e W' ⟨he, bel⟩ => ?_
  subst he
  exact ⟨_, rfl, _, _, _, [], _, [], hW', trodAll_mk1 (shut_bool Try.underlying4 _), (trodAll_cons_mk (Below.trod laidOut (by kernel_rfl) (of_decide_eq_true (by kernel_rfl)) k0 bel lt0) (trodAll_cons_mk (Below.trod laidOut (by kernel_rfl) (of_decide_eq_true (by kernel_rfl)) k1 bel lt1) (trodAll_cons_mk (Below.trod laidOut (by kernel_rfl) (of_decide_eq_true (by kernel_rfl)) k2 bel lt2) trodAll_mk0))), rfl, bel.frame _, fun h => by cases h⟩

theorem ulists_holds : Rows.UnifyListsSaid :=
  OpenClaim.holds_of_wide 14 Try.f14 rfl rfl rfl rfl rfl rfl rfl ⟨rfl, rfl, rfl, rfl, rfl⟩ rfl rfl rfl rfl rfl (by kernel_rfl) Try.func14 (by kernel_rfl)
    (of_decide_eq_true (by kernel_rfl)) (by unfold Func.isWrapper; first | (rw [if_pos (by decide +kernel)]; kernel_rfl) | (rw [if_neg (by decide +kernel)]; exact ⟨rfl, rfl⟩))
    (fun os started H enc _ => ulists_lifted os started H enc)

end Go.Proofs.Ytohhgghjpokdiaa
