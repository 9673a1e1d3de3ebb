/- Contracts: slices.Sort and slices.Compact at []int; Collect, Sorted. -/
import Derived.Test.YtgbfccbnbgbknaaFCg
import Derived.Test.YtgbfccbnbgbknaaBCg
import Derived.Lib.SliceRun
import Derived.Test.YtgbfccbnbgbknaaN17g
import Derived.Shelf.SortG.Plain
import Derived.Shelf.SortG.SortNone
import Derived.Shelf.SlicesG.CompactI
import Derived.Sort.OwnSortedInts
/- Contracts: what is over a statement; slices.IndexFunc, ContainsFunc and DeleteFunc at []int by any function. -/
namespace Go.Proofs.Ytgbfccbnbgbknaa
open Go.RowKit

/-- What is asked of numbers answers p, and leaves the memory as it was. -/
def AsksI (g : Nat) (lb : Array Value) (xs : List Int) (p : Int → Bool) (B : Nat) (w : World) : Prop :=
  ∀ (W : World) (z : Int), Below B w W → B ≤ W.heap.size → z ∈ xs → Calls Try.prog g (#[.int .i64 z] ++ lb) W fun e w' => e = .returned (.bool (p z)) ∧ Below W.heap.size W w'

/-- The first place where p is so, or -1. -/
def FstP (p : Int → Bool) (xs : List Int) (r : Int) : Prop := (r = -1 ∧ xs.any p = false) ∨ ∃ k : Nat, r = (k : Int) ∧ k < xs.length ∧ p (xs.getD k 0) = true ∧ (xs.take k).any p = false
/-- Nowhere before k. -/
def NoP (p : Int → Bool) (xs : List Int) (k : Nat) : Prop := (xs.take k).any p = false

set_option maxRecDepth 100000 in
set_option maxHeartbeats 1000000 in
theorem indexFuncI_any (g : Nat) (lb : Array Value) (eg : ∀ args w, (callFunc g args).run Try.prog w = .ok (.enter g args) w) (A : Option Addr) (n c B : Nat) (xs : List Int) (p : Int → Bool) (w w0 : World)
    (hx : IntsAt w w.heap.size A n xs) (hB0 : Below B w0 w) (hB : B ≤ w.heap.size) (hp : AsksI g lb xs p B w0) :
    Calls Try.prog 204 #[.slice A n c, .func (.func g) #[] lb] w fun e w' => (∃ r : Int, e = .returned (.int .i64 r) ∧ FstP p xs r) ∧ Below w.heap.size w w' := by
  have HX := Lib.hid hx
  have HLX := Lib.hid hx.len
  have hmx := hx.max
  have hpk : ∀ (W : World) (k : Nat) (hk : k < xs.length), Below w.heap.size w W → Calls Try.prog g (#[.int .i64 xs[k]] ++ lb) W fun e w' => e = .returned (.bool (p xs[k])) ∧ Below W.heap.size W w' := by
    intro W k hk hW
    have h1 : Below B w0 W := hB0.trans (hW.mono hB)
    have h2 := Nat.le_trans hB hW.size
    exact hp W xs[k] h1 h2 (List.getElem_mem hk)
  have HP := Lib.hid hpk
  clear hx hB0 hB hp hpk
  go_enter Try.func204, Try.ntmps204
  go_wp2
  go_loopw [8] (fun i wr => ∃ k : Nat, k ≤ n ∧ i = .int .i64 k ∧ NoP p xs k ∧ Below w.heap.size w wr) (fun i _ => n - (intOf i).toNat)
  case atStart => exact ⟨0, Nat.zero_le _, rfl, rfl, Below.refl _ _⟩
  case round =>
    obtain ⟨k, hk, rfl, hA, hB⟩ := hrel
    by_cases hlt : k < n
    · obtain ⟨b, off, z, rfl, c1, k1, e1⟩ := HX.out.cellAt hlt
      have hb : b < w.heap.size := by
        obtain ⟨b', off', e', hb', _⟩ := HX.out.mem (by omega)
        cases e'
        exact hb'
      have c2 := (hB.cell (p := ⟨b, off + k, none⟩) hb).trans c1
      have hk0 : (0 : Int) ≤ (k : Int) := by omega
      have hk1 : (k : Int) < (n : Int) := by omega
      have C := Lib.hid (HP.out wr k k1 hB)
      have hget : xs.getD k 0 = z := by rw [List.getD_eq_getElem?_getD, List.getElem?_eq_getElem k1]; exact e1
      have HSUC := Lib.hid (show (xs.take (k + 1)).any p = ((xs.take k).any p || p z) by rw [List.take_succ_eq_append_getElem k1, List.any_append, e1]; simp)
      rw [e1] at C
      have HK1 := Lib.hid k1
      have HG := Lib.hid hget
      have HA := Lib.hid (show (xs.take k).any p = false from hA)
      have HB := Lib.hid hB
      clear hA hB c1 k1 e1 hget
      cases hq : p z
      · rw [hq] at C HSUC
        clear hq
        go_wp2_with (go_at_fn g; refine C.out.mono ?_; rintro e w1 ⟨rfl, hB1⟩; have HB1 := Lib.hid (below_then HB.out hB1); clear hB1)
        go_roundw
        case rel => exact ⟨k + 1, by omega, by go_num, by unfold NoP; rw [HSUC.out, HA.out]; rfl, HB1.out⟩
        case measure => simp [intOf]; omega
      · have HQ := Lib.hid hq
        rw [hq] at C
        clear hq
        go_wp2_with (go_at_fn g; refine C.out.mono ?_; rintro e w1 ⟨rfl, hB1⟩; have HB1 := Lib.hid (below_then HB.out hB1); clear hB1)
        go_ret
        exact ⟨⟨_, rfl, .inr ⟨k, rfl, HK1.out, by rw [HG.out]; exact HQ.out, HA.out⟩⟩, HB1.out⟩
    · obtain rfl : k = n := by omega
      have HA := Lib.hid (show xs.any p = false by unfold NoP at hA; rw [← List.take_of_length_le (l := xs) (i := k) (by rw [HLX.out]; exact Nat.le_refl _)]; exact hA)
      have HB := Lib.hid hB
      clear hA hB
      go_wp2
      go_ret
      exact ⟨⟨-1, rfl, .inl ⟨rfl, HA.out⟩⟩, HB.out⟩

set_option maxHeartbeats 400000 in
theorem containsFuncI_any (g : Nat) (lb : Array Value) (eg : ∀ args w, (callFunc g args).run Try.prog w = .ok (.enter g args) w) (A : Option Addr) (n c B : Nat) (xs : List Int) (p : Int → Bool) (w w0 : World)
    (hx : IntsAt w w.heap.size A n xs) (hB0 : Below B w0 w) (hB : B ≤ w.heap.size) (hp : AsksI g lb xs p B w0) :
    Calls Try.prog 165 #[.slice A n c, .func (.func g) #[] lb] w fun e w' => e = .returned (.bool (xs.any p)) ∧ Below w.heap.size w w' := by
  have C := Lib.hid (indexFuncI_any g lb eg A n c B xs p w w0 hx hB0 hB hp)
  have H : Hid (∀ r : Int, FstP p xs r → decide ((0 : Int) ≤ r) = xs.any p) := Lib.hid (by
    rintro r (⟨rfl, h⟩ | ⟨k, rfl, hk, h, _⟩)
    · rw [h]; rfl
    · rw [decide_eq_true (by omega)]
      symm
      rw [List.any_eq_true]
      refine ⟨_, ?_, h⟩
      rw [List.getD_eq_getElem?_getD, List.getElem?_eq_getElem hk]
      exact List.getElem_mem hk)
  obtain ⟨qb, hqb⟩ : ∃ qb, xs.any p = qb := ⟨_, rfl⟩
  rw [hqb] at H ⊢
  clear hx hB0 hB hp hqb
  go_enter Try.func165, Try.ntmps165
  go_wp2_with (go_at_call 204; refine C.out.mono ?_; rintro e w' ⟨⟨r, rfl, hr⟩, hB1⟩; have HR := Lib.hid (H.out r hr); have HB1 := Lib.hid hB1; clear hr hB1)
  go_ret
  exact ⟨ret_b HR.out, HB1.out⟩

end Go.Proofs.Ytgbfccbnbgbknaa

/- Contracts: slices.Values, AppendSeq and Collect at []int. -/
namespace Go.Proofs.Ytgbfccbnbgbknaa
open Go.RowKit
attribute [local go_sem] Oper.semAt_some

set_option maxHeartbeats 400000 in
theorem values_any (A : Option Addr) (n c : Nat) (w : World) :
    Calls Try.prog 143 #[.slice A n c] w fun e w' => e = .returned (.func (.func 194) #[] #[.pointer (some ⟨w.heap.size, 0, none⟩)]) ∧ w' = w.alloc (.cells #[.slice A n c] 24) := by
  go_enter Try.func143, Try.ntmps143
  go_wp2
  go_ret
  exact ⟨rfl, rfl⟩

def encV (_ : Nat) (x : Int) : Array Value := #[.int .i64 x]

set_option maxRecDepth 100000 in
set_option maxHeartbeats 2000000 in
theorem valC_in (l n Bl na ca : Nat) (Aa : Option Addr) (xs : List Int) (J : Nat → World → Prop) (JL : World → Prop)
    (hJF : ∀ k A, J k A → A.cell? ⟨Bl, 0, none⟩ = some (.slice Aa na ca) ∧ IntsAt A A.heap.size Aa na xs)
    (hY : ∀ m k x A, J k A → xs[k]? = some x → k < xs.length → YieldAt Fence.wide m Try.prog l (encV k x) A fun e B => (e = .returned (.bool true) ∧ J (k + 1) B) ∨ (e = .returned (.bool false) ∧ JL B))
    (W : World) (hJ0 : J 0 W) :
    CallsIn Fence.wide n Try.prog 194 #[.func (.yield l) #[] #[], .pointer (some ⟨Bl, 0, none⟩)] W fun e W' => (∃ v, e = .returned v) ∧ (J xs.length W' ∨ JL W') := by
  have HJF := Lib.hid hJF
  have HY := Lib.hid hY
  have HJ0 := Lib.hid hJ0
  obtain ⟨cb0, hx0⟩ := hJF 0 W hJ0
  have HLX := Lib.hid hx0.len
  have hmx := hx0.max
  clear hJF hY hJ0 hx0
  refine callsIn_of_wp Try.func194 rfl trivial ?_ rfl
  simp only [Try.ntmps194, List.size_toArray, List.length_cons, List.length_nil, Nat.reduceAdd, Nat.reduceSub, Array.replicate_succ, Array.replicate_zero, List.push_toArray, List.append_toArray, List.nil_append, List.cons_append]
  gi_wp2
  clear cb0
  gi_loopw [7] (fun i wr => ∃ k : Nat, k ≤ na ∧ i = .int .i64 k ∧ J k wr) (fun i _ => na - (intOf i).toNat)
  case atStart => exact ⟨0, by omega, rfl, HJ0.out⟩
  case round =>
    obtain ⟨k, hk, rfl, hJr⟩ := hrel
    obtain ⟨_, hbb⟩ := HJF.out k wr hJr
    by_cases hlt : k < na
    · obtain ⟨b, off, z, rfl, c1, k1, e1⟩ := hbb.cellAt hlt
      have hk0 : (0 : Int) ≤ (k : Int) := by omega
      have hk1 : (k : Int) < (na : Int) := by omega
      obtain ⟨fn, tmps, assign, body, hy, hR⟩ := HY.out (n - 1) k z wr hJr (by rw [List.getElem?_eq_getElem k1, e1]) k1
      have hy' : (Instr.yield l #[.int .i64 z]).run Try.prog wr = .ok (.round l fn tmps assign body) wr := hy
      have HRR := Lib.hid (hR.mono (R' := fun e B => ∃ q : Bool, e = .returned (.bool q) ∧ (q = true → J (k + 1) B) ∧ (q = false → JL B)) (fun e B h => h.elim (fun h => ⟨true, h.1, fun _ => h.2, fun e => by cases e⟩) (fun h => ⟨false, h.1, fun e => (by cases e), fun _ => h.2⟩)))
      clear hJr hbb e1 hy hR
      gi_wp2_with ((try refine ⟨fun h => (by cases h), ?_⟩); refine HRR.out.mono ?_; rintro e W2 ⟨q, rfl, hq1, hq2⟩)
      · have hqf : q = false := by simpa using ‹(!q) = true›
        refine bodyPost_ret (results_none rfl _ _ _) rfl ?_
        exact ⟨⟨_, rfl⟩, .inr (hq2 hqf)⟩
      · have hqt : q = true := by simpa using ‹(!q) = false›
        refine ⟨⟨k + 1, by omega, by go_num, hq1 hqt⟩, by simp [intOf]; omega⟩
    · obtain rfl : k = na := by omega
      have HJR := Lib.hid (show J xs.length wr by rw [← HLX.out]; exact hJr)
      clear hbb hJr
      gi_wp2
      go_end0
      exact ⟨⟨_, rfl⟩, .inl HJR.out⟩

theorem own_kept {w w' : World} {base size n : Nat} {t : TypeId} {v : Value} {xs : List Value} {row : Option Nat} (h : w.ownsRow base t size v n xs) (hg : w.grownBy w' row) (hr : ∀ r, row = some r → ∃ o : Obj, w.heap[r]? = some o ∧ o.isCells = false) : w'.ownsRow base t size v n xs := by
  refine h.kept hg ?_
  cases e : v.ownBlock with
  | none => exact .inl rfl
  | some g =>
    refine .inr fun e2 => ?_
    obtain ⟨cs, hcs⟩ := row_cells2 h e
    obtain ⟨o, ho, hc⟩ := hr g e2.symm
    rw [hcs] at ho
    cases ho
    cases hc
theorem ownsRow_movedW {w w' : World} {base : Nat} {e : TypeId} {size : Nat} {v : Value} {n : Nat} {xs : List Value} (h : w.ownsRow base e size v n xs) (hk : ∀ g, v.ownBlock = some g → w'.heap[g]? = w.heap[g]?) : w'.ownsRow base e size v n xs := by
  obtain ⟨h1, h2 | ⟨g, cap, cur, rfl, h3, h4, h5⟩⟩ := h
  · exact ⟨h1, .inl h2⟩
  · exact ⟨h1, .inr ⟨g, cap, cur, rfl, h3, (hk g rfl).trans h4, h5⟩⟩
/-- What lies there between the rounds of AppendSeq: the box of the row, the row so far. -/
def IApp (w : World) (xs : List Int) (k : Nat) (W : World) : Prop :=
  ∃ A c, Blk W w.heap.size 24 #[.slice A k c] ∧ W.ownsRow w.heap.size 3 1 (.slice A k c) k ((xs.take k).map (Value.int .i64)) ∧ Below w.heap.size w W
theorem IApp.own {w : World} {B : Nat} {xs : List Int} (hB : w.heap.size ≤ B) : OwnFrom B (IApp w xs) := by
  rintro k W W' row ⟨A, c, h1, h2, h3⟩ hg hr
  exact ⟨A, c, (grownBy_keeps_cells hg (fun r e => (hr r e).2) h1 rfl).trans h1, own_kept h2 hg (fun r e => (hr r e).2), h3.grown hg h3.size (fun k e => by have := (hr k e).1; omega)⟩

set_option maxRecDepth 100000 in
set_option maxHeartbeats 2000000 in
theorem appendSeq_any (Bl na ca : Nat) (Aa : Option Addr) (xs : List Int) (w : World) (hbl : Bl < w.heap.size) (hc : w.cell? ⟨Bl, 0, none⟩ = some (.slice Aa na ca)) (hx : IntsAt w w.heap.size Aa na xs) (hn : na ≤ 1000) :
    Calls Try.prog 219 #[.slice none 0 0, .func (.func 194) #[] #[.pointer (some ⟨Bl, 0, none⟩)]] w (RetOwn w xs) := by
  obtain ⟨i0, hi, hz0, hz1, hz2⟩ := info_parts info_int
  have HX := Lib.hid hx
  have HLX := Lib.hid hx.len
  have HC := Lib.hid (fun V (h : Below w.heap.size w V) => (h.cell (p := ⟨Bl, 0, none⟩) hbl).trans hc)
  clear hx hc
  refine callsIn_wide (n := 5) |>.1 ?_
  refine callsIn_of_wp_marks Try.func219 rfl trivial ?_ rfl
  simp only [Try.ntmps219, List.size_toArray, List.length_cons, List.length_nil, Nat.reduceAdd, Nat.reduceSub, Array.replicate_succ, Array.replicate_zero, List.push_toArray, List.append_toArray, List.nil_append, List.cons_append]
  gi_wp2
  obtain ⟨W9, hW9⟩ : ∃ W9, w.alloc (.cells #[.slice none 0 0] 24) = W9 := ⟨_, rfl⟩
  rw [hW9]
  have sz : W9.heap.size = w.heap.size + 1 := by rw [← hW9]; simp
  have b1 : Blk W9 w.heap.size 24 #[.slice none 0 0] := by rw [← hW9]; exact Blk.new w _ _
  have hB9 : Below w.heap.size w W9 := by rw [← hW9]; exact bel_al (Below.refl _ w) _
  have i9 : IApp w xs 0 W9 := ⟨none, 0, b1, by simpa using World.ownsRow_nil _ _ _ _, hB9⟩
  clear hW9 b1 hB9
  refine range_k (gf := 194) (lb := #[.pointer (some ⟨Bl, 0, none⟩)]) rfl (enters_of Try.func194 (by kernel_rfl) rfl) (encs := encV) (fun _ _ => rfl)
    (fun k x _ => xs[k]? = some x) xs.length (IApp w xs) (fun _ => False) (IApp.own (by omega)) (fun _ _ _ _ h _ _ => h) (fun _ _ _ _ _ _ h _ _ _ => h) i9
    ?seq (fun k x => { tmps := #[.slice none 0 0, .func (.func 194) #[] #[.pointer (some ⟨Bl, 0, none⟩)], .pointer (some ⟨w.heap.size, 0, none⟩), undef, .slice none 0 0, .int .i64 x, .func (.func 194) #[] #[.pointer (some ⟨Bl, 0, none⟩)], .int .i64 x, undef, undef, undef, undef, undef], defers := [] }) ?assign ?body ?done ?stop
  case seq =>
    intro l J JL V hV hJ hJL hJI hY hJ0
    exact valC_in l 4 Bl na ca Aa xs J JL (fun k A hA => by
      obtain ⟨_, _, _, _, h3⟩ := hJI k A hA
      exact ⟨HC.out _ h3, HX.out.up h3⟩) hY V hJ0
  case assign =>
    intro l m k x W K hK
    unfold encV
    gi_wp2
    exact hK
  case body =>
    rintro l m k x W ⟨A, c, h1, h2, h3⟩ hx hk
    have c1 := h1.cell 0
    have f1 := h1.frozen 0
    simp only [Array.getElem?_singleton, if_true] at c1
    have hkx : xs.take (k + 1) = xs.take k ++ [x] := by
      obtain ⟨h, rfl⟩ := List.getElem?_eq_some_iff.1 hx
      exact List.take_succ_eq_append_getElem h
    have hk9 : k ≤ 1000 := by have := HLX.out; omega
    have H1 := Lib.hid h1
    have H2 := Lib.hid h2
    have H3 := Lib.hid h3
    have HK := Lib.hid hkx
    clear h1 h2 h3 hx hkx
    gi_wp2_with (first
      | (gi_at_builtin
         refine wpListIn_append_own_at _ rfl _ _ 24 rfl w.heap.size 3 i0 _ 1 8 Try.underlying24 hi hz0 hz1 hz2 rfl (by omega) (.slice A k c) k ((xs.take k).map (Value.int .i64)) rfl (H2.out.alloc _) ⟨W.heap.size, 0, none⟩ 1 1 [.int .i64 x] rfl rfl
           (World.news_of_block (cs := #[.int .i64 x]) (t := 3) (fr := (0, 0)) (heap_alloc_new W _)) (by simp [Value.oneCell']) (by unfold maxLen; omega) (by omega) (by have := H3.out.size; simp; omega) ?_
         intro v4 W4 hown4 hg4 _ hv4
         obtain ⟨g4, cap4, e4, _⟩ := hown4.form (by omega)
         subst e4
         have hne : some w.heap.size ≠ (Value.slice A k c).ownBlock := fun e => by
           obtain ⟨cs', h1⟩ := row_cells2 H2.out e.symm
           have h2 : W.heap[w.heap.size]? = some (.cells _ 24 (0, 0)) := H1.out
           rw [h1] at h2
           cases h2
         have hblk4 : Blk W4 w.heap.size 24 #[.slice A k c] := (hg4.block _ (by have := H1.out.lt; simp; omega) hne).trans ((Below.heap_alloc _ _ _ H1.out.lt).trans H1.out)
         have c4 := hblk4.cell 0
         have f4 := hblk4.frozen 0
         simp only [Array.getElem?_singleton, if_true] at c4
         have HBLK4 := Lib.hid hblk4
         have HOWN4 := Lib.hid hown4
         have HG4 := Lib.hid hg4
         have HB4 := Lib.hid ((H3.out.alloc H3.out.size _).grown hg4 (by have := H3.out.size; simp; omega) (fun j e => (H2.out.lt j e).1))
         clear hown4 hg4 hv4 hblk4 hne))
    refine ⟨?_, some ⟨g4, 0, none⟩, cap4, HBLK4.out.set_ 0 _, ?_, HB4.out.setCell (p := ⟨w.heap.size, 0, none⟩) (Nat.le_refl _) _⟩
    · exact (((keeps_grown2 (World.grownBy_alloc _ _ none) (fun r e => by cases e)).trans (keeps_grown2 HG4.out (fun g e => by
        obtain ⟨cs, h⟩ := row_cells2 H2.out e
        exact ⟨cs, _, _, (Below.heap_alloc _ _ _ (H2.out.lt g e).2).trans h⟩))).trans (KeepsOthers.setCell _ _ _)).from _
    · rw [HK.out, List.map_append]
      refine ownsRow_movedW HOWN4.out (fun g e => ?_)
      refine heap_setCell_other W4 ⟨w.heap.size, 0, none⟩ g _ (fun e2 => ?_)
      obtain ⟨cs, h⟩ := row_cells2 HOWN4.out e
      have h2 : W4.heap[w.heap.size]? = some (.cells _ 24 (0, 0)) := HBLK4.out
      have e3 : g = w.heap.size := e2
      rw [e3, h2] at h
      cases h
  case done =>
    rintro D W hD ⟨A, c, h1, h2, h3⟩ hK
    rw [List.take_of_length_le (Nat.le_refl _)] at h2
    have c1 := h1.cell 0
    simp only [Array.getElem?_singleton, if_true] at c1
    have H2 := Lib.hid h2
    have H3 := Lib.hid h3
    clear h1 h2 h3
    gi_wp2
    refine ⟨by simp, .inl ⟨_, _, rfl, run_takeDeferred hK, ?_⟩⟩
    refine ⟨_, results_tmp rfl _ _ _, ?_⟩
    exact ⟨_, _, rfl, Nat.le_refl _, own_kept H2.out (grownBy_putObj' W D _) (fun r e => by cases e; exact ⟨_, hK, rfl⟩), H3.out.grown (grownBy_putObj' W D _) H3.out.size (fun j e => by cases e; omega)⟩
  case stop =>
    rintro D W hD h
    exact h.elim

end Go.Proofs.Ytgbfccbnbgbknaa

namespace Go.Proofs.Ytgbfccbnbgbknaa
open Go.RowKit Go.Shelf Go.Sort

def sortI_ren : Go.Shelf.Ren := ⟨fun | 53 => 193 | 64 => 201 | 63 => 220 | 78 => 230 | 79 => 231 | 70 => 239 | 71 => 240 | 72 => 241 | 73 => 242 | 74 => 243 | 75 => 244 | 59 => 245 | 76 => 246 | 77 => 247 | 88 => 256 | 89 => 251 | 90 => 252 | 91 => 257 | 92 => 258 | 68 => 198 | 96 => 261 | n => n,
  fun | 22 => 24 | 23 => 3 | 3 => 3 | 51 => 182 | 0 => 0 | 67 => 206 | 69 => 208 | 4 => 4 | 61 => 200 | 60 => 199 | 44 => 145 | 5 => 5 | 9 => 9 | 75 => 221 | 79 => 225 | 83 => 229 | 84 => 230 | n => n,
  fun | n => n⟩
theorem sortI : Go.Proofs.SlLaysN.n53 Try.prog sortI_ren := {
  mixed := by kernel_rfl
  f53 := ⟨Try.f193.name, by decide, Try.func193.trans (congrArg some (by kernel_rfl))⟩
  f59 := ⟨Try.f245.name, by decide, Try.func245.trans (congrArg some (by kernel_rfl))⟩
  f63 := ⟨Try.f220.name, by decide, Try.func220.trans (congrArg some (by kernel_rfl))⟩
  f64 := Try.func201.trans (congrArg some (by kernel_rfl))
  f68 := ⟨Try.f198.name, by decide, Try.func198.trans (congrArg some (by kernel_rfl))⟩
  f70 := ⟨Try.f239.name, by decide, Try.func239.trans (congrArg some (by kernel_rfl))⟩
  f71 := ⟨Try.f240.name, by decide, Try.func240.trans (congrArg some (by kernel_rfl))⟩
  f72 := ⟨Try.f241.name, by decide, Try.func241.trans (congrArg some (by kernel_rfl))⟩
  f73 := ⟨Try.f242.name, by decide, Try.func242.trans (congrArg some (by kernel_rfl))⟩
  f74 := ⟨Try.f243.name, by decide, Try.func243.trans (congrArg some (by kernel_rfl))⟩
  f75 := ⟨Try.f244.name, by decide, Try.func244.trans (congrArg some (by kernel_rfl))⟩
  f76 := ⟨Try.f246.name, by decide, Try.func246.trans (congrArg some (by kernel_rfl))⟩
  f77 := ⟨Try.f247.name, by decide, Try.func247.trans (congrArg some (by kernel_rfl))⟩
  f78 := Try.func230.trans (congrArg some (by kernel_rfl))
  f79 := Try.func231.trans (congrArg some (by kernel_rfl))
  f88 := ⟨Try.f256.name, by decide, Try.func256.trans (congrArg some (by kernel_rfl))⟩
  f89 := Try.func251.trans (congrArg some (by kernel_rfl))
  f90 := Try.func252.trans (congrArg some (by kernel_rfl))
  f91 := ⟨Try.f257.name, by decide, Try.func257.trans (congrArg some (by kernel_rfl))⟩
  f92 := ⟨Try.f258.name, by decide, Try.func258.trans (congrArg some (by kernel_rfl))⟩
  f96 := ⟨Try.f261.name, by decide, Try.func261.trans (congrArg some (by kernel_rfl))⟩
  t0 := Try.underlying0
  a0 := Try.isAgg0
  z0 := Try.sizeOf0
  v0 := Try.zeroValue0
  t3 := Try.underlying3
  a3 := Try.isAgg3
  z3 := Try.sizeOf3
  v3 := Try.zeroValue3
  t4 := Try.underlying4
  a4 := Try.isAgg4
  z4 := Try.sizeOf4
  v4 := Try.zeroValue4
  t5 := Try.underlying5
  a5 := Try.isAgg5
  z5 := Try.sizeOf5
  v5 := Try.zeroValue5
  t9 := Try.underlying9
  a9 := Try.isAgg9
  z9 := Try.sizeOf9
  v9 := Try.zeroValue9
  t22 := Try.underlying24
  a22 := Try.isAgg24
  z22 := Try.sizeOf24
  v22 := Try.zeroValue24
  t23 := Try.underlying3
  a23 := Try.isAgg3
  z23 := Try.sizeOf3
  v23 := Try.zeroValue3
  t44 := Try.underlying145
  a44 := Try.isAgg145
  z44 := Try.sizeOf145
  v44 := Try.zeroValue145
  t51 := Try.underlying182
  a51 := Try.isAgg182
  z51 := Try.sizeOf182
  v51 := Try.zeroValue182
  t60 := Try.underlying199
  a60 := Try.isAgg199
  z60 := Try.sizeOf199
  v60 := Try.zeroValue199
  t61 := Try.underlying200
  a61 := Try.isAgg200
  z61 := Try.sizeOf200
  v61 := Try.zeroValue200
  t67 := Try.underlying206
  a67 := Try.isAgg206
  z67 := Try.sizeOf206
  v67 := Try.zeroValue206
  t69 := Try.underlying208
  a69 := Try.isAgg208
  z69 := Try.sizeOf208
  v69 := Try.zeroValue208
  t75 := Try.underlying221
  a75 := Try.isAgg221
  z75 := Try.sizeOf221
  v75 := Try.zeroValue221
  t79 := Try.underlying225
  a79 := Try.isAgg225
  z79 := Try.sizeOf225
  v79 := Try.zeroValue225
  t83 := Try.underlying229
  a83 := Try.isAgg229
  z83 := Try.sizeOf229
  v83 := Try.zeroValue229
  t84 := Try.underlying230
  a84 := Try.isAgg230
  z84 := Try.sizeOf230
  v84 := Try.zeroValue230 }

def compactI_ren : Go.Shelf.Ren := ⟨fun | 43 => 141 | n => n,
  fun | 22 => 24 | 23 => 3 | 3 => 3 | 4 => 4 | 0 => 0 | n => n,
  fun | n => n⟩
theorem compactI : Go.Proofs.SlLaysN.n43 Try.prog compactI_ren := {
  mixed := by kernel_rfl
  f43 := ⟨Try.f141.name, by decide, Try.func141.trans (congrArg some (by kernel_rfl))⟩
  t0 := Try.underlying0
  a0 := Try.isAgg0
  z0 := Try.sizeOf0
  v0 := Try.zeroValue0
  t3 := Try.underlying3
  a3 := Try.isAgg3
  z3 := Try.sizeOf3
  v3 := Try.zeroValue3
  t4 := Try.underlying4
  a4 := Try.isAgg4
  z4 := Try.sizeOf4
  v4 := Try.zeroValue4
  t22 := Try.underlying24
  a22 := Try.isAgg24
  z22 := Try.sizeOf24
  v22 := Try.zeroValue24
  t23 := Try.underlying3
  a23 := Try.isAgg3
  z23 := Try.sizeOf3
  v23 := Try.zeroValue3
  i23 := by kernel_rfl }


set_option maxHeartbeats 400000 in
theorem collect_any (Bl na ca : Nat) (Aa : Option Addr) (xs : List Int) (w : World) (hbl : Bl < w.heap.size) (hc : w.cell? ⟨Bl, 0, none⟩ = some (.slice Aa na ca)) (hx : IntsAt w w.heap.size Aa na xs) (hn : na ≤ 1000) :
    Calls Try.prog 192 #[.func (.func 194) #[] #[.pointer (some ⟨Bl, 0, none⟩)]] w (RetOwn w xs) := by
  have C := Lib.hid (appendSeq_any Bl na ca Aa xs w hbl hc hx hn)
  clear hc hx
  go_enter Try.func192, Try.ntmps192
  go_wp2_with (go_at_call 219; refine C.out.mono ?_; rintro e w' ⟨v, base, rfl, h1, h2, h3⟩; have H := Lib.hid (And.intro h1 (And.intro h2 h3)); clear h1 h2 h3)
  go_ret
  exact ⟨_, _, rfl, H.out.1, H.out.2.1, H.out.2.2⟩

/-- A list sorted. -/
def srt (xs : List Int) : List Int := xs.mergeSort fun x y => decide (x ≤ y)
theorem srt_len (xs : List Int) : (srt xs).length = xs.length := List.length_mergeSort _
theorem srt_mem {xs : List Int} {z : Int} : z ∈ srt xs ↔ z ∈ xs := (List.mergeSort_perm _ _).mem_iff

set_option maxHeartbeats 400000 in
theorem sorted_any (Bl na ca : Nat) (Aa : Option Addr) (xs : List Int) (w : World) (hbl : Bl < w.heap.size) (hc : w.cell? ⟨Bl, 0, none⟩ = some (.slice Aa na ca)) (hx : IntsAt w w.heap.size Aa na xs) (hn : na ≤ 1000) :
    Calls Try.prog 142 #[.func (.func 194) #[] #[.pointer (some ⟨Bl, 0, none⟩)]] w (RetOwn w (srt xs)) := by
  have C := Lib.hid (collect_any Bl na ca Aa xs w hbl hc hx hn)
  have hlx := hx.len
  have HLX := Lib.hid hlx
  clear hc hx hlx
  go_enter Try.func142, Try.ntmps142
  go_wp2_with (go_at_call 192; refine C.out.mono ?_; rintro e w1 ⟨v, base, rfl, h1, h2, h3⟩)
  obtain ⟨hl, ⟨rfl, h0⟩ | ⟨g, cap, cur, rfl, hbase, hg, r1, r2, r3, r4⟩⟩ := h2
  · have hnil : xs = [] := by
      rw [List.length_map] at hl
      exact List.eq_nil_of_length_eq_zero (by omega)
    subst hnil
    go_wp2_with (go_at_call 193; refine (AnyG.slices_Sort_int_none sortI none 0 w1).mono ?_; rintro e w2 ⟨rfl, rfl⟩)
    go_ret
    exact ⟨_, _, rfl, h1, by simpa [srt] using World.ownsRow_nil _ _ _ _, h3⟩
  · rw [Nat.mul_one] at r4
    have hH : Go.Sort.Holds (Value.int .i64) w1 g 0 xs.toArray := holds_of_blockI hg r4
    have hgl : g < w1.heap.size := (Array.getElem?_eq_some_iff.1 hg).1
    have CS := Lib.hid (AnyG.slices_Sort_int sortI g 0 cap xs w1 hH hgl (by have := HLX.out; omega))
    have HOWN := Lib.hid (fun (k : Nat) (os : Array Obj) => (ownsRow_sortedI (w := w1) (n := k) (os := os) (ss := xs) (ts := srt xs) (srt_len xs) hbase hg r1 r2 r3))
    have HGR := Lib.hid (fun (k : Nat) (os : Array Obj) => h3.grown (grownBy_sortedI (w := w1) (g := g) (n := k) (os := os) (srt xs).toArray) h3.size (fun j e => by cases e; exact Nat.le_trans h1 hbase))
    have H1 := Lib.hid h1
    clear hl h1 h3 hbase hg r1 r2 r3 r4 hH
    go_wp2_with (go_at_call 193; refine CS.out.mono ?_; rintro e w2 ⟨rfl, k, os, rfl⟩)
    go_ret
    exact ⟨_, base, rfl, H1.out, by rw [srt_len]; exact HOWN.out k os, HGR.out k os⟩

theorem keeps_upto {zs : List Int} : ∀ {m : Nat} {z : Int}, m ≤ zs.length → (z ∈ Lib.compactUpTo zs.toArray m ↔ z ∈ zs.take m)
  | 0, z, _ => by simp [Lib.compactUpTo]
  | m + 1, z, h => by
    have ih := keeps_upto (zs := zs) (m := m) (z := z) (by omega)
    have hget : ∀ j (hj : j < zs.length), zs.toArray[j]! = zs[j] := fun j hj => by rw [getElem!_pos zs.toArray j (by simpa using hj)]; rfl
    rw [Lib.compactUpTo_succ, List.mem_append, ih, List.take_succ_eq_append_getElem (show m < zs.length by omega), List.mem_append]
    cases hk : Lib.keeps zs.toArray m
    · simp only [Bool.false_eq_true, if_false, List.not_mem_nil, or_false]
      refine ⟨.inl, fun h2 => h2.elim id fun h2 => ?_⟩
      rw [List.mem_singleton] at h2
      subst h2
      unfold Lib.keeps at hk
      rw [decide_eq_false_iff_not, not_or, Classical.not_not] at hk
      obtain ⟨h0, h1⟩ := hk
      rw [hget m (by omega), hget (m - 1) (by omega)] at h1
      rw [h1]
      exact List.mem_take_iff_getElem.2 ⟨m - 1, by omega, rfl⟩
    · simp only [if_true, List.mem_singleton]
      rw [hget m (by omega)]
theorem compact_mem {zs : List Int} {z : Int} : z ∈ Lib.compact zs ↔ z ∈ zs := by
  unfold Lib.compact
  rw [keeps_upto (Nat.le_refl _), List.take_length]
theorem compact_le (zs : List Int) : (Lib.compact zs).length ≤ zs.length := by
  unfold Lib.compact Lib.compactUpTo
  rw [List.length_map]
  exact Nat.le_trans (List.length_filter_le _ _) (by simp)

set_option maxHeartbeats 400000 in
/-- Compact of a list of the call's own. -/
theorem compactI_any (v : Value) (base : Nat) (zs : List Int) (w : World) (h : w.ownsRow base 3 1 v zs.length (zs.map (Value.int .i64))) (hn : zs.length ≤ 1000) :
    Calls Try.prog 141 #[v] w fun e w' => ∃ A n c, e = .returned (.slice A n c) ∧ IntsAt w' w'.heap.size A n (Lib.compact zs) ∧ ∀ B, B ≤ base → Below B w w' := by
  obtain ⟨hl, ⟨rfl, h0⟩ | ⟨g, cap, cur, rfl, hbase, hg, r1, r2, r3, r4⟩⟩ := h
  · have hnil : zs = [] := by
      rw [List.length_map] at hl
      exact List.eq_nil_of_length_eq_zero (by omega)
    subst hnil
    refine (AnyG.slices_Compact_int_empty compactI none 0 w).mono ?_
    rintro e w2 ⟨rfl, rfl⟩
    exact ⟨none, 0, 0, rfl, IntsAt.nil _ _ 0, fun B _ => Below.refl _ _⟩
  · rw [Nat.mul_one] at r4
    have hH : Go.Sort.Holds (Value.int .i64) w g 0 zs.toArray := holds_of_blockI hg r4
    refine (AnyG.slices_Compact_int compactI g 0 cap zs w hH (by omega) r1).mono ?_
    rintro e w2 ⟨rfl, q, rfl⟩
    have hle := compact_le zs
    have hgr := grownBy_sortedI (w := w) (g := g) (n := q) (os := #[]) (Lib.compact zs ++ List.replicate (zs.length - (Lib.compact zs).length) 0).toArray
    rw [grow_empty] at hgr
    have hhp := heap_sortedI (w := w) (n := q) (os := #[]) (Lib.compact zs ++ List.replicate (zs.length - (Lib.compact zs).length) 0).toArray hg
    rw [grow_empty] at hhp
    refine ⟨_, _, _, rfl, ⟨rfl, by omega, fun h0 => ⟨g, 0, rfl, (Array.getElem?_eq_some_iff.1 hhp).1, fun j hj => ?_⟩⟩, fun B hB => (Below.refl B w).grown hgr ?_ (fun k e => by cases e; omega)⟩
    · rw [Nat.zero_add, cell_of_row _ g j _ _ (0, 0) hhp]
      have hjz : j < zs.length := by omega
      have hjc : j < cur.size := by omega
      simp [putCells, hjc, hj, show j < (Lib.compact zs).length + (zs.length - (Lib.compact zs).length) by omega]
    · have := (Array.getElem?_eq_some_iff.1 hg).1; omega

end Go.Proofs.Ytgbfccbnbgbknaa
