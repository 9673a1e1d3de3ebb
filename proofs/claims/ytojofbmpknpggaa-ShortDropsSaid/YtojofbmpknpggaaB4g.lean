/- Words: rows of slices that grow; contract: slices.Clone at Term. -/
import Derived.Test.YtojofbmpknpggaaG1g
import Derived.Test.YtojofbmpknpggaaG3g
import Derived.Laws.OwnMore
/- Words: a list of terms in memory; what Built makes. -/
namespace Go.Proofs.Ytojofbmpknpggaa
open Go.RowKit

/-- The slice value '.slice A n c' reads as the terms tt; their headers are ls. -/
structure TermsAt (w : World) (B : Nat) (A : Option Addr) (n : Nat) (ls : List Hd) (tt : List (List Int)) : Prop where
  hds : HdsAt w B A n ls
  len : n = tt.length
  each : ∀ j (h : j < ls.length) (h' : j < tt.length), IntsAt w B ls[j].1 ls[j].2.1 tt[j]
theorem TermsAt.keep {w w' : World} {B n : Nat} {A : Option Addr} {ls : List Hd} {tt : List (List Int)} (h : TermsAt w B A n ls tt) (hk : ∀ p : Addr, p.block < B → w'.cell? p = w.cell? p) : TermsAt w' B A n ls tt :=
  ⟨h.hds.keep hk, h.len, fun j a b => (h.each j a b).keep hk⟩
theorem TermsAt.more {w : World} {B B' n : Nat} {A : Option Addr} {ls : List Hd} {tt : List (List Int)} (h : TermsAt w B A n ls tt) (hB : B ≤ B') : TermsAt w B' A n ls tt :=
  ⟨h.hds.more hB, h.len, fun j a b => (h.each j a b).more hB⟩
theorem TermsAt.below {w w' : World} {B n : Nat} {A : Option Addr} {ls : List Hd} {tt : List (List Int)} (h : TermsAt w B A n ls tt) (hb : Below B w w') : TermsAt w' B A n ls tt := h.keep fun _ hp => hb.cell hp
theorem TermsAt.up {w w' : World} {n : Nat} {A : Option Addr} {ls : List Hd} {tt : List (List Int)} (h : TermsAt w w.heap.size A n ls tt) (hb : Below w.heap.size w w') : TermsAt w' w'.heap.size A n ls tt := (h.below hb).more hb.size
theorem TermsAt.cellAt {w : World} {B n : Nat} {A : Option Addr} {ls : List Hd} {tt : List (List Int)} (h : TermsAt w B A n ls tt) {k : Nat} (hk : k < n) :
    ∃ b off A' n' c' t', A = some ⟨b, off, none⟩ ∧ b < B ∧ w.cell? ⟨b, off + k, none⟩ = some (.slice A' n' c') ∧ tt[k]? = some t' ∧ IntsAt w B A' n' t' := by
  obtain ⟨b, off, e, hb, hc⟩ := h.hds.mem (by omega)
  have h1 : k < ls.length := by rw [← h.hds.len]; exact hk
  have h2 : k < tt.length := by rw [← h.len]; exact hk
  exact ⟨b, off, ls[k].1, ls[k].2.1, ls[k].2.2, tt[k], e, hb, hc k h1, List.getElem?_eq_getElem h2, h.each k h1 h2⟩

theorem ints_one (t : List Int) : ∀ u ∈ t.map (Value.int .i64), u.oneCell' = true := by
  intro u hu
  obtain ⟨z, _, rfl⟩ := List.mem_map.1 hu
  rfl

end Go.Proofs.Ytojofbmpknpggaa

namespace Go.Proofs.Ytojofbmpknpggaa
open Go.RowKit

/-- A row of ints of the call's own, with its block. -/
theorem row_ints_at {w : World} {base n : Nat} {v : Value} {zs : List Int} (h : w.ownsRow base 3 1 v n (zs.map (Value.int .i64))) (h1 : 0 < n) :
    n = zs.length ∧ ∃ g c, v = .slice (some ⟨g, 0, none⟩) n c ∧ base ≤ g ∧ g < w.heap.size ∧ ∀ j (h : j < zs.length), w.cell? ⟨g, j, none⟩ = some (.int .i64 zs[j]) := by
  obtain ⟨hl, ⟨rfl, rfl⟩ | ⟨g, cap, cur, rfl, hbg, hcur, hn1, hn2, hsz, htk⟩⟩ := h
  · omega
  · have hl' : n = zs.length := by simpa using hl.symm
    refine ⟨hl', g, cap, rfl, hbg, Blk.lt (t := 3) hcur, fun j hj => ?_⟩
    have hj' : j < n * 1 := by omega
    rw [Blk.cell (t := 3) hcur]
    have e1 : cur.toList[j]? = (cur.toList.take (n * 1))[j]? := by rw [List.getElem?_take, if_pos hj']
    rw [← Array.getElem?_toList, e1, htk, List.getElem?_map, List.getElem?_eq_getElem hj]
    rfl

def capOk (x : Hd) : Prop := x.2.1 ≤ x.2.2 ∧ x.2.2 ≤ 9223372036854775807
/-- .. with its capacity. -/
theorem row_ints_c {w : World} {base n : Nat} {v : Value} {zs : List Int} (h : w.ownsRow base 3 1 v n (zs.map (Value.int .i64))) (hn : n ≤ 1000000) : ∃ A c, v = .slice A n c ∧ IntsAt w w.heap.size A n zs ∧ n ≤ c ∧ c ≤ 9223372036854775807 := by
  have h0 := h
  obtain ⟨A, c, rfl, hI⟩ := row_ints h hn
  refine ⟨A, c, rfl, hI, ?_⟩
  obtain ⟨hl, ⟨e, rfl⟩ | ⟨g, cap, cur, e, hbg, hcur, hn1, hn2, hsz, htk⟩⟩ := h0
  · cases e; omega
  · cases e
    unfold maxLen at hn2
    omega

/-- A slice of ints whose block is another one than g. -/
structure IntsBut (w : World) (g : Option Nat) (A : Option Addr) (n : Nat) (zs : List Int) : Prop where
  len : n = zs.length
  max : n ≤ 9223372036854775807
  mem : 0 < n → ∃ b off, A = some ⟨b, off, none⟩ ∧ b < w.heap.size ∧ some b ≠ g ∧ ∀ j (h : j < zs.length), w.cell? ⟨b, off + j, none⟩ = some (.int .i64 zs[j])
theorem IntsBut.ints {w : World} {g : Option Nat} {A : Option Addr} {n : Nat} {zs : List Int} (h : IntsBut w g A n zs) : IntsAt w w.heap.size A n zs :=
  ⟨h.len, h.max, fun hn => by obtain ⟨b, off, e, hb, _, hc⟩ := h.mem hn; exact ⟨b, off, e, hb, hc⟩⟩
theorem IntsBut.grown {w w' : World} {g g' : Option Nat} {A : Option Addr} {n : Nat} {zs : List Int} (h : IntsBut w g A n zs) (hg : w.grownBy w' g) (h' : g' = g ∨ g' = some w.heap.size) : IntsBut w' g' A n zs :=
  ⟨h.len, h.max, fun hn => by
    obtain ⟨b, off, e, hb, hne, hc⟩ := h.mem hn
    refine ⟨b, off, e, Nat.lt_of_lt_of_le hb hg.size, ?_, fun j hj => (World.cell?_of_block (hg.block b hb hne)).trans (hc j hj)⟩
    rcases h' with rfl | rfl
    · exact hne
    · intro e; cases e; omega⟩
theorem IntsBut.below {w w' : World} {g : Option Nat} {A : Option Addr} {n : Nat} {zs : List Int} (h : IntsBut w g A n zs) (hb : Below w.heap.size w w') : IntsBut w' g A n zs :=
  ⟨h.len, h.max, fun hn => by
    obtain ⟨b, off, e, hb', hne, hc⟩ := h.mem hn
    exact ⟨b, off, e, Nat.lt_of_lt_of_le hb' hb.size, hne, fun j hj => (hb.cell (p := ⟨b, off + j, none⟩) hb').trans (hc j hj)⟩⟩
theorem IntsBut.setCell {w : World} {g k : Nat} {A : Option Addr} {n : Nat} {zs : List Int} {u : Value} (h : IntsBut w (some g) A n zs) : IntsBut (w.setCell ⟨g, k, none⟩ u) (some g) A n zs :=
  ⟨h.len, h.max, fun hn => by
    obtain ⟨b, off, e, hb', hne, hc⟩ := h.mem hn
    have hne' : b ≠ g := fun e => hne (by rw [e])
    exact ⟨b, off, e, by simpa using hb', hne, fun j hj => (World.cell?_of_block (w := w) (heap_setCell_other w ⟨g, k, none⟩ b u hne')).trans (hc j hj)⟩⟩
/-- A row of the call's own, of slices of ints: their blocks are not the row's. -/
structure RowsAt (T : TypeId) (w : World) (base : Nat) (v : Value) (k : Nat) (ls : List Hd) (tt : List (List Int)) : Prop where
  row : w.ownsRow base T 1 v k (ls.map Hd.val)
  len : k = tt.length
  each : ∀ j (h : j < ls.length) (h' : j < tt.length), IntsBut w v.ownBlock ls[j].1 ls[j].2.1 tt[j]
theorem RowsAt.ll {T : TypeId} {w : World} {base k : Nat} {v : Value} {ls : List Hd} {tt : List (List Int)} (h : RowsAt T w base v k ls tt) : ls.length = k := by
  have := h.row.1
  simpa using this
theorem RowsAt.nil (T : TypeId) (w : World) (base : Nat) : RowsAt T w base (.slice none 0 0) 0 [] [] := ⟨World.ownsRow_nil _ _ _ _, rfl, fun j hj => by simp at hj⟩
theorem grown_none {A B : World} (h : Below A.heap.size A B) : A.grownBy B none := ⟨h.os, h.tape, h.output, h.size, fun k hk _ => h.block k hk⟩
theorem row_below {w w' : World} {base : Nat} {e : TypeId} {size : Nat} {v : Value} {n : Nat} {xs : List Value} (h : w.ownsRow base e size v n xs) (hb : Below w.heap.size w w') : w'.ownsRow base e size v n xs := by
  refine h.kept (grown_none hb) ?_
  cases e : v.ownBlock
  · exact .inl rfl
  · exact .inr (by simp)
theorem RowsAt.below {T : TypeId} {w w' : World} {base k : Nat} {v : Value} {ls : List Hd} {tt : List (List Int)} (h : RowsAt T w base v k ls tt) (hb : Below w.heap.size w w') : RowsAt T w' base v k ls tt :=
  ⟨row_below h.row hb, h.len, fun j a b => (h.each j a b).below hb⟩
theorem RowsAt.push {T : TypeId} {w w' : World} {base k : Nat} {v v' : Value} {ls : List Hd} {tt : List (List Int)} {x : Hd} {t : List Int} (h : RowsAt T w base v k ls tt) (hx : IntsBut w v.ownBlock x.1 x.2.1 t)
    (hrow : w'.ownsRow base T 1 v' (k + 1) (ls.map Hd.val ++ [x.val])) (hg : w.grownBy w' v.ownBlock) (hv : v'.ownBlock = v.ownBlock ∨ v'.ownBlock = some w.heap.size) : RowsAt T w' base v' (k + 1) (ls ++ [x]) (tt ++ [t]) := by
  have hll := h.ll
  have hlt := h.len
  refine ⟨by simpa using hrow, by simp [hlt], fun j a b => ?_⟩
  by_cases hj : j < k
  · rw [List.getElem_append_left (by omega), List.getElem_append_left (by omega)]
    exact (h.each j (by omega) (by omega)).grown hg hv
  · have : j = k := by simp at a; omega
    subst this
    rw [List.getElem_append_right (by omega), List.getElem_append_right (by omega)]
    simp only [hll, ← hlt, Nat.sub_self, List.getElem_cons_zero]
    exact hx.grown hg hv
theorem RowsAt.terms {w : World} {base k : Nat} {v : Value} {ls : List Hd} {tt : List (List Int)} {T : TypeId} (h : RowsAt T w base v k ls tt) (hk : k ≤ 1000000) : ∃ A c, v = .slice A k c ∧ TermsAt w w.heap.size A k ls tt := by
  have hll := h.ll
  obtain ⟨hl, ⟨rfl, rfl⟩ | ⟨g, cap, cur, rfl, hbg, hcur, hn1, hn2, hsz, htk⟩⟩ := h.row
  · have : ls = [] := List.eq_nil_of_length_eq_zero (by simpa using hl)
    subst this
    exact ⟨none, 0, rfl, ⟨rfl, by omega, fun h => absurd h (by omega)⟩, h.len, fun j hj => by simp at hj⟩
  · refine ⟨some ⟨g, 0, none⟩, cap, rfl, ⟨hll.symm, by omega, fun _ => ⟨g, 0, rfl, Blk.lt (t := T) hcur, fun j hj => ?_⟩⟩, h.len, fun j a b => (h.each j a b).ints⟩
    have hj' : j < k * 1 := by omega
    rw [Blk.cell (t := T) hcur, Nat.zero_add]
    have e1 : cur.toList[j]? = (cur.toList.take (k * 1))[j]? := by rw [List.getElem?_take, if_pos hj']
    rw [← Array.getElem?_toList, e1, htk, List.getElem?_map, List.getElem?_eq_getElem hj]
    rfl

set_option maxRecDepth 100000 in
set_option maxHeartbeats 1000000 in
theorem cloneT_any (w : World) (b off n c : Nat) (zs : List Int) (hn : 1 ≤ n) (hn2 : n ≤ 1000000) (hl : zs.length = n) (hc : ∀ j (h : j < zs.length), w.cell? ⟨b, off + j, none⟩ = some (.int .i64 zs[j])) (hb : b < w.heap.size) :
    Calls Try.prog 87 #[.slice (some ⟨b, off, none⟩) n c] w (RetRow w (zs.map (Value.int .i64))) := by
  obtain ⟨i0, hi, hz0, hz1, hz2⟩ := info_parts info_int
  have hnl : (binOp .eql 45 (.slice (some ⟨b, off, none⟩) n c) (.slice none 0 0)).run Try.prog w = .ok (.bool false) w := Lib.run_eql_slice_nil w 45 3 (some ⟨b, off, none⟩) n c 0 0 Try.underlying45
  have H1 : (zs.map (Value.int .i64)).length = n * 1 := by simp [hl]
  have H2 : ∀ j u, (zs.map (Value.int .i64))[j]? = some u → (w.alloc (.cells #[] 3)).cell? ((⟨b, off, none⟩ : Addr).add j) = some u := by
    intro j u hu
    rw [add0, alloc_keep _ _ _ hb]
    simp only [List.getElem?_map, Option.map_eq_some_iff] at hu
    obtain ⟨z, hz, rfl⟩ := hu
    obtain ⟨hj, rfl⟩ := List.getElem?_eq_some_iff.1 hz
    exact hc j hj
  have HH1 := Lib.hid H1
  have HH2 := Lib.hid H2
  have HH3 := Lib.hid (ints_one zs)
  have HO : (w.alloc (.cells #[] 3)).ownsRow w.heap.size 3 1 (.slice (some ⟨w.heap.size, 0, none⟩) 0 0) 0 [] :=
    ⟨rfl, .inr ⟨w.heap.size, 0, #[], rfl, Nat.le_refl _, heap_alloc_new w _, Nat.le_refl _, by unfold maxLen; omega, rfl, rfl⟩⟩
  have HO' := Lib.hid HO
  have HL := Lib.hid hl
  clear H1 H2 HO hc hl
  go_enter Try.func87, Try.ntmps87
  go_wp2_with (at_builtin
               refine wpList_append_own_at _ rfl _ _ 45 rfl w.heap.size 3 i0 _ 1 8 Try.underlying45 hi hz0 hz1 hz2 rfl (by omega) (.slice (some ⟨w.heap.size, 0, none⟩) 0 0) 0 [] rfl HO'.out ⟨b, off, none⟩ n c (zs.map (Value.int .i64)) rfl HH1.out HH2.out HH3.out (by unfold maxLen; omega) (by omega) (by simp) ?_
               intro v' w1 hown hg _ _
               have HW := Lib.hid hown
               have HG := Lib.hid hg
               clear hown hg)
  go_ret
  refine ⟨v', rfl, ?_, ((Below.refl _ w).alloc (Nat.le_refl _) _).grown HG.out (by simp) (fun k e => by cases e; exact Nat.le_refl _)⟩
  have := HW.out
  simpa [HL.out] using this

end Go.Proofs.Ytojofbmpknpggaa
