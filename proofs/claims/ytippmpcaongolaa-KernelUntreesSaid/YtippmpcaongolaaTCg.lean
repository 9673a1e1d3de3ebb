/- Contracts: kernel.treeSize, kernel.Tree. -/
import Derived.Test.YtippmpcaongolaaC1g
import Derived.Test.YtippmpcaongolaaKJg
import Derived.Shelf.Strings.BuilderK
import Derived.Test.YtippmpcaongolaaQWg
/- Contracts: (*strings.Builder).WriteByte, String and copyCheck, laid. -/
namespace Go.Proofs.Ytippmpcaongolaa
open Go.RowKit Go.Shelf

def bldByte_ren : Go.Shelf.Ren := ⟨fun | 167 => 101 | 240 => 148 | 276 => 167 | n => n,
  fun | 20 => 20 | 70 => 117 | 5 => 5 | 75 => 125 | 0 => 0 | 72 => 120 | 37 => 118 | 4 => 4 | 164 => 204 | 80 => 129 | 9 => 9 | n => n,
  fun | n => n⟩
theorem bldByte : Go.Proofs.Lays.n167 Try.prog bldByte_ren := {
  mixed := by kernel_rfl
  f167 := Try.func101.trans (congrArg some (by kernel_rfl))
  f240 := Try.func148.trans (congrArg some (by kernel_rfl))
  f276 := Try.func167.trans (congrArg some (by kernel_rfl))
  t0 := Try.underlying0
  a0 := Try.isAgg0
  z0 := Try.sizeOf0
  v0 := Try.zeroValue0
  t4 := Try.underlying4
  a4 := Try.isAgg4
  z4 := Try.sizeOf4
  v4 := Try.zeroValue4
  t5 := Try.underlying5
  a5 := Try.isAgg5
  z5 := Try.sizeOf5
  v5 := Try.zeroValue5
  t9 := Try.underlying9
  a9 := Try.isAgg9
  z9 := Try.sizeOf9
  v9 := Try.zeroValue9
  t20 := Try.underlying20
  a20 := Try.isAgg20
  z20 := Try.sizeOf20
  v20 := Try.zeroValue20
  t37 := Try.underlying118
  a37 := Try.isAgg118
  z37 := Try.sizeOf118
  v37 := Try.zeroValue118
  t70 := Try.underlying117
  a70 := Try.isAgg117
  z70 := Try.sizeOf117
  v70 := Try.zeroValue117
  t72 := Try.underlying120
  a72 := Try.isAgg120
  z72 := Try.sizeOf120
  v72 := Try.zeroValue120
  t75 := Try.underlying125
  a75 := Try.isAgg125
  z75 := Try.sizeOf125
  v75 := Try.zeroValue125
  t164 := Try.underlying204
  a164 := Try.isAgg204
  z164 := Try.sizeOf204
  v164 := Try.zeroValue204 }

def bldString_ren : Go.Shelf.Ren := ⟨fun | 169 => 102 | n => n,
  fun | 70 => 117 | 9 => 9 | 0 => 0 | 72 => 120 | 37 => 118 | 127 => 181 | 3 => 3 | 5 => 5 | n => n,
  fun | n => n⟩
theorem bldString : Go.Proofs.Lays.n169 Try.prog bldString_ren := {
  mixed := by kernel_rfl
  f169 := Try.func102.trans (congrArg some (by kernel_rfl))
  t0 := Try.underlying0
  a0 := Try.isAgg0
  z0 := Try.sizeOf0
  v0 := Try.zeroValue0
  t3 := Try.underlying3
  a3 := Try.isAgg3
  z3 := Try.sizeOf3
  v3 := Try.zeroValue3
  t9 := Try.underlying9
  a9 := Try.isAgg9
  z9 := Try.sizeOf9
  v9 := Try.zeroValue9
  t37 := Try.underlying118
  a37 := Try.isAgg118
  z37 := Try.sizeOf118
  v37 := Try.zeroValue118
  t70 := Try.underlying117
  a70 := Try.isAgg117
  z70 := Try.sizeOf117
  v70 := Try.zeroValue117
  t72 := Try.underlying120
  a72 := Try.isAgg120
  z72 := Try.sizeOf120
  v72 := Try.zeroValue120
  t127 := Try.underlying181
  a127 := Try.isAgg181
  z127 := Try.sizeOf181
  v127 := Try.zeroValue181 }

def bldCheck_ren : Go.Shelf.Ren := ⟨fun | 240 => 148 | 276 => 167 | n => n,
  fun | 20 => 20 | 70 => 117 | 0 => 0 | 72 => 120 | 4 => 4 | 164 => 204 | 37 => 118 | 5 => 5 | n => n,
  fun | n => n⟩
theorem bldCheck : Go.Proofs.Lays.n240 Try.prog bldCheck_ren := {
  mixed := by kernel_rfl
  f240 := Try.func148.trans (congrArg some (by kernel_rfl))
  f276 := Try.func167.trans (congrArg some (by kernel_rfl))
  t0 := Try.underlying0
  a0 := Try.isAgg0
  z0 := Try.sizeOf0
  v0 := Try.zeroValue0
  t4 := Try.underlying4
  a4 := Try.isAgg4
  z4 := Try.sizeOf4
  v4 := Try.zeroValue4
  t9 := Try.underlying9
  a9 := Try.isAgg9
  z9 := Try.sizeOf9
  v9 := Try.zeroValue9
  t20 := Try.underlying20
  a20 := Try.isAgg20
  z20 := Try.sizeOf20
  v20 := Try.zeroValue20
  t70 := Try.underlying117
  a70 := Try.isAgg117
  z70 := Try.sizeOf117
  v70 := Try.zeroValue117
  t72 := Try.underlying120
  a72 := Try.isAgg120
  z72 := Try.sizeOf120
  v72 := Try.zeroValue120
  t164 := Try.underlying204
  a164 := Try.isAgg204
  z164 := Try.sizeOf204
  v164 := Try.zeroValue204 }

/-- What the contracts ask of the numbers. -/
theorem bldX : Builder.Extra Try.prog bldByte_ren where
  sizeBuilder := by kernel_rfl
  liesBuilder := by kernel_rfl
  t5 := Try.underlying5
  a5 := Try.isAgg5
  z5 := Try.sizeOf5
  v5 := Try.zeroValue5
  infoByte := by kernel_rfl
  cellsByte := by kernel_rfl
  sizeByte := by kernel_rfl
  neB5 := by decide
theorem bldXS : Builder.Extra Try.prog bldString_ren where
  sizeBuilder := by kernel_rfl
  liesBuilder := by kernel_rfl
  t5 := Try.underlying5
  a5 := Try.isAgg5
  z5 := Try.sizeOf5
  v5 := Try.zeroValue5
  infoByte := by kernel_rfl
  cellsByte := by kernel_rfl
  sizeByte := by kernel_rfl
  neB5 := by decide
theorem bldXC : Builder.X72 Try.prog bldCheck_ren where
  sizeBuilder := by kernel_rfl
  liesBuilder := by kernel_rfl

/-- A builder in a block of its own that holds bytes. -/
abbrev BldF (B b : Nat) (bs : List Value) (w : World) : Prop := Lib.IsBuilderF 120 5 B b bs w
theorem bldByte_any (B b : Nat) (bs : List Value) (c : Int) (w : World) (h : BldF B b bs w) (hlen : bs.length + 1 ≤ 140737488355328) (hBw : B ≤ w.heap.size) :
    Calls Try.prog 101 #[.pointer (some ⟨b, 0, none⟩), .int .u8 c] w fun e w' => e = .returned .nilIface ∧ BldF B b (bs ++ [.int .u8 c]) w' ∧ Below B w w' ∧ Lib.OthersKept 5 (some b) w w' :=
  (Any.Builder_WriteByte_k bldByte bldX B b bs c w h hlen hBw).mono fun _ _ ⟨h1, h2, h3, h4⟩ => ⟨h1, .inr h2, h3, h4⟩
theorem bldString_any (B b : Nat) (l : List UInt8) (w : World) (h : BldF B b (Lib.byteCells l) w) (hBw : B ≤ w.heap.size) :
    Calls Try.prog 102 #[.pointer (some ⟨b, 0, none⟩)] w fun e w' => e = .returned (.string ⟨l.toArray⟩) ∧ Below B w w' :=
  (Any.Builder_String_any_k bldString bldXS B b l w h hBw).mono fun _ _ h => ⟨h.1, h.2.2.1⟩
theorem bldCheck_is (B b : Nat) (bs : List Value) (w : World) (h : BldF B b bs w) :
    Calls Try.prog 148 #[.pointer (some ⟨b, 0, none⟩)] w fun e w' => e = .returned (.tuple #[]) ∧ Lib.BuilderAtF 120 5 B b (.pointer (some ⟨b, 0, none⟩)) bs w' ∧ (w' = w ∨ w' = w.setCell ⟨b, 0, none⟩ (.pointer (some ⟨b, 0, none⟩))) := by
  rcases h with h | h
  · refine (Any.Builder_copyCheck_fresh bldCheck bldXC b w h.cell0 h.shape h.frozen0).mono ?_
    rintro e w' ⟨rfl, rfl⟩
    exact ⟨rfl, h.used _, .inr rfl⟩
  · refine (Any.Builder_copyCheck_used bldCheck bldXC b w h.cell0).mono ?_
    rintro e w' ⟨rfl, rfl⟩
    exact ⟨rfl, h, .inl rfl⟩

theorem info_byte : (Try.prog.info? 5).map (fun i => (i.zero, i.size, i.bytes)) = some (some (.int .u8 0), 1, 1) := by kernel_rfl

set_option maxRecDepth 100000 in
set_option maxHeartbeats 2000000 in
/-- Write of bytes in a block that is not the builder's. -/
theorem bldWrite_any (B b : Nat) (bs : List Value) (ab : Nat) (m c : Nat) (news : List Value) (w : World) (h : BldF B b bs w) (hl : news.length = m) (hnews : ∀ j u, news[j]? = some u → w.cell? ⟨ab, j, none⟩ = some u) (hab : ab ≠ b) (h1 : ∀ u ∈ news, u.oneCell' = true) (hlen : bs.length + m ≤ 1000000) (hBw : B ≤ w.heap.size) :
    Calls Try.prog 100 #[.pointer (some ⟨b, 0, none⟩), .slice (some ⟨ab, 0, none⟩) m c] w fun e w' => e = .returned (.tuple #[.int .i64 m, .nilIface]) ∧ BldF B b (bs ++ news) w' ∧ Below B w w' ∧ Lib.OthersKept 5 (some b) w w' := by
  obtain ⟨i0, hi, hz0, hz1, hz2⟩ := info_parts info_byte
  have CC := Lib.hid (bldCheck_is B b bs w h)
  have HNW := Lib.hid hnews
  have H1 := Lib.hid h1
  have HL := Lib.hid hl
  have HBB := Lib.hid (show B ≤ b from by rcases h with h | h <;> exact h.1)
  clear h hnews h1 hl
  go_enter Try.func100, Try.ntmps100
  go_wp2_with (first
    | (go_at_call 148
       (with_reducible refine CC.out.mono ?_)
       rintro e w1 ⟨rfl, ⟨hB, v, hbk, hown, hne⟩, hw⟩
       have HBel := Lib.hid (show Below B w w1 from by
         rcases hw with e | e
         · rw [e]; exact Below.refl _ _
         · rw [e]; exact (Below.refl _ _).setCell (p := ⟨b, 0, none⟩) hB _)
       have HOth := Lib.hid (show Lib.OthersKept 5 (some b) w w1 from by
         rcases hw with e | e
         · rw [e]; exact Lib.OthersKept.refl _ _ _
         · rw [e]; exact (Lib.OthersKept.refl _ _ w).setCell ⟨b, 0, none⟩ rfl _)
       have HN1 := Lib.hid (show ∀ j u, news[j]? = some u → w1.cell? ((⟨ab, 0, none⟩ : Addr).add j) = some u from fun j u hu => by
         have e0 : ((⟨ab, 0, none⟩ : Addr).add j) = ⟨ab, j, none⟩ := by rw [add0, Nat.zero_add]
         rw [e0]
         rcases hw with e | e
         · rw [e]; exact HNW.out j u hu
         · rw [e, World.cell?_setCell_far w ⟨b, 0, none⟩ ⟨ab, j, none⟩ _ (show b ≠ ab from Ne.symm hab)]
           exact HNW.out j u hu)
       have c1 : w1.cell? ⟨b, 1, none⟩ = some v := by rw [Lib.cell_of_heap hbk]; rfl
       have HO := Lib.hid hown
       have HBK := Lib.hid hbk
       have HNE := Lib.hid hne
       clear hw hown hbk hne)
    | (at_builtin
       refine wpList_append_ownF _ rfl _ _ 118 rfl B 5 i0 _ 1 1 Try.underlying118 hi hz0 hz1 hz2 rfl (by omega) v bs.length bs rfl HO.out ⟨ab, 0, none⟩ m c news rfl (by have := HL.out; omega) HN1.out H1.out (by unfold maxLen; omega) (by omega) (Nat.le_trans hBw HBel.out.size) ?_
       intro v' w2 hown' hgrow _
       have hb2 : w2.heap[b]? = some (.cells #[.pointer (some ⟨b, 0, none⟩), v] 120 (0, 0)) := by
         rw [hgrow.block b (Array.getElem?_eq_some_iff.1 HBK.out).1 (fun e => HNE.out e.symm)]
         exact HBK.out
       have d1 : w2.cell? ⟨b, 1, none⟩ = some v := by rw [Lib.cell_of_heap hb2]; rfl
       have f1 : w2.frozen? ⟨b, 1, none⟩ = false := Lib.frozen_of_heap hb2 1
       have HP := Lib.hid (Lib.BuilderAtF.put (bs' := bs ++ news) HBB.out hb2 (by rw [List.length_append, HL.out]; exact hown') (by decide))
       have HBel2 := Lib.hid ((HBel.out.grown hgrow (Nat.le_trans hBw HBel.out.size) (fun k e => (HO.out.lt k e).1)).setCell (p := ⟨b, 1, none⟩) HBB.out v')
       have HOth2 := Lib.hid ((HOth.out.grown hgrow (Lib.ownsRowF_kind HO.out)).setCell ⟨b, 1, none⟩ rfl v')
       obtain ⟨ao, n', cap, rfl⟩ : ∃ ao n' cap, v' = .slice ao n' cap := by
         rcases hown'.2 with ⟨hv, _⟩ | ⟨g, cap, cur, fz, hv, _⟩
         · exact ⟨_, _, _, hv⟩
         · exact ⟨_, _, _, hv⟩
       clear hb2 hown' hgrow))
  go_ret2
  exact ⟨rfl, .inr HP.out, HBel2.out, HOth2.out⟩

end Go.Proofs.Ytippmpcaongolaa

/- Trees of proofs as texts (pure): what Tree writes, and how long it is. -/
namespace Go.Proofs.Ytippmpcaongolaa
open Go.RowKit

/-- The bytes of a citation. -/
def citT (z : Int) : List UInt8 := [103, UInt8.ofNat (48 + z.toNat / 10), UInt8.ofNat (48 + z.toNat % 10)]
/-- The text of a step's tree, with those before it. -/
def treA (pp : List Stp) (k : Nat) (L : List (List UInt8)) : List UInt8 :=
  if (pp.getD k (0, 0, 0)).1 = 2 then 68 :: (L.getD (pp.getD k (0, 0, 0)).2.1.toNat [] ++ L.getD (pp.getD k (0, 0, 0)).2.2.toNat []) else citT (pp.getD k (0, 0, 0)).2.1
def treL (pp : List Stp) : Nat → List (List UInt8)
  | 0 => []
  | k + 1 => treL pp k ++ [treA pp k (treL pp k)]
theorem treL_len (pp : List Stp) : ∀ k, (treL pp k).length = k
  | 0 => rfl
  | k + 1 => by rw [treL, List.length_append, treL_len pp k]; rfl
theorem treL_old (pp : List Stp) {k j : Nat} (h : j < k) : (treL pp (k + 1)).getD j [] = (treL pp k).getD j [] := by
  rw [treL, List.getD_eq_getElem?_getD, List.getElem?_append_left (by rw [treL_len]; exact h), ← List.getD_eq_getElem?_getD]
theorem treL_last (pp : List Stp) (k : Nat) : (treL pp (k + 1)).getD k [] = treA pp k (treL pp k) := by
  rw [treL, List.getD_eq_getElem?_getD, List.getElem?_append_right (by rw [treL_len]; exact Nat.le_refl _), treL_len, Nat.sub_self]
  rfl
/-- The text of step j. -/
def treT (pp : List Stp) (j : Nat) : List UInt8 := (treL pp (j + 1)).getD j []
theorem treL_at (pp : List Stp) : ∀ {k j : Nat}, j < k → (treL pp k).getD j [] = treT pp j
  | 0, j, h => by omega
  | k + 1, j, h => by
    by_cases hj : j < k
    · rw [treL_old pp hj]; exact treL_at pp hj
    · obtain rfl : j = k := by omega
      rfl
theorem treT_cite {pp : List Stp} {j : Nat} {y z : Int} (hx : pp[j]? = some (1, y, z)) : treT pp j = citT y := by
  unfold treT
  rw [treL_last]
  unfold treA
  rw [List.getD_eq_getElem?_getD, hx]
  rfl
theorem treT_det {pp : List Stp} {j a b : Nat} (hx : pp[j]? = some (2, (a : Int), (b : Int))) (ha : a < j) (hb : b < j) : treT pp j = 68 :: (treT pp a ++ treT pp b) := by
  unfold treT
  rw [treL_last]
  unfold treA
  rw [List.getD_eq_getElem?_getD, hx]
  simp only [Option.getD_some, if_true, Int.toNat_natCast]
  rw [treL_at pp ha, treL_at pp hb]
  rfl
/-- The count of step j, as of mesL. -/
def cntT (pp : List Stp) (j : Nat) : Int := (mesL cntF pp (j + 1)).getD j 0
theorem mesL_at (f : Int → Int → Int) (pp : List Stp) : ∀ {k j : Nat}, j < k → (mesL f pp k).getD j 0 = (mesL f pp (j + 1)).getD j 0
  | 0, j, h => by omega
  | k + 1, j, h => by
    by_cases hj : j < k
    · rw [mesL_old f pp hj]; exact mesL_at f pp hj
    · obtain rfl : j = k := by omega
      rfl
theorem cntT_cite {pp : List Stp} {j : Nat} {y z : Int} (hx : pp[j]? = some (1, y, z)) : cntT pp j = 1 := by
  unfold cntT
  rw [mesL_last]
  unfold mesA
  rw [List.getD_eq_getElem?_getD, hx]
  rfl
theorem cntT_det {pp : List Stp} {j a b : Nat} (hx : pp[j]? = some (2, (a : Int), (b : Int))) (ha : a < j) (hb : b < j) : cntT pp j = cntT pp a + cntT pp b + 1 := by
  unfold cntT
  rw [mesL_last]
  unfold mesA
  rw [List.getD_eq_getElem?_getD, hx]
  simp only [Option.getD_some, if_true, Int.toNat_natCast]
  rw [mesL_at cntF pp ha, mesL_at cntF pp hb]
  rfl
/-- A tree of c parts has c / 2 detachments of a byte and one citation more of three bytes. -/
theorem tree_len {g : Int} {pp : List Stp} (hp : stepsTo g pp pp.length) (j : Nat) (hj : j < pp.length) : ∃ d : Nat, cntT pp j = 2 * (d : Int) + 1 ∧ (treT pp j).length = d + 3 * (d + 1) := by
  induction j using Nat.strongRecOn with
  | _ j ih =>
    have hx : pp[j]? = some pp[j] := List.getElem?_eq_getElem hj
    rcases stepOk_num (hp j hj _ hx) with ⟨a1, a2, a3, a4⟩ | ⟨a1, a2, a3, a4, a5⟩
    · have hx2 : pp[j]? = some (1, pp[j].2.1, pp[j].2.2) := by rw [hx, ← a1]
      refine ⟨0, by rw [cntT_cite hx2]; rfl, by rw [treT_cite hx2]; rfl⟩
    · obtain ⟨a, ha⟩ := Int.eq_ofNat_of_zero_le a2
      obtain ⟨b, hb⟩ := Int.eq_ofNat_of_zero_le a4
      have hx2 : pp[j]? = some (2, (a : Int), (b : Int)) := by rw [hx, ← a1, ← ha, ← hb]
      have ha1 : a < j := by omega
      have hb1 : b < j := by omega
      obtain ⟨da, c1, l1⟩ := ih a ha1 (by omega)
      obtain ⟨db, c2, l2⟩ := ih b hb1 (by omega)
      refine ⟨da + db + 1, by rw [cntT_det hx2 ha1 hb1, c1, c2]; omega, ?_⟩
      rw [treT_det hx2 ha1 hb1, List.length_cons, List.length_append, l1, l2]
      omega
/-- How long treeSize says a tree is. -/
theorem size_len {g : Int} {pp : List Stp} (hp : stepsTo g pp pp.length) {j : Nat} (hj : j < pp.length) : cntT pp j / 2 + 3 * (cntT pp j / 2 + 1) = ((treT pp j).length : Int) := by
  obtain ⟨d, h1, h2⟩ := tree_len hp j hj
  rw [h1, h2]
  omega
/-- What Tree hands back. -/
def treZ (g : Int) (pp : List Stp) : List UInt8 × Int :=
  if proofOk g pp = true then (if (treT pp (pp.length - 1)).length > 65536 then ([], 3) else (treT pp (pp.length - 1), 0)) else ([], 1)

end Go.Proofs.Ytippmpcaongolaa

/- Contract: Tree's writer. -/
namespace Go.Proofs.Ytippmpcaongolaa
open Go.RowKit

/-- The writer of trees. -/
abbrev trF (Bp b d : Nat) : Value := .func (.func 99) #[] #[.pointer (some ⟨Bp, 0, none⟩), .pointer (some ⟨b, 0, none⟩), .pointer (some ⟨d, 0, none⟩)]
/-- What lies about it: the proof's box, the text's, its own. -/
structure TrAt (w : World) (Bp b d B : Nat) (Ap : Option Addr) (np cp : Nat) (pp : List Stp) (bs : List UInt8) : Prop where
  o1 : Bp < B
  o2 : B ≤ b
  o3 : d ≠ b
  o4 : B ≤ w.heap.size
  bx : w.cell? ⟨Bp, 0, none⟩ = some (.slice Ap np cp)
  st : StepsAt w Bp Ap np pp
  fn : w.heap[d]? = some (.cells #[trF Bp b d] 121 (0, 0))
  bl : BldF B b (Lib.byteCells bs) w
section
variable {w w' : World} {Bp b d B : Nat} {Ap : Option Addr} {np cp : Nat} {pp : List Stp} {bs bs' : List UInt8}
theorem TrAt.alloc (h : TrAt w Bp b d B Ap np cp pp bs) (o : Obj) : TrAt (w.alloc o) Bp b d B Ap np cp pp bs := by
  have hb := bel_al0 w o
  have h4 := h.o4
  have h1 := h.o1
  refine ⟨h.o1, h.o2, h.o3, Nat.le_trans h.o4 hb.size, (hb.cell (p := ⟨Bp, 0, none⟩) (by show Bp < _; omega)).trans h.bx, h.st.keep fun p hp => hb.cell (by omega), (Below.heap_alloc w o d (Array.getElem?_eq_some_iff.1 h.fn).1).trans h.fn, ?_⟩
  exact Lib.IsBuilderF.alloc h.bl o
theorem TrAt.step (h : TrAt w Bp b d B Ap np cp pp bs) (hb : Below B w w') (ho : Lib.OthersKept 5 (some b) w w') (hl : BldF B b (Lib.byteCells bs') w') : TrAt w' Bp b d B Ap np cp pp bs' := by
  have h1 := h.o1
  exact ⟨h.o1, h.o2, h.o3, Nat.le_trans h.o4 hb.size, (hb.cell (p := ⟨Bp, 0, none⟩) h1).trans h.bx, h.st.keep fun p hp => hb.cell (by omega), ho d _ h.fn (fun e => h.o3 (Option.some.inj e)) (fun c fz e => by cases e), hl⟩
theorem TrAt.lt (h : TrAt w Bp b d B Ap np cp pp bs) : b < w.heap.size := by
  rcases h.bl with h | h
  · exact h.lt
  · exact h.lt
theorem TrAt.cd (h : TrAt w Bp b d B Ap np cp pp bs) : w.cell? ⟨d, 0, none⟩ = some (trF Bp b d) := by rw [Lib.cell_of_heap h.fn]; rfl
end
theorem citT_cells {yn : Nat} (h : yn < 100) : Lib.byteCells (citT (yn : Int)) = [.int .u8 103, .int .u8 (48 + (yn : Int) / 10), .int .u8 (48 + (yn : Int) % 10)] := by
  have e : ∀ m : Nat, m < 256 → ((UInt8.ofNat m).toNat : Int) = (m : Int) := fun m hm => by
    rw [UInt8.toNat_ofNat']
    omega
  unfold Lib.byteCells citT
  simp only [List.map_cons, List.map_nil, Int.toNat_natCast]
  rw [e (48 + yn / 10) (by omega), e (48 + yn % 10) (by omega)]
  rw [show ((48 + yn / 10 : Nat) : Int) = 48 + (yn : Int) / 10 by omega, show ((48 + yn % 10 : Nat) : Int) = 48 + (yn : Int) % 10 by omega]
  rfl
theorem byteCells_append (a b : List UInt8) : Lib.byteCells (a ++ b) = Lib.byteCells a ++ Lib.byteCells b := by unfold Lib.byteCells; rw [List.map_append]

set_option maxRecDepth 100000 in
set_option maxHeartbeats 2000000 in
theorem tree1_any (g : Int) (hg : g ≤ 60) (Bp b d B : Nat) (Ap : Option Addr) (np cp : Nat) (pp : List Stp) (hto : stepsTo g pp pp.length) (_hn : np ≤ 60) (i : Nat) (hi : i < np) :
    ∀ (bs : List UInt8) (w : World), TrAt w Bp b d B Ap np cp pp bs → bs.length + (treT pp i).length ≤ 100000 →
      Calls Try.prog 99 #[.int .i64 (i : Int), .pointer (some ⟨Bp, 0, none⟩), .pointer (some ⟨b, 0, none⟩), .pointer (some ⟨d, 0, none⟩)] w fun e w' => (∃ v, e = .returned v) ∧ TrAt w' Bp b d B Ap np cp pp (bs ++ treT pp i) ∧ Below B w w' ∧ Lib.OthersKept 5 (some b) w w' := by
  induction i using Nat.strongRecOn with
  | _ i ih =>
    intro bs w hT hlen
    have hlp := hT.st.len
    obtain ⟨b0, off0, x, y, z, rfl, hb0, q1, q2, q3, q4⟩ := hT.st.cellAt hi
    have cbx := hT.bx
    have i0 : (0 : Int) ≤ (i : Int) := by omega
    have i1 : (i : Int) < (np : Int) := by omega
    obtain ⟨W1, hW1⟩ : ∃ W1, w.alloc (.cells #[.int .i64 x, .int .i64 y, .int .i64 z] 123) = W1 := ⟨_, rfl⟩
    have hbox : Blk W1 w.heap.size 123 #[.int .i64 x, .int .i64 y, .int .i64 z] := by rw [← hW1]; exact Blk.new _ _ _
    have hT1 : TrAt W1 Bp b d B (some ⟨b0, off0, none⟩) np cp pp bs := by rw [← hW1]; exact hT.alloc _
    have hB1 : Below B w W1 := by rw [← hW1]; exact (Below.refl _ _).alloc hT.o4 _
    have c0 : W1.cell? ⟨w.heap.size, 0, none⟩ = some (.int .i64 x) := hbox.cell 0
    have c1 : W1.cell? ⟨w.heap.size, 1, none⟩ = some (.int .i64 y) := hbox.cell 1
    have c2 : W1.cell? ⟨w.heap.size, 2, none⟩ = some (.int .i64 z) := hbox.cell 2
    have hO1 : Lib.OthersKept 5 (some b) w W1 := by rw [← hW1]; exact (Lib.OthersKept.refl _ _ w).alloc _
    have hbs : w.heap.size ≠ b := by have := hT.lt; omega
    have HT1 := Lib.hid hT1
    have HB1 := Lib.hid hB1
    have HBX := Lib.hid hbox
    have HO1 := Lib.hid hO1
    rcases stepOk_num (hto i (by omega) _ q4) with ⟨h1, h2, h3, h4⟩ | ⟨h1, h2, h3, h4, h5⟩
    · simp only at h1 h2 h3 h4
      subst h1
      obtain ⟨yn, rfl⟩ := Int.eq_ofNat_of_zero_le h2
      have hy60 : (yn : Int) < 60 := by omega
      have htt := treT_cite q4
      have hl3 : (treT pp i).length = 3 := by rw [htt]; rfl
      have hcc := citT_cells (yn := yn) (by omega)
      have HTT := Lib.hid htt
      have CW := Lib.hid (bldWrite_any B b (Lib.byteCells bs) W1.heap.size 3 3 [.int .u8 103, .int .u8 (48 + (yn : Int) / 10), .int .u8 (48 + (yn : Int) % 10)] (W1.alloc (.cells #[.int .u8 103, .int .u8 (48 + (yn : Int) / 10), .int .u8 (48 + (yn : Int) % 10)] 5)) (hT1.alloc _).bl rfl
        (fun j u hu => by rw [(Blk.new W1 5 #[.int .u8 103, .int .u8 (48 + (yn : Int) / 10), .int .u8 (48 + (yn : Int) % 10)]).cell, List.getElem?_toArray]; exact hu) (by have := hT1.lt; omega) (by simp [Value.oneCell']) (by unfold Lib.byteCells; rw [List.length_map]; omega) (hT1.alloc _).o4)
      have HBC := Lib.hid (show Lib.byteCells bs ++ [.int .u8 103, .int .u8 (48 + (yn : Int) / 10), .int .u8 (48 + (yn : Int) % 10)] = Lib.byteCells (bs ++ treT pp i) from by rw [byteCells_append, htt, hcc])
      have HA := Lib.hid (hT1.alloc (.cells #[.int .u8 103, .int .u8 (48 + (yn : Int) / 10), .int .u8 (48 + (yn : Int) % 10)] 5))
      have HBA := Lib.hid (hB1.alloc (Nat.le_trans hT1.o4 (Nat.le_refl _)) (.cells #[.int .u8 103, .int .u8 (48 + (yn : Int) / 10), .int .u8 (48 + (yn : Int) % 10)] 5))
      have HOA := Lib.hid (hO1.alloc (.cells #[.int .u8 103, .int .u8 (48 + (yn : Int) / 10), .int .u8 (48 + (yn : Int) % 10)] 5))
      clear hT hT1 hB1 hbox q4 hlp ih h3 h4 hO1 htt hl3 hcc
      go_enter Try.func99, Try.ntmps99
      go_wp2_with (go_at_call 100; ((with_reducible refine CW.out.mono ?_); rintro e w5 ⟨rfl, hl5, hB5, hO5⟩))
      refine bodyPost_ret (results_none rfl _ _ _) rfl ?_
      rw [HBC.out] at hl5
      exact ⟨⟨_, rfl⟩, HA.out.step hB5 hO5 hl5, HBA.out.trans hB5, HOA.out.trans hO5⟩
    · simp only at h1 h2 h3 h4 h5
      subst h1
      obtain ⟨yn, rfl⟩ := Int.eq_ofNat_of_zero_le h2
      obtain ⟨zn, rfl⟩ := Int.eq_ofNat_of_zero_le h4
      have hyn : yn < i := by omega
      have hzn : zn < i := by omega
      have htt := treT_det q4 hyn hzn
      have hll : (treT pp i).length = (treT pp yn).length + (treT pp zn).length + 1 := by rw [htt]; simp
      have HTT := Lib.hid htt
      have CB := Lib.hid (bldByte_any B b (Lib.byteCells bs) 68 W1 hT1.bl (by unfold Lib.byteCells; rw [List.length_map]; omega) hT1.o4)
      have HBC := Lib.hid (show Lib.byteCells bs ++ [.int .u8 68] = Lib.byteCells (bs ++ [68]) from by rw [byteCells_append]; rfl)
      have CY := Lib.hid (fun (V : World) (hV : TrAt V Bp b d B (some ⟨b0, off0, none⟩) np cp pp (bs ++ [68])) => ih yn hyn (by omega) (bs ++ [68]) V hV (by rw [List.length_append, List.length_singleton]; omega))
      have CZ := Lib.hid (fun (V : World) (hV : TrAt V Bp b d B (some ⟨b0, off0, none⟩) np cp pp (bs ++ [68] ++ treT pp yn)) => ih zn hzn (by omega) (bs ++ [68] ++ treT pp yn) V hV (by rw [List.length_append, List.length_append, List.length_singleton]; omega))
      clear hT hT1 hB1 q4 hlp ih h3 h5 hO1 htt hll
      go_enter Try.func99, Try.ntmps99
      go_wp2_with (first
        | (go_at_call 101
           (with_reducible refine CB.out.mono ?_)
           rintro e w5 ⟨rfl, hl5, hB5, hO5⟩
           rw [HBC.out] at hl5
           have hT5 := HT1.out.step hB5 hO5 hl5
           have d5 := hT5.cd
           unfold trF at d5
           have hbx5 : Blk w5 w.heap.size 123 #[.int .i64 2, .int .i64 (yn : Int), .int .i64 (zn : Int)] := hO5 _ _ HBX.out (fun e => hbs (Option.some.inj e)) (fun c fz e => by cases e)
           have e51 := hbx5.cell 1
           have e52 := hbx5.cell 2
           simp only [List.getElem?_toArray, List.getElem?_cons_zero, List.getElem?_cons_succ] at e51 e52
           have HT5 := Lib.hid hT5
           have HX5 := Lib.hid hbx5
           have HB5 := Lib.hid (HB1.out.trans hB5)
           have HO5 := Lib.hid (HO1.out.trans hO5)
           clear hT5 hbx5 hB5 hO5 hl5)
        | (go_at_call 99
           (with_reducible refine (CZ.out _ HT6.out).mono ?_)
           rintro e w7 ⟨⟨v7, rfl⟩, hT7, hB7, hO7⟩
           have HT7 := Lib.hid hT7
           have HB7 := Lib.hid (HB6.out.trans hB7)
           have HO7 := Lib.hid (HO6.out.trans hO7)
           clear hT7 hB7 hO7)
        | (go_at_call 99
           (with_reducible refine (CY.out _ HT5.out).mono ?_)
           rintro e w6 ⟨⟨v6, rfl⟩, hT6, hB6, hO6⟩
           have d6 := hT6.cd
           unfold trF at d6
           have hbx6 : Blk w6 w.heap.size 123 #[.int .i64 2, .int .i64 (yn : Int), .int .i64 (zn : Int)] := hO6 _ _ HX5.out (fun e => hbs (Option.some.inj e)) (fun c fz e => by cases e)
           have e62 := hbx6.cell 2
           simp only [List.getElem?_toArray, List.getElem?_cons_zero, List.getElem?_cons_succ] at e62
           have HT6 := Lib.hid hT6
           have HB6 := Lib.hid (HB5.out.trans hB6)
           have HO6 := Lib.hid (HO5.out.trans hO6)
           clear hT6 hbx6 hB6 hO6))
      go_end0
      refine ⟨⟨_, rfl⟩, ?_, HB7.out, HO7.out⟩
      have h := HT7.out
      rw [HTT.out]
      simpa using h

end Go.Proofs.Ytippmpcaongolaa

namespace Go.Proofs.Ytippmpcaongolaa
open Go.RowKit

/-- A text and an error are handed back. -/
def RetX (w : World) (z : List UInt8 × Int) (e : Ending) (w' : World) : Prop := e = .returned (.tuple #[.string ⟨z.1.toArray⟩, .int .i64 z.2]) ∧ Below w.heap.size w w'

set_option maxRecDepth 100000 in
set_option maxHeartbeats 1000000 in
theorem treeSize_any (g : Int) (A : Option Addr) (n c : Nat) (pp : List Stp) (w : World) (hp : StepsAt w w.heap.size A n pp) (hok : proofOk g pp = true) :
    Calls Try.prog 98 #[.slice A n c] w fun e w' => e = .returned (.int .i64 ((treT pp (n - 1)).length : Int)) ∧ Below w.heap.size w w' := by
  obtain ⟨_, hl60, hto⟩ := proofOk_to hok
  have hlp := hp.len
  have CC := Lib.hid (counted_any g A n c pp w hp hok)
  have hat := mesL_at cntF pp (show n - 1 < n by omega)
  have hb := cnt_small hto (k := n) (j := n - 1) (by omega) (by omega) (by omega)
  have hsz := size_len hto (show n - 1 < pp.length by omega)
  unfold cntT at hsz
  rw [← hat] at hsz
  obtain ⟨R, hR⟩ : ∃ R, (mesL cntF pp n).getD (n - 1) 0 = R := ⟨_, rfl⟩
  rw [hR] at CC hb hsz
  obtain ⟨hb1, hb2⟩ := hb
  have HSZ := Lib.hid hsz
  clear hp hok hl60 hto hlp hat hsz hR
  go_enter Try.func98, Try.ntmps98
  go_wp2_with (go_at_call 108; ((with_reducible refine CC.out.mono ?_); rintro e w1 ⟨rfl, hB1⟩; have HB1 := Lib.hid hB1; clear hB1))
  go_ret
  exact ⟨by rw [← HSZ.out]; rfl, HB1.out⟩

set_option maxRecDepth 100000 in
set_option maxHeartbeats 2000000 in
theorem tree_any (g : Int) (A : Option Addr) (n c : Nat) (pp : List Stp) (w : World) (hp : StepsAt w w.heap.size A n pp) :
    Calls Try.prog 51 #[.int .i64 g, .slice A n c] w (RetX w (treZ g pp)) := by
  obtain ⟨W1, hW1⟩ : ∃ W1, w.alloc (.cells #[.slice A n c] 50) = W1 := ⟨_, rfl⟩
  have hB1 : Below w.heap.size w W1 := by rw [← hW1]; exact bel_al0 _ _
  have hbx : Blk W1 w.heap.size 50 #[.slice A n c] := by rw [← hW1]; exact Blk.new _ _ _
  have c0 : W1.cell? ⟨w.heap.size, 0, none⟩ = some (.slice A n c) := hbx.cell 0
  have CV := Lib.hid (validProof_any g A n c pp W1 (hp.up hB1))
  have HB1 := Lib.hid hB1
  have HBX := Lib.hid hbx
  cases hv : proofOk g pp
  · rw [hv] at CV
    rw [show treZ g pp = ([], 1) from by unfold treZ; rw [hv]; rfl]
    clear hv hp hB1 hbx
    go_enter Try.func51, Try.ntmps51
    go_wp2_with (go_at_call 89; ((with_reducible refine CV.out.mono ?_); rintro e w2 ⟨rfl, hB2⟩; have HB2 := Lib.hid (below_then HB1.out hB2); clear hB2))
    go_ret2
    exact ⟨rfl, HB2.out⟩
  · rw [hv] at CV
    obtain ⟨hg0, hl60, hto⟩ := proofOk_to hv
    have hlp := hp.len
    obtain ⟨m, rfl⟩ : ∃ m, n = m + 1 := ⟨n - 1, by omega⟩
    have hm60 : m + 1 ≤ 60 := by omega
    have CS := Lib.hid (fun (V : World) (hV : Below W1.heap.size W1 V) => treeSize_any g A (m + 1) c pp V ((hp.up hB1).up hV) hv)
    have hz : treZ g pp = if (treT pp m).length > 65536 then ([], 3) else (treT pp m, 0) := by unfold treZ; rw [if_pos hv, ← hlp, Nat.add_sub_cancel]
    rw [hz]
    have HP := Lib.hid hp
    have CT := Lib.hid (fun (V : World) (Bp b d B : Nat) (h : TrAt V Bp b d B A (m + 1) c pp []) (hl : (treT pp m).length ≤ 100000) => tree1_any g hg0.2 Bp b d B A (m + 1) c pp hto hm60 m (by omega) [] V h (by simpa using hl))
    rw [Nat.add_sub_cancel] at CS
    obtain ⟨T, hT⟩ : ∃ T, treT pp m = T := ⟨_, rfl⟩
    rw [hT] at CS CT ⊢
    by_cases hlong : T.length > 65536
    · rw [if_pos hlong]
      have hl1 : (65536 : Int) < (T.length : Int) := by omega
      clear hv hp hB1 hbx hg0 hl60 hto hlp hz hT hlong CT
      go_enter Try.func51, Try.ntmps51
      go_wp2_with (first
        | (go_at_call 89; ((with_reducible refine CV.out.mono ?_); rintro e w2 ⟨rfl, hB2⟩; have c2 := (hB2.cell (p := ⟨w.heap.size, 0, none⟩) HBX.out.lt).trans (HBX.out.cell 0); simp only [List.getElem?_toArray, List.getElem?_cons_zero] at c2; have HB12 := Lib.hid hB2; have HB2 := Lib.hid (below_then HB1.out hB2); clear hB2))
        | (go_at_call 98; ((with_reducible refine (CS.out _ HB12.out).mono ?_); rintro e w3 ⟨rfl, hB3⟩; have HB3 := Lib.hid (below_then HB2.out hB3); clear hB3)))
      go_ret2
      exact ⟨rfl, HB3.out⟩
    · rw [if_neg hlong]
      have hl1 : (T.length : Int) ≤ 65536 := by omega
      have hl2 : T.length ≤ 100000 := by omega
      clear hv hp hB1 hbx hg0 hl60 hto hlp hz hT hlong
      go_enter Try.func51, Try.ntmps51
      go_wp2_with (first
        | (go_at_call 89; ((with_reducible refine CV.out.mono ?_); rintro e w2 ⟨rfl, hB2⟩; have c2 := (hB2.cell (p := ⟨w.heap.size, 0, none⟩) HBX.out.lt).trans (HBX.out.cell 0); simp only [List.getElem?_toArray, List.getElem?_cons_zero] at c2; have HB12 := Lib.hid hB2; have HB2 := Lib.hid (below_then HB1.out hB2); clear hB2))
        | (go_at_call 98
           (with_reducible refine (CS.out _ HB12.out).mono ?_)
           rintro e w3 ⟨rfl, hB3⟩
           have c3 := (hB3.cell (p := ⟨w.heap.size, 0, none⟩) (cell_lt c2)).trans c2
           have hw3 := cell_lt c3
           have h3 : w.heap.size < w3.heap.size := hw3
           have c5 : ((w3.alloc (.cells #[.pointer none, .slice none 0 0] 120)).alloc (.cells #[.func (.func 99) #[] #[.pointer (some ⟨w.heap.size, 0, none⟩), .pointer (some ⟨w3.heap.size, 0, none⟩), .pointer (some ⟨w3.heap.size + 1, 0, none⟩)]] 121)).cell? ⟨w.heap.size, 0, none⟩ = some (.slice A (m + 1) c) := (alloc_keep _ _ _ (by rw [World.size_alloc]; show w.heap.size < _; omega)).trans ((alloc_keep _ _ _ hw3).trans c3)
           have hfn : ((w3.alloc (.cells #[.pointer none, .slice none 0 0] 120)).alloc (.cells #[trF w.heap.size w3.heap.size (w3.heap.size + 1)] 121)).heap[w3.heap.size + 1]? = some (.cells #[trF w.heap.size w3.heap.size (w3.heap.size + 1)] 121 (0, 0)) := by
             have h := heap_alloc_new (w3.alloc (.cells #[.pointer none, .slice none 0 0] 120)) (.cells #[trF w.heap.size w3.heap.size (w3.heap.size + 1)] 121)
             rw [World.size_alloc] at h
             exact h
           have hB5 : Below w.heap.size w ((w3.alloc (.cells #[.pointer none, .slice none 0 0] 120)).alloc (.cells #[trF w.heap.size w3.heap.size (w3.heap.size + 1)] 121)) := bel_al (bel_al (below_then HB2.out hB3) _) _
           have HTA := Lib.hid (show TrAt ((w3.alloc (.cells #[.pointer none, .slice none 0 0] 120)).alloc (.cells #[trF w.heap.size w3.heap.size (w3.heap.size + 1)] 121)) w.heap.size w3.heap.size (w3.heap.size + 1) w3.heap.size A (m + 1) c pp [] from
             ⟨h3, Nat.le_refl _, by omega, by simp only [World.size_alloc]; omega, c5, HP.out.keep (fun p hp => hB5.cell hp), hfn, Lib.IsBuilderF.alloc (Lib.IsBuilderF.of (Lib.fresh_isBuilder 120 5 w3)) _⟩)
           have HB5 := Lib.hid hB5
           clear hfn hB5 hw3 h3 c3
           have HB13 := Lib.hid (below_then HB12.out hB3)
           have HB3 := Lib.hid (below_then HB2.out hB3)
           clear hB3)
        | (go_at_call 99
           (with_reducible refine (CT.out _ _ _ _ _ HTA.out hl2).mono ?_)
           rintro e w6 ⟨⟨v6, rfl⟩, hT6, hB6, _⟩
           have HT6 := Lib.hid hT6
           have HB6 := Lib.hid (HB5.out.trans (hB6.mono HB3.out.size))
           clear hT6 hB6)
        | (go_at_call 102
           (with_reducible refine (bldString_any w3.heap.size w3.heap.size ([] ++ T) _ HT6.out.bl HT6.out.o4).mono ?_)
           rintro e w7 ⟨rfl, hB7⟩
           have HB7 := Lib.hid (HB6.out.trans (hB7.mono HB3.out.size))
           clear hB7))
      go_ret2
      exact ⟨rfl, HB7.out⟩

end Go.Proofs.Ytippmpcaongolaa
