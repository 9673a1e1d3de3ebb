/- Contract: the reference's Compare; the statement's Small. -/
import Derived.Test.YtcegbmibpkopaaaC1g
import Derived.RangeFuncNested
import Derived.RangeFuncBound
import Derived.RangeFuncCalls
import Derived.RangeFuncLeaves
import Derived.Shelf.Abstract
import Derived.Shelf.RegionOpen
import Derived.OwnWalkIn
import Derived.TacticsInMore
import Derived.LoopNIn
import Derived.LoopIn
import Derived.Deep.RegionHeld3
import Derived.Deep.AppendLies
import Derived.Laws.EntriesVeiled
import Derived.Test.YtcegbmibpkopaaaW0g
/- The iterator over the parts of a term: words. -/
namespace Go.Proofs.Ytcegbmibpkopaaa
open Go.RowKit

/-- What lay below n₀ lies as it lay, and so do all cells beyond, but those of X. -/
structure KP (n₀ : Nat) (X : Nat → Obj → Prop) (W W' : World) : Prop where
  below : Below n₀ W W'
  keep : ∀ b o, n₀ ≤ b → W.heap[b]? = some o → o.isCells = true → ¬ X b o → W'.heap[b]? = some o
variable {n₀ m₀ : Nat} {X : Nat → Obj → Prop}
theorem KP.refl (W : World) : KP n₀ X W W := ⟨Below.refl _ _, fun _ _ _ h _ _ => h⟩
theorem KP.trans {A B C : World} (h : KP n₀ X A B) (k : KP n₀ X B C) : KP n₀ X A C :=
  ⟨h.below.trans k.below, fun b o hb ho hc hx => k.keep b o hb (h.keep b o hb ho hc hx) hc hx⟩
theorem KP.of_below {W W' : World} (h : Below W.heap.size W W') (hn : n₀ ≤ W.heap.size) : KP n₀ X W W' :=
  ⟨h.mono hn, fun b _o _ ho _ _ => (h.block b (Array.getElem?_eq_some_iff.1 ho).1).trans ho⟩
theorem KP.putObj {w : World} (hn : n₀ ≤ w.heap.size) (W : World) (l : Nat) (o o' : Obj) (hl : w.heap.size ≤ l) (h : W.heap[l]? = some o) (hc : o.isCells = false) : KP n₀ X W (W.putObj l o') := by
  refine ⟨(Below.refl n₀ W).grown (grownBy_putObj' W l o') (by have := (Array.getElem?_eq_some_iff.1 h).1; omega) (fun k e => by cases e; omega), fun b o2 _ ho2 hc2 _ => ?_⟩
  refine (World.putObj_heap_other ?_).trans ho2
  rintro rfl
  rw [h] at ho2
  cases ho2
  rw [hc] at hc2
  cases hc2
theorem KP.blk {W W' : World} {b : Nat} {t : TypeId} {cs : Array Value} (h : KP n₀ X W W') (hb : Blk W b t cs) (hn : n₀ ≤ b) (hx : ¬ X b (.cells cs t (0, 0))) : Blk W' b t cs := h.keep b _ hn hb rfl hx

/-- A part: its path, where it begins in its block, and its numbers. -/
abbrev It := List Nat × Nat × List Int
/-- A value that leads into block bt. -/
def Into (bt : Nat) (v : Value) : Prop := ∃ off n c, v = .slice (some ⟨bt, off, none⟩) n c
/-- What is handed to the loop: the path's slice; the part's capacity; the part. -/
structure Pt where
  A : Option Addr
  c : Nat
  cp : Nat
  it : It
def Pt.encs (bt : Nat) (x : Pt) : Array Value := #[.slice x.A x.it.1.length x.c, .slice (some ⟨bt, x.it.2.1, none⟩) x.it.2.2.length x.cp]

/-- The parts of a term, the whole before its parts, earlier arguments first. -/
def walkL (ss : Sg) : Nat → List Nat → Nat → List Int → List It
  | 0, _, _, _ => []
  | f + 1, p, o, zs => (p, o, zs) :: (List.range (arOf ss (zs.headD 0))).flatMap fun k => walkL ss f (p ++ [k]) (o + pos ss zs k) (argL ss zs k)

/-- The slice '.slice A p.length c' holds the path p, in a block of ints of its own. -/
def PathIn (m₀ : Nat) (X : Nat → Obj → Prop) (W : World) (A : Option Addr) (c : Nat) (p : List Nat) : Prop :=
  (p = [] ∧ A = none ∧ c = 0) ∨ (p ≠ [] ∧ ∃ b cs, A = some ⟨b, 0, none⟩ ∧ m₀ ≤ b ∧ Blk W b 3 cs ∧ ¬ X b (.cells cs 3 (0, 0)) ∧ ∀ j (h : j < p.length), cs[j]? = some (.int .i64 (p[j] : Nat)))
theorem PathIn.keep {W W' : World} {A : Option Addr} {c : Nat} {p : List Nat} (h : PathIn m₀ X W A c p) (hn : n₀ ≤ m₀) (hk : KP n₀ X W W') : PathIn m₀ X W' A c p := by
  rcases h with h | ⟨h1, b, cs, h2, h3, h4, h5, h6⟩
  · exact .inl h
  · exact .inr ⟨h1, b, cs, h2, h3, hk.blk h4 (by omega) h5, h5, h6⟩

def PartIn (W : World) (bt o : Nat) (zs : List Int) : Prop := ∀ j (h : j < zs.length), W.cell? ⟨bt, o + j, none⟩ = some (.int .i64 zs[j])
theorem PartIn.keep {W W' : World} {bt o : Nat} {zs : List Int} (h : PartIn W bt o zs) (hb : bt < n₀) (hk : KP n₀ X W W') : PartIn W' bt o zs :=
  fun j hj => (hk.below.cell (p := ⟨bt, o + j, none⟩) hb).trans (h j hj)
theorem PartIn.ints {W : World} {bt o : Nat} {zs : List Int} (h : PartIn W bt o zs) (hb : bt < W.heap.size) (hm : zs.length ≤ 1000000) : IntsAt W W.heap.size (some ⟨bt, o, none⟩) zs.length zs :=
  ⟨rfl, by omega, fun _ => ⟨bt, o, rfl, hb, h⟩⟩
theorem PartIn.arg {W : World} {bt o : Nat} {ss : Sg} {zs : List Int} {k : Nat} (h : PartIn W bt o zs) : PartIn W bt (o + pos ss zs k) (argL ss zs k) := by
  intro j hj
  have hj2 : pos ss zs k + j < zs.length := by
    unfold argL at hj
    rw [List.length_take, List.length_drop] at hj
    omega
  have := h (pos ss zs k + j) hj2
  rw [Nat.add_assoc, this]
  congr 2
  simp [argL]

/-- What a round may know of what it is handed. -/
structure PtIn (m₀ : Nat) (X : Nat → Obj → Prop) (ss : Sg) (bt : Nat) (W : World) (x : Pt) : Prop where
  path : PathIn m₀ X W x.A x.c x.it.1
  plen : x.it.1.length ≤ 1000
  part : PartIn W bt x.it.2.1 x.it.2.2
  len : 1 ≤ x.it.2.2.length ∧ x.it.2.2.length ≤ 60 ∧ x.it.2.2.length ≤ x.cp ∧ x.cp ≤ 9223372036854775807
  heads : HeadsOk ss x.it.2.2
  scan : scan ss 1 x.it.2.2 = some []
theorem PtIn.keep {ss : Sg} {bt : Nat} {W W' : World} {x : Pt} (h : PtIn m₀ X ss bt W x) (hn : n₀ ≤ m₀) (hb : bt < n₀) (hk : KP n₀ X W W') : PtIn m₀ X ss bt W' x :=
  ⟨h.path.keep hn hk, h.plen, h.part.keep hb hk, h.len, h.heads, h.scan⟩

/-- The closure's captured variables. -/
structure Ctx (n₀ l By Bs Bw : Nat) (As : Option Addr) (ns cs : Nat) (ss : Sg) (W : World) : Prop where
  y : Blk W By 154 #[.func (.yield l) #[] #[]]
  s : Blk W Bs 23 #[.slice As ns cs]
  w : Blk W Bw 154 #[.func (.func 168) #[] #[.pointer (some ⟨By, 0, none⟩), .pointer (some ⟨Bs, 0, none⟩), .pointer (some ⟨Bw, 0, none⟩)]]
  sig : SigAt W n₀ As ns ss
  size : n₀ ≤ W.heap.size
/-- .. and none of them is turned by a round. -/
structure Fix (n₀ : Nat) (X : Nat → Obj → Prop) (By Bs Bw : Nat) : Prop where
  y : n₀ ≤ By ∧ ∀ cs, ¬ X By (.cells cs 154 (0, 0))
  s : n₀ ≤ Bs ∧ ∀ cs, ¬ X Bs (.cells cs 23 (0, 0))
  w : n₀ ≤ Bw ∧ ∀ cs, ¬ X Bw (.cells cs 154 (0, 0))
theorem Ctx.keep {l By Bs Bw : Nat} {As : Option Addr} {ns cs : Nat} {ss : Sg} {W W' : World} (h : Ctx n₀ l By Bs Bw As ns cs ss W) (hF : Fix n₀ X By Bs Bw) (hk : KP n₀ X W W') : Ctx n₀ l By Bs Bw As ns cs ss W' :=
  ⟨hk.blk h.y hF.y.1 (hF.y.2 _), hk.blk h.s hF.s.1 (hF.s.2 _), hk.blk h.w hF.w.1 (hF.w.2 _), h.sig.below hk.below, Nat.le_trans h.size hk.below.size⟩


def pv (k : Nat) : Value := .int .i64 (k : Int)
theorem PathIn.lt {W : World} {A : Option Addr} {c : Nat} {p : List Nat} (h : PathIn m₀ X W A c p) (hp : p ≠ []) : ∃ b cs, A = some ⟨b, 0, none⟩ ∧ b < W.heap.size ∧ Blk W b 3 cs ∧ ∀ j (h : j < p.length), cs[j]? = some (.int .i64 (p[j] : Nat)) := by
  rcases h with ⟨h, _⟩ | ⟨h1, b, cs, h2, h3, h4, h5, h6⟩
  · exact absurd h hp
  · exact ⟨b, cs, h2, h4.lt, h4, h6⟩
theorem cloneP {W : World} {A : Option Addr} {c : Nat} {p : List Nat} (h : PathIn m₀ X W A c p) (hpl : p.length ≤ 1000) :
    Calls Try.prog 170 #[.slice A p.length c] W fun e W' => ∃ v, e = .returned v ∧ W'.ownsRow W.heap.size 3 1 v p.length (p.map pv) ∧ Below W.heap.size W W' := by
  by_cases hp : p = []
  · subst hp
    rcases h with ⟨_, rfl, rfl⟩ | ⟨h1, _⟩
    · exact cloneI_nil W
    · exact absurd rfl h1
  · obtain ⟨b, cs, rfl, hb, hB, hc⟩ := h.lt hp
    have hl : 1 ≤ p.length := by cases p with
      | nil => exact absurd rfl hp
      | cons x r => simp
    have := cloneI_any W b 0 p.length c (p.map (fun k : Nat => (k : Int))) hl (by omega) (by simp) (fun j hj => by
      rw [Nat.zero_add, hB.cell, hc j (by simpa using hj)]; simp) hb
    refine this.mono ?_
    rintro e W' ⟨v, rfl, h1, h2⟩
    simp only [List.map_map, List.length_map] at h1
    exact ⟨v, rfl, h1, h2⟩
theorem path_of_row {W : World} {base g cap : Nat} {p : List Nat} {k : Nat} (h : W.ownsRow base 3 1 (.slice (some ⟨g, 0, none⟩) (p.length + 1) cap) (p.length + 1) (p.map pv ++ [pv k])) (hb : m₀ ≤ base) (hX3 : ∀ b cs z, m₀ ≤ b → ¬ X b (.cells cs 3 z)) :
    PathIn m₀ X W (some ⟨g, 0, none⟩) cap (p ++ [k]) := by
  obtain ⟨hl, h0 | ⟨g', cap', cur, he, hbg, hcur, hn1, hn2, hsz, htk⟩⟩ := h
  · cases h0.1
  · cases he
    refine .inr ⟨by simp, g, cur, rfl, by omega, hcur, hX3 _ _ _ (by omega), fun j hj => ?_⟩
    have hj' : j < (p.length + 1) * 1 := by simpa using hj
    have e1 : cur.toList[j]? = (cur.toList.take ((p.length + 1) * 1))[j]? := by rw [List.getElem?_take, if_pos hj']
    rw [← Array.getElem?_toList, e1, htk]
    have e2 : p.map pv ++ [pv k] = (p ++ [k]).map pv := by simp
    rw [e2, List.getElem?_map, List.getElem?_eq_getElem hj]
    rfl

end Go.Proofs.Ytcegbmibpkopaaa

/- The iterator over the parts of a term: the recursive closure. -/
namespace Go.Proofs.Ytcegbmibpkopaaa
open Go.RowKit Go.Shelf
attribute [local go_sem] Oper.semAt_some

theorem room_any {F : Fence} (hd : F.depth = none) (k : Nat) : F.room k := fun d h => by rw [hd] at h; cases h
theorem YieldAt.any {F : Fence} (hd : F.depth = none) {m : Nat} (m' : Nat) {P : Program} {l : Nat} {args : Array Value} {W : World} {R : Ending → World → Prop} (h : YieldAt F m P l args W R) : YieldAt F m' P l args W R := by
  obtain ⟨fn, tmps, assign, body, hy, hR⟩ := h
  exact ⟨fn, tmps, assign, body, hy, ⟨hR.1, fun c cs _ => hR.2 c cs (room_any hd _)⟩⟩

def WPost (n₀ : Nat) (X : Nat → Obj → Prop) (J : List Pt → World → Prop) (pre : List Pt) (W : World) (its : List It) (e : Ending) (W' : World) : Prop :=
  e = .returned (.bool true) ∧ ∃ xs, xs.map Pt.it = its ∧ J (pre ++ xs) W' ∧ KP n₀ X W W'

theorem acells_into (ss : Sg) (zs : List Int) (bt o r : Nat) : ∀ v ∈ (acells ss zs bt o r r).toList, Into bt v := by
  intro v hv
  unfold acells at hv
  rw [Nat.sub_self, List.replicate_zero, List.append_nil] at hv
  obtain ⟨i, _, rfl⟩ := List.mem_map.1 hv
  exact ⟨_, _, _, rfl⟩

set_option maxRecDepth 100000 in
set_option maxHeartbeats 2000000 in
theorem tour_in (n₀ m₀ l bt By Bs Bw N : Nat) (X : Nat → Obj → Prop) (As : Option Addr) (ns cs : Nat) (ss : Sg) (J : List Pt → World → Prop) (hnm : n₀ ≤ m₀) (hbt : bt < n₀) (har : ArOk ss) (hns : 1 ≤ ns) (hns2 : ns ≤ 12)
    (hX3 : ∀ b cs z, m₀ ≤ b → ¬ X b (.cells cs 3 z)) (hX25 : ∀ b cs z, m₀ ≤ b → (∀ v ∈ cs.toList, Into bt v) → ¬ X b (.cells cs 25 z)) (hfix : Fix n₀ X By Bs Bw)
    (hJ : ∀ pre W W', J pre W → m₀ ≤ W.heap.size → Below W.heap.size W W' → J pre W')
    (hY : ∀ m pre x W, J pre W → PtIn m₀ X ss bt W x → pre.length < N → YieldAt Fence.wide m Try.prog l (x.encs bt) W fun e W' =>
      e = .returned (.bool true) ∧ J (pre ++ [x]) W' ∧ KP n₀ X W W') :
    ∀ (f : Nat) (zs : List Int) (p : List Nat) (o n : Nat) (A : Option Addr) (c cp : Nat) (pre : List Pt) (W : World), zs.length ≤ f → 1 ≤ zs.length → zs.length ≤ 60 → zs.length ≤ cp → cp ≤ 9223372036854775807 → p.length + f ≤ 1000 → HeadsOk ss zs → scan ss 1 zs = some [] →
      Ctx n₀ l By Bs Bw As ns cs ss W → m₀ ≤ W.heap.size → PathIn m₀ X W A c p → PartIn W bt o zs → J pre W → pre.length + (walkL ss f p o zs).length ≤ N →
      CallsIn Fence.wide n Try.prog 168 #[.slice A p.length c, .slice (some ⟨bt, o, none⟩) zs.length cp, .pointer (some ⟨By, 0, none⟩), .pointer (some ⟨Bs, 0, none⟩), .pointer (some ⟨Bw, 0, none⟩)] W
        (WPost n₀ X J pre W (walkL ss f p o zs)) := by
  intro f
  induction f with
  | zero => intro zs p o n A c cp pre W h1 h2; omega
  | succ f ih =>
    intro zs p o n A c cp pre W hf h1 h60 hcp hcp2 hpl hh hscan hctx hm hpath hpart hJ0 hN
    have hN1 : pre.length < N := by
      have : 1 ≤ (walkL ss (f + 1) p o zs).length := by simp [walkL]
      omega
    obtain ⟨fn, tmps, assign, body, hy, hR⟩ := hY (n - 1) pre ⟨A, c, cp, (p, o, zs)⟩ W hJ0 ⟨hpath, by show p.length ≤ 1000; omega, hpart, ⟨h1, h60, hcp, hcp2⟩, hh, hscan⟩ hN1
    have cy := hctx.y.cell 0
    have hy' : (Instr.yield l #[.slice A p.length c, .slice (some ⟨bt, o, none⟩) zs.length cp]).run Try.prog W = .ok (.round l fn tmps assign body) W := hy
    have HCTX := Lib.hid hctx
    have HIH := Lib.hid ih
    have HSC := Lib.hid hscan
    have HHH := Lib.hid hh
    have HJ := Lib.hid hJ
    have HY := Lib.hid hY
    have HPATH := Lib.hid hpath
    have HPART := Lib.hid hpart
    have HX3 := Lib.hid hX3
    have HX25 := Lib.hid hX25
    have HRR := Lib.hid (hR.mono (R' := fun e W1 => e = .returned (.bool true) ∧ J (pre ++ [⟨A, c, cp, (p, o, zs)⟩]) W1 ∧ KP n₀ X W W1 ∧ W1.cell? ⟨Bs, 0, none⟩ = some (.slice As ns cs))
      (fun e W1 ⟨a1, a2, a3⟩ => ⟨a1, a2, a3, (hctx.keep hfix a3).s.cell 0⟩))
    have HAR := Lib.hid har
    clear hctx ih hscan hh hJ hY hpath hpart hX3 hX25 hy hR hJ0 har
    have hl0 : 0 < zs.length := by omega
    have hsign := HCTX.out.sig
    have hhd : zs.headD 0 = zs[0] := by cases zs with
      | nil => simp at hl0
      | cons z r => rfl
    have hpre : ∀ (xs : List Pt), pre ++ (⟨A, c, cp, (p, o, zs)⟩ :: xs) = (pre ++ [⟨A, c, cp, (p, o, zs)⟩]) ++ xs := fun xs => by simp
    by_cases hneg : zs[0] < 0
    · have hw : walkL ss (f + 1) p o zs = [(p, o, zs)] := by
        simp only [walkL, hhd, arOf, hneg, if_true, List.range_zero, List.flatMap_nil]
      have HW := Lib.hid hw
      have HC0 := Lib.hid (fun W1 (hK : KP n₀ X W W1) => (HPART.out.keep hbt hK) 0 hl0)
      obtain ⟨z, hz⟩ : ∃ z, zs[0] = z := ⟨_, rfl⟩
      rw [hz] at hneg HC0
      clear hw hhd hsign hN hpre hz
      refine callsIn_of_wp Try.func168 rfl trivial ?_ rfl
      simp only [Try.ntmps168, List.size_toArray, List.length_cons, List.length_nil, Nat.reduceAdd, Nat.reduceSub, Array.replicate_succ, Array.replicate_zero, List.push_toArray, List.append_toArray, List.nil_append, List.cons_append]
      gi_wp2_with (first
        | (refine ⟨trivial, fun h => (by cases h), ?_⟩; gi_at_call 169; refine (callsIn_wide.2 (arguments_var As ns cs bt o zs.length cp z W1 h1 (HC0.out W1 hK1) hneg)).mono ?_; rintro e W2 ⟨rfl, rfl⟩)
        | ((try refine ⟨fun h => (by cases h), ?_⟩); refine HRR.out.mono ?_; rintro e W1 ⟨rfl, hJ1, hK1, hcs1⟩))
      gi_loop [19] (fun i => i = .int .i64 0) (fun _ => 0)
      case atStart => rfl
      case round =>
        subst hrel
        gi_wp2
        go_ret
        exact ⟨rfl, [⟨A, c, cp, (p, o, zs)⟩], by rw [HW.out]; rfl, hJ1, hK1⟩
    · have hin := List.getElem_mem hl0
      have hzl := HHH.out _ hin
      obtain ⟨q, hq⟩ : ∃ q : Nat, zs[0] = (q : Int) := ⟨zs[0].toNat, by omega⟩
      rw [hq] at hzl
      have hqs : q < ss.length := by omega
      obtain ⟨ha0, ha3⟩ := HAR.out _ (List.getElem_mem hqs)
      obtain ⟨r, hr⟩ : ∃ r : Nat, ss[q].2 = (r : Int) := ⟨ss[q].2.toNat, by omega⟩
      rw [hr] at ha3
      have hr3 : r ≤ 3 := by omega
      have har1 : arOf ss zs[0] = r := by rw [hq, arOf_at hqs, hr, Int.toNat_natCast]
      have hrest : scan ss r (zs.drop 1) = some [] := by rw [← har1]; exact scan_head HSC.out hl0
      have hw : walkL ss (f + 1) p o zs = (p, o, zs) :: (List.range r).flatMap fun k => walkL ss f (p ++ [k]) (o + pos ss zs k) (argL ss zs k) := by
        simp only [walkL, hhd, har1]
      have HC := Lib.hid (fun W1 (hK : KP n₀ X W W1) => arguments_sym As ns cs bt o zs.length cp q r ss zs W1 ((HCTX.out.keep hfix hK).sig.more (HCTX.out.keep hfix hK).size) ((HPART.out.keep hbt hK).ints (by have := (HCTX.out.keep hfix hK).size; omega) (by omega)) HAR.out hns hns2 h1 h60 hcp hcp2 HHH.out HSC.out (by rw [List.getElem?_eq_getElem hl0, hq]) (by rw [List.getElem?_eq_getElem hqs]; simp [hr]))
      have HW := Lib.hid hw
      have HREST := Lib.hid hrest
      clear hw hhd hsign hpre hq hr har1 hrest hzl hin ha0 ha3 hneg
      refine callsIn_of_wp Try.func168 rfl trivial ?_ rfl
      simp only [Try.ntmps168, List.size_toArray, List.length_cons, List.length_nil, Nat.reduceAdd, Nat.reduceSub, Array.replicate_succ, Array.replicate_zero, List.push_toArray, List.append_toArray, List.nil_append, List.cons_append]
      gi_wp2_with (first
        | (refine ⟨trivial, fun h => (by cases h), ?_⟩; gi_at_call 169; refine (callsIn_wide.2 (HC.out W1 hK1)).mono ?_; rintro e W2 ⟨rfl, hB2, hF2⟩)
        | ((try refine ⟨fun h => (by cases h), ?_⟩); refine HRR.out.mono ?_; rintro e W1 ⟨rfl, hJ1, hK1, hcs1⟩))
      · refine wpIn_wide.2 ?_
        have hm1 : m₀ ≤ W1.heap.size := Nat.le_trans hm hK1.below.size
        have hJ2 := HJ.out _ _ _ hJ1 hm1 hB2
        have hK2 := hK1.trans (KP.of_below (X := X) hB2 (by omega))
        have HJ2 := Lib.hid hJ2
        have HK2 := Lib.hid hK2
        have HF2 := Lib.hid hF2
        obtain ⟨Na, hNa⟩ : ∃ Na, W1.heap.size = Na := ⟨_, rfl⟩
        rw [hNa] at hm1 HF2
        rw [hNa]
        clear hJ1 hK1 hB2 hF2 hJ2 hK2 hcs1 hNa
        go_loopw [19] (fun i wr => ∃ (k : Nat) (xs : List Pt), k ≤ r ∧ i = .int .i64 k ∧ xs.map Pt.it = (List.range k).flatMap (fun k => walkL ss f (p ++ [k]) (o + pos ss zs k) (argL ss zs k)) ∧ J (pre ++ [⟨A, c, cp, (p, o, zs)⟩] ++ xs) wr ∧ KP n₀ X W2 wr) (fun i _ => r - (intOf i).toNat)
        case atStart => exact ⟨0, [], Nat.zero_le _, rfl, rfl, by simpa using HJ2.out, KP.refl _⟩
        case round =>
          obtain ⟨k, xs, hk, rfl, hxs, hJr, hKr⟩ := hrel
          by_cases hlt : k < r
          · obtain ⟨hs1, hs2, hs3⟩ := pos_step HREST.out h1 hlt
            obtain ⟨_, hs4, _⟩ := pos_scan HREST.out h1 (Nat.le_of_lt hlt)
            obtain ⟨_, _, hs5⟩ := pos_scan HREST.out h1 (show k + 1 ≤ r from hlt)
            obtain ⟨ha1, ha2⟩ := argL_ok HREST.out h1 hlt
            have hKW := HK2.out.trans hKr
            have hctx := HCTX.out.keep hfix hKW
            have hpath := HPATH.out.keep hnm hKW
            have hpart := (HPART.out.keep hbt hKW).arg (ss := ss) (k := k)
            have hFr := hKr.blk HF2.out (by omega) (HX25.out _ _ _ hm1 (acells_into ss zs bt o r))
            have cw := hctx.w.cell 0
            have hBwlt := hctx.w.lt
            have cA := (hFr.cell k).trans (acells_all ss zs bt o r hlt)
            unfold argV at cA
            rw [← ha2] at cA
            have hmr : m₀ ≤ wr.heap.size := Nat.le_trans hm hKW.below.size
            have HS1 := Lib.hid ha1
            have HL := Lib.hid ha2
            have HPA := Lib.hid hpath
            have HPP := Lib.hid hpart
            have HCT := Lib.hid hctx
            have HJR := Lib.hid hJr
            have HKR := Lib.hid hKr
            have HXS := Lib.hid hxs
            obtain ⟨q', hq'⟩ : ∃ q', pos ss zs k = q' := ⟨_, rfl⟩
            obtain ⟨L, hL⟩ : ∃ L, argL ss zs k = L := ⟨_, rfl⟩
            rw [hq', hL] at cA
            clear hs1 hs3 ha1 ha2 hKW hctx hpath hpart hFr hJr hKr hxs
            have CALL := Lib.hid (fun (V : World) (g cap : Nat) (hb : Below wr.heap.size wr V) (hp : PathIn m₀ X V (some ⟨g, 0, none⟩) cap (p ++ [k])) =>
              callsIn_wide.1 (HIH.out (argL ss zs k) (p ++ [k]) (o + pos ss zs k) n (some ⟨g, 0, none⟩) cap (argL ss zs k).length (pre ++ [⟨A, c, cp, (p, o, zs)⟩] ++ xs) V
                (by have := HL.out; omega) (by have := HL.out; omega) (by have := HL.out; omega) (Nat.le_refl _) (by have := HL.out; omega) (by simp; omega) (fun z hz => HHH.out z (List.mem_of_mem_drop (List.mem_of_mem_take hz))) HS1.out
                (HCT.out.keep hfix (KP.of_below hb HCT.out.size)) (Nat.le_trans hmr hb.size) hp (HPP.out.keep hbt (KP.of_below (X := X) hb HCT.out.size)) (HJ.out _ _ _ HJR.out hmr hb) (by
                  have e1 := HW.out
                  have e2 : xs.length = ((List.range k).flatMap (fun k => walkL ss f (p ++ [k]) (o + pos ss zs k) (argL ss zs k))).length := by rw [← HXS.out, List.length_map]
                  have e3 : List.range r = List.range k ++ ([k] ++ (List.range (r - (k + 1))).map (k + 1 + ·)) := by
                    rw [← List.append_assoc, ← List.range_succ, ← List.range_add]
                    congr 1; omega
                  rw [e1, e3, List.flatMap_append, List.flatMap_append] at hN
                  simp only [List.length_cons, List.length_append, List.flatMap_cons, List.flatMap_nil, List.append_nil, List.length_nil] at hN ⊢
                  omega)))
            rw [hq', hL] at CALL
            have CALLB := Lib.hid (fun (V : World) (g cap : Nat) (hb : Below wr.heap.size wr V) (hp : PathIn m₀ X V (some ⟨g, 0, none⟩) cap (p ++ [k])) => (CALL.out V g cap hb hp).mono (R' := fun e W' => e = .returned (.bool true) ∧ W'.cell? ⟨Bw, 0, none⟩ = some (.func (.func 168) #[] #[.pointer (some ⟨By, 0, none⟩), .pointer (some ⟨Bs, 0, none⟩), .pointer (some ⟨Bw, 0, none⟩)]) ∧ ∃ ys, ys.map Pt.it = walkL ss f (p ++ [k]) (o + q') L ∧ J (pre ++ [⟨A, c, cp, (p, o, zs)⟩] ++ xs ++ ys) W' ∧ KP n₀ X wr W') (fun e W' ⟨h1, ys, h2, h3, h4⟩ =>
              ⟨h1, ((HCT.out.keep hfix ((KP.of_below (X := X) hb HCT.out.size).trans h4)).w.cell 0), ys, h2, h3, (KP.of_below (X := X) hb HCT.out.size).trans h4⟩))
            simp only [List.length_append, List.length_cons, List.length_nil] at CALLB
            clear CALL
            obtain ⟨i0, hi, hz0, hz1, hz2⟩ := info_parts info_int
            have hbw := hBwlt
            have HQ := Lib.hid (show walkL ss f (p ++ [k]) (o + q') L = walkL ss f (p ++ [k]) (o + pos ss zs k) (argL ss zs k) by rw [hq', hL])
            have HIH0 := hq'
            have HPD : Hid (PathIn m₀ X wr.drew A c p) := HPA.out
            have HPB : Hid (PathIn m₀ X (wr.drew.alloc (.cells #[.int .i64 (k : Int)] 3)) A c p) := Lib.hid (HPA.out.keep hnm (KP.of_below (X := X) (((Below.refl _ wr).drew).alloc (Nat.le_refl _) _) HCT.out.size))
            have hp1 : p.length ≤ 1000 := by omega
            clear HIH HSC HHH HJ HY HRR HAR HREST HC HS1 hq' hL hfix HIH0
            go_wp2_with fail
            go_region_held3 (fun w' => w'.cell? ⟨Bw, 0, none⟩ = some (.func (.func 168) #[] #[.pointer (some ⟨By, 0, none⟩), .pointer (some ⟨Bs, 0, none⟩), .pointer (some ⟨Bw, 0, none⟩)]))
              (first | go_keep | assumption)
              (first
                | (go_at_call 170; refine (cloneP (X := X) (m₀ := m₀) (p := p) HPD.out hp1).mono ?_; rintro e W3 ⟨v, rfl, hrow, hB3⟩; have HROW := Lib.hid hrow; have cw3 := (hB3.cell (p := ⟨Bw, 0, none⟩) hbw).trans cw; clear hrow)
                | (go_at_call 170; refine (cloneP (X := X) (m₀ := m₀) (p := p) HPB.out hp1).mono ?_; rintro e W3 ⟨v, rfl, hrow, hB3⟩
                   have HROWB := Lib.hid hrow
                   have hB3' := hB3
                   have hb3 : Below wr.heap.size wr W3 := (((Below.refl _ wr).drew).alloc (Nat.le_refl _) _).trans (hB3.mono (by simp))
                   have cw3 := (hb3.cell (p := ⟨Bw, 0, none⟩) hbw).trans cw
                   have HBLK := Lib.hid (show W3.heap[wr.heap.size]? = some (.cells #[pv k] 3 (0, 0)) from (hB3.block wr.heap.size (by simp)).trans (heap_alloc_new wr.drew _))
                   have HB3 := Lib.hid hb3
                   clear hrow hb3)
                | (refine step_append_lies _ (by rfl) _ _ _ (by rfl) _ 3 i0 _ 1 8 Try.underlying24 hi hz0 hz1 hz2 rfl (by omega) v p.length (p.map pv) (by rfl) HROWB.out ⟨wr.heap.size, 0, none⟩ 1 1 [pv k] (by rfl) (by rfl) (World.news_of_block (cs := #[pv k]) (t := 3) (fr := (0, 0)) HBLK.out) (by simp [Value.oneCell', pv]) (by omega) (by unfold maxLen; omega) (by omega) hB3'.size _ rfl ?_
                   intro gg cap4 W4 hrow4 hgrow _ _
                   have hb4 : Below wr.heap.size wr W4 := HB3.out.grown hgrow HB3.out.size (fun j e => by have := (HROWB.out.lt j e).1; simp at this; omega)
                   have hp4 := path_of_row (m₀ := m₀) (X := X) hrow4 (by simp; omega) HX3.out
                   have cw4 := (hb4.cell (p := ⟨Bw, 0, none⟩) hbw).trans cw
                   have HB4 := Lib.hid hb4
                   have HP4 := Lib.hid hp4
                   clear hrow4 hgrow hb4 hp4)
                | (refine step_append_lies _ (by rfl) _ _ _ (by rfl) _ 3 i0 _ 1 8 Try.underlying24 hi hz0 hz1 hz2 rfl (by omega) v p.length (p.map pv) (by rfl) (HROW.out.alloc _) ⟨W3.heap.size, 0, none⟩ 1 1 [pv k] (by rfl) (by rfl) (World.news_of_block (cs := #[pv k]) (t := 3) (fr := (0, 0)) (heap_alloc_new W3 _)) (by simp [Value.oneCell', pv]) (by omega) (by unfold maxLen; omega) (by omega) (by have := hB3.size; simp at this ⊢; omega) _ rfl ?_
                   intro gg cap4 W4 hrow4 hgrow _ _
                   have hb4 : Below wr.heap.size wr W4 := ((((Below.refl _ wr).drew).trans hB3).alloc hB3.size _).grown hgrow (by have := hB3.size; simp at this ⊢; omega) (fun j e => (HROW.out.lt j e).1)
                   have hp4 := path_of_row (m₀ := m₀) (X := X) hrow4 hmr HX3.out
                   have cw4 := (hb4.cell (p := ⟨Bw, 0, none⟩) hbw).trans cw
                   have HB4 := Lib.hid hb4
                   have HP4 := Lib.hid hp4
                   clear hrow4 hgrow hb4 hp4)
                | (go_at_call 168; refine (CALLB.out _ _ _ HB4.out HP4.out).mono ?_; rintro e W5 ⟨rfl, cw5, h5⟩; have H5 := Lib.hid h5; clear h5))
            all_goals
              go_wp2
              obtain ⟨ys, hy1, hy2, hy3⟩ := H5.out
              go_roundw
              case rel => exact ⟨k + 1, xs ++ ys, by omega, by go_num, by rw [List.map_append, HXS.out, hy1, List.range_succ, List.flatMap_append, HQ.out]; simp, by simpa using hy2, HKR.out.trans hy3⟩
              case measure => simp [intOf]; omega
          · obtain rfl : k = r := by omega
            have HXS := Lib.hid hxs
            clear hxs
            go_wp2
            gi_wp2
            go_ret
            exact ⟨rfl, ⟨A, c, cp, (p, o, zs)⟩ :: xs, by rw [HW.out, List.map_cons, HXS.out], by simpa using hJr, HK2.out.trans hKr⟩

end Go.Proofs.Ytcegbmibpkopaaa

/- The iterator over the parts of a term: the outer closure; places. -/
namespace Go.Proofs.Ytcegbmibpkopaaa
open Go.RowKit Go.Shelf
attribute [local go_sem] Oper.semAt_some

set_option maxRecDepth 100000 in
set_option maxHeartbeats 2000000 in
theorem places1_in (n₀ m₀ l bt Bs Bt N n : Nat) (X : Nat → Obj → Prop) (As : Option Addr) (ns cs o ct : Nat) (ss : Sg) (zs : List Int) (J : List Pt → World → Prop) (hnm : n₀ ≤ m₀) (hbt : bt < n₀) (har : ArOk ss) (hns : 1 ≤ ns) (hns2 : ns ≤ 12)
    (hX3 : ∀ b cs z, m₀ ≤ b → ¬ X b (.cells cs 3 z)) (hX25 : ∀ b cs z, m₀ ≤ b → (∀ v ∈ cs.toList, Into bt v) → ¬ X b (.cells cs 25 z)) (hX86 : ∀ b cs z, m₀ ≤ b → ¬ X b (.cells cs 154 z)) (hXs : n₀ ≤ Bs ∧ ∀ cs, ¬ X Bs (.cells cs 23 (0, 0)))
    (hJ : ∀ pre W W', J pre W → m₀ ≤ W.heap.size → Below W.heap.size W W' → J pre W')
    (hY : ∀ m pre x W, J pre W → PtIn m₀ X ss bt W x → pre.length < N → YieldAt Fence.wide m Try.prog l (x.encs bt) W fun e W' =>
      e = .returned (.bool true) ∧ J (pre ++ [x]) W' ∧ KP n₀ X W W')
    (W : World) (h1 : 1 ≤ zs.length) (h60 : zs.length ≤ 60) (hcp : zs.length ≤ ct) (hcp2 : ct ≤ 9223372036854775807) (hh : HeadsOk ss zs) (hscan : scan ss 1 zs = some [])
    (hBs : Blk W Bs 23 #[.slice As ns cs]) (hBt : Blk W Bt 25 #[.slice (some ⟨bt, o, none⟩) zs.length ct]) (hsig : SigAt W n₀ As ns ss) (hm : m₀ ≤ W.heap.size) (hpart : PartIn W bt o zs) (hJ0 : J [] W) (hN : (walkL ss zs.length [] o zs).length ≤ N) :
    CallsIn Fence.wide n Try.prog 167 #[.func (.yield l) #[] #[], .pointer (some ⟨Bs, 0, none⟩), .pointer (some ⟨Bt, 0, none⟩)] W fun e W' =>
      (∃ v, e = .returned v) ∧ ∃ xs, xs.map Pt.it = walkL ss zs.length [] o zs ∧ J xs W' := by
  let cl : Value := .func (.func 168) #[] #[.pointer (some ⟨W.heap.size, 0, none⟩), .pointer (some ⟨Bs, 0, none⟩), .pointer (some ⟨W.heap.size + 1, 0, none⟩)]
  let W1 := W.alloc (.cells #[.func (.yield l) #[] #[]] 154)
  let W2 := W1.alloc (.cells #[cl] 154)
  have hz1 : W1.heap.size = W.heap.size + 1 := by simp [W1]
  have hB : Below W.heap.size W W2 := ((Below.refl _ W).alloc (Nat.le_refl _) _).alloc (by simp) _
  have hK : KP n₀ X W W2 := KP.of_below hB (by omega)
  have ky : Blk W2 W.heap.size 154 #[.func (.yield l) #[] #[]] := (Blk.new W _ _).alloc _
  have kw : Blk W2 (W.heap.size + 1) 154 #[cl] := by
    rw [← hz1]
    exact Blk.new W1 _ _
  have hfix : Fix n₀ X W.heap.size Bs (W.heap.size + 1) := ⟨⟨by omega, fun cs => hX86 _ _ _ hm⟩, hXs, ⟨by omega, fun cs => hX86 _ _ _ (by omega)⟩⟩
  have hctx : Ctx n₀ l W.heap.size Bs (W.heap.size + 1) As ns cs ss W2 := ⟨ky, hK.blk hBs hXs.1 (hXs.2 _), kw, hsig.below hK.below, Nat.le_trans (by omega) hB.size⟩
  have C := tour_in n₀ m₀ l bt W.heap.size Bs (W.heap.size + 1) N X As ns cs ss J hnm hbt har hns hns2 hX3 hX25 hfix hJ hY zs.length zs [] o (n - 1) none 0 ct [] W2 (Nat.le_refl _) h1 h60 hcp hcp2 (by simp; omega) hh hscan hctx (Nat.le_trans hm hB.size) (.inl ⟨rfl, rfl, rfl⟩) (hpart.keep hbt hK) (hJ _ _ _ hJ0 hm hB) (by simpa using hN)
  have HC := Lib.hid C
  have ct0 := hBt.cell 0
  have lt0 := hBt.lt
  have HB := Lib.hid hB
  clear C hctx hfix ky kw hK hJ hY hX3 hX25 hX86 hXs hB hBs hBt hsig hpart hJ0 hN hz1 hh hscan har
  simp only [Array.getElem?_singleton, if_true] at ct0
  refine callsIn_of_wp Try.func167 rfl trivial ?_ rfl
  simp only [Try.ntmps167, List.size_toArray, List.length_cons, List.length_nil, Nat.reduceAdd, Nat.reduceSub, Array.replicate_succ, Array.replicate_zero, List.push_toArray, List.append_toArray, List.nil_append, List.cons_append]
  gi_wp2_with (refine ⟨trivial, fun h => (by cases h), ?_⟩; gi_at_call 168; refine HC.out.mono ?_; rintro e W5 ⟨rfl, xs, h1, h2, h3⟩)
  go_end0
  exact ⟨⟨_, rfl⟩, xs, h1, h2⟩

end Go.Proofs.Ytcegbmibpkopaaa

/- A range over the iterator whose body never leaves the loop and is told something of what it is handed, in the world at hand. -/
namespace Go.Proofs.Ytcegbmibpkopaaa
open Go.RowKit Go.Shelf

theorem grown_of_below {A B : World} (h : Below A.heap.size A B) : A.grownBy B none := ⟨h.os, h.tape, h.output, h.size, fun k hk _ => h.block k hk⟩

theorem range_parts {P : Program} {α : Type} {g : Operand} {ps : Array Tmp} {assign body : Code} {Q : Exit → Act → World → Prop} {a : Act} {w : World} {n gf : Nat} {lb : Array Value}
    (hg : a.eval g = .func (.func gf) #[] lb) (eg : ∀ args w, (callFunc gf args).run P w = .ok (.enter gf args) w) {encs : α → Array Value} (hps : ∀ x, (encs x).size = ps.size)
    (Hx : α → World → Prop) (Kp : World → World → Prop) (S : List α → Prop) (N : Nat) (I : List α → World → Prop) (hI : OwnFrom w.heap.size I)
    (hHx : ∀ x W l o o', Hx x W → w.heap.size ≤ l → W.heap[l]? = some o → o.isCells = false → Hx x (W.putObj l o'))
    (hKt : ∀ {A B C : World}, Kp A B → Kp B C → Kp A C) (hKb : ∀ (W : World) (l : Nat) (o o' : Obj), w.heap.size ≤ l → W.heap[l]? = some o → o.isCells = false → o.isWalk = false → Kp W (W.putObj l o'))
    (h0 : I [] w)
    (hseq : ∀ (l : Nat) (J : List α → World → Prop) (V : World), Below w.heap.size w V → (∀ pre A B, J pre A → Below A.heap.size A B → J pre B) →
      (∀ m pre x A, J pre A → Hx x A → pre.length < N → YieldAt Fence.wide m P l (encs x) A fun e B => e = .returned (.bool true) ∧ J (pre ++ [x]) B ∧ Kp A B) → J [] V →
      CallsIn Fence.wide (n - 1) P gf (#[.func (.yield l) #[] #[]] ++ lb) V fun e B => (∃ v, e = .returned v) ∧ ∃ xs, S xs ∧ J xs B)
    (a₁ : α → Act)
    (hassign : ∀ (l m : Nat) (x : α) (W : World) (K : Act → World → Prop), K (a₁ x) W →
      assign.wpIn (Fence.wide.inRound l) m P (Exit.then K (fun _ _ _ => False)) { tmps := (ps.zip (encs x)).foldl (fun t (p, v) => t.setIfInBounds p v) a.tmps, defers := [] } W)
    (hbody : ∀ (l m : Nat) (pre : List α) (x : α) (W : World), I pre W → Hx x W → pre.length < N → body.wpIn (Fence.wide.inRound l) m P (fun e _ W' => e = .normal ∧ KeepsFrom w.heap.size W W' ∧ Kp W W' ∧ I (pre ++ [x]) W') (a₁ x) W)
    (hdone : ∀ (D : Nat) (xs : List α) (W : World), w.heap.size ≤ D → S xs → I xs W → W.heap[D]? = some (.deferred (some [])) → Q .normal { a with defers := { target := .collected D, args := #[] } :: a.defers } W) :
    (Code.rangeFunc g ps assign body).wpIn Fence.wide n P Q a w := by
  refine wpIn_rangeFunc fun fn _ => ?_
  let rec0 (st : LoopState) : Loop := { state := st, pending := none, fn, tmps := a.tmps, params := ps, assign, body, defers := w.heap.size }
  let V := (w.alloc (.deferred (some []))).alloc (.loop (rec0 .ready))
  have sizeD : (w.alloc (.deferred (some []))).heap.size = w.heap.size + 1 := by simp
  have bV : Below w.heap.size w V := ((Below.refl _ w).alloc (Nat.le_refl _) _).alloc (by omega) _
  have atL : V.heap[w.heap.size + 1]? = some (.loop (rec0 .ready)) := by
    have := World.alloc_heap_new (w.alloc (.deferred (some []))) (.loop (rec0 .ready))
    rwa [sizeD] at this
  have atD : V.heap[w.heap.size]? = some (.deferred (some [])) := (Below.heap_alloc _ _ _ (by omega)).trans (World.alloc_heap_new w _)
  have iV : I [] V := hI.alloc _ (hI.alloc _ h0)
  let J (pre : List α) (A : World) : Prop := I pre A ∧ A.heap[w.heap.size + 1]? = some (.loop (rec0 .ready)) ∧ A.heap[w.heap.size]? = some (.deferred (some []))
  have round : ∀ m pre x A, J pre A → Hx x A → pre.length < N → YieldAt Fence.wide m P (w.heap.size + 1) (encs x) A fun e B => e = .returned (.bool true) ∧ J (pre ++ [x]) B ∧ Kp A B := by
    intro m pre x A ⟨i1, i2, i3⟩ hx hlen
    have ltL : w.heap.size + 1 < A.heap.size := (Array.getElem?_eq_some_iff.1 i2).1
    refine ⟨fn, _, assign, body, run_yield (P := P) i2 (hps x), roundIn_of_wpIn trivial (hassign _ _ x A _ ⟨_, run_beginRound i2 rfl, ?_⟩)⟩
    refine wpIn_mono (hbody _ _ pre x _ (hI.putObj _ i1 (by omega) i2 rfl) (hHx x A _ _ _ hx (by omega) i2 rfl) hlen) ?_
    rintro e a3 B ⟨rfl, hk, hkp, hi⟩
    have l2 := hk.same (w.heap.size + 1) _ (by omega) (World.putObj_heap_same ltL) rfl
    have d2 := hk.same w.heap.size _ (Nat.le_refl _) ((World.putObj_heap_other (by omega)).trans i3) rfl
    refine ⟨_, _, run_endRound (P := P) none l2, rfl, ⟨hI.putObj _ hi (by omega) l2 rfl, World.putObj_heap_same (Array.getElem?_eq_some_iff.1 l2).1, (World.putObj_heap_other (by omega)).trans d2⟩, ?_⟩
    exact hKt (hKt (hKb _ _ _ _ (by omega) i2 rfl rfl) hkp) (hKb _ _ _ _ (by omega) l2 rfl rfl)
  have abide : ∀ pre A B, J pre A → Below A.heap.size A B → J pre B := fun pre A B ⟨j1, j2, j3⟩ hb =>
    ⟨hI pre A B none j1 (grown_of_below hb) (fun r e => by cases e), (hb.block _ (Array.getElem?_eq_some_iff.1 j2).1).trans j2, (hb.block _ (Array.getElem?_eq_some_iff.1 j3).1).trans j3⟩
  refine ⟨w.heap.size + 1, [{ target := .collected w.heap.size, args := #[] }], V, { target := .fn (.func gf) lb, args := #[.func (.yield (w.heap.size + 1)) #[] #[]] }, V, gf, #[.func (.yield (w.heap.size + 1)) #[] #[]] ++ lb, V,
    run_enterLoop_outer _ _ _ _ _, ?_, fun _ _ => trivial, by simp [invoke, go_sem, eg], fun h => (by cases h), ?_⟩
  · simp only [resolve, hg]
    simp [go_sem]
  · refine (hseq (w.heap.size + 1) J V bV abide round ⟨iV, atL, atD⟩).mono ?_
    rintro e B ⟨⟨v, rfl⟩, xs, hS, j1, j2, j3⟩
    exact ⟨none, _, run_endLoop (P := P) j2 (by simp [rec0]), hdone _ xs _ (Nat.le_refl _) hS (hI.putObj _ j1 (by omega) j2 rfl) ((World.putObj_heap_other (by omega)).trans j3)⟩

end Go.Proofs.Ytcegbmibpkopaaa

/- Contracts: places, Depth. -/
namespace Go.Proofs.Ytcegbmibpkopaaa
open Go.RowKit Go.Shelf
attribute [local go_sem] Oper.semAt_some

set_option maxHeartbeats 400000 in
theorem places_any (s t : Value) (w : World) (hs : s.oneCell' = true) (ht : t.oneCell' = true) (As At : Option Addr) (ns cs nt ct : Nat) (es : s = .slice As ns cs) (et : t = .slice At nt ct) :
    Calls Try.prog 137 #[s, t] w fun e w' => e = .returned (.func (.func 167) #[] #[.pointer (some ⟨w.heap.size, 0, none⟩), .pointer (some ⟨w.heap.size + 1, 0, none⟩)]) ∧
      w' = (w.alloc (.cells #[s] 23)).alloc (.cells #[t] 25) := by
  subst es et
  go_enter Try.func137, Try.ntmps137
  go_wp2
  go_ret
  exact ⟨rfl, rfl⟩

def dmax (its : List It) : Nat := its.foldl (fun m it => max m (it.1.length + 1)) 0
theorem dmax_snoc (its : List It) (x : It) : dmax (its ++ [x]) = max (dmax its) (x.1.length + 1) := by simp [dmax]
theorem dmax_le : ∀ (its : List It), (∀ x ∈ its, x.1.length ≤ 1000) → dmax its ≤ 1001 := by
  intro its h
  have : ∀ (l : List It) (m : Nat), (∀ x ∈ l, x.1.length ≤ 1000) → m ≤ 1001 → l.foldl (fun m it => max m (it.1.length + 1)) m ≤ 1001 := by
    intro l
    induction l with
    | nil => intro m _ hm; exact hm
    | cons y r ih =>
      intro m hl hm
      refine ih _ (fun z hz => hl z (List.mem_cons_of_mem _ hz)) ?_
      have := hl y (List.mem_cons_self ..)
      exact Nat.max_le.2 ⟨hm, by omega⟩
  exact this its 0 h (by omega)

/-- The depth of a term. -/
def depthN (ss : Sg) (zs : List Int) : Nat := dmax (walkL ss zs.length [] 0 zs)
theorem walkL_off (ss : Sg) : ∀ (f : Nat) (p : List Nat) (o o' : Nat) (zs : List Int), (walkL ss f p o zs).map (·.1) = (walkL ss f p o' zs).map (·.1)
  | 0, _, _, _, _ => rfl
  | f + 1, p, o, o', zs => by
    simp only [walkL, List.map_cons, List.map_flatMap]
    congr 1
    congr 1
    funext k
    exact walkL_off ss f _ _ _ _
theorem dmax_map : ∀ (a b : List It), a.map (·.1) = b.map (·.1) → dmax a = dmax b := by
  have : ∀ (a b : List It) (m : Nat), a.map (·.1) = b.map (·.1) → a.foldl (fun m it => max m (it.1.length + 1)) m = b.foldl (fun m it => max m (it.1.length + 1)) m := by
    intro a
    induction a with
    | nil => intro b m h; cases b with
      | nil => rfl
      | cons y r => simp at h
    | cons x r ih => intro b m h; cases b with
      | nil => simp at h
      | cons y s =>
        simp only [List.map_cons, List.cons.injEq] at h
        simp only [List.foldl_cons, h.1]
        exact ih s _ h.2
  exact fun a b h => this a b 0 h
theorem dmax_off (ss : Sg) (o : Nat) (zs : List Int) : dmax (walkL ss zs.length [] o zs) = depthN ss zs := dmax_map _ _ (walkL_off ss _ _ _ _ _)

theorem KP.setX {d : Nat} (W : World) (v : Value) : KP d (fun b _ => b = d) W (W.setCell ⟨d, 0, none⟩ v) :=
  ⟨(Below.refl _ _).setCell (p := ⟨d, 0, none⟩) (Nat.le_refl _) _, fun b _o _ ho _ hx => (Below.heap_setCell W ⟨d, 0, none⟩ v b hx).trans ho⟩

set_option maxHeartbeats 400000 in
theorem depth_bad (As At : Option Addr) (ns cs nt ct : Nat) (ss : Sg) (zs : List Int) (w : World) (hs : SigAt w w.heap.size As ns ss) (ht : IntsAt w w.heap.size At nt zs) (hv : valOk ss zs = false) :
    Calls Try.prog 82 #[.slice As ns cs, .slice At nt ct] w fun e w' => e = .returned (.tuple #[.int .i64 0, .int .i64 1]) ∧ Below w.heap.size w w' := by
  have C := Lib.hid (valid_any As At ns cs nt ct ss zs w hs ht)
  have HV := Lib.hid hv
  clear hv hs ht
  go_enter Try.func82, Try.ntmps82
  go_wp2_with (go_at_call 83; refine C.out.mono ?_; rintro e w1 ⟨rfl, hB⟩; rw [HV.out]; have HB := Lib.hid hB)
  go_ret2
  exact ⟨rfl, HB.out⟩

set_option maxRecDepth 100000 in
set_option maxHeartbeats 2000000 in
theorem depth_ok (As At : Option Addr) (ns cs nt ct : Nat) (ss : Sg) (zs : List Int) (w : World) (hs : SigAt w w.heap.size As ns ss) (ht : IntsAt w w.heap.size At nt zs) (hct : nt ≤ ct) (hct2 : ct ≤ 9223372036854775807) (hv : valOk ss zs = true) :
    Calls Try.prog 82 #[.slice As ns cs, .slice At nt ct] w fun e w' => e = .returned (.tuple #[.int .i64 (depthN ss zs : Nat), .int .i64 0]) ∧ Below w.heap.size w w' := by
  have C := Lib.hid (valid_any As At ns cs nt ct ss zs w hs ht)
  obtain ⟨h1, h60, hnum, hscan⟩ := valOk_term hv
  have h4 := sigOk_len (valOk_sig hv)
  have har := sigOk_ar (valOk_sig hv)
  have hl := ht.len
  have hls := hs.len
  obtain ⟨bt, o, rfl, hbt, hpart⟩ := ht.mem (by omega)
  have hh : HeadsOk ss zs := fun z hz => (hnum z hz).2
  subst hl
  have HV := Lib.hid hv
  have HS := Lib.hid hs
  have HP := Lib.hid (show PartIn w bt o zs from hpart)
  have HPARAMS := Lib.hid (And.intro har (And.intro hh hscan))
  rw [← hls] at h4
  clear hv ht hs hpart hnum har hh hscan hls
  obtain ⟨nt, hnt⟩ : ∃ nt, zs.length = nt := ⟨_, rfl⟩
  rw [hnt] at h1 h60 hct C ⊢
  have HNT := Lib.hid hnt
  clear hnt
  refine callsIn_wide (n := 5) |>.1 ?_
  refine callsIn_of_wp_marks Try.func82 rfl trivial ?_ rfl
  simp only [Try.ntmps82, List.size_toArray, List.length_cons, List.length_nil, Nat.reduceAdd, Nat.reduceSub, Array.replicate_succ, Array.replicate_zero, List.push_toArray, List.append_toArray, List.nil_append, List.cons_append]
  gi_wp2_with (first
    | (refine ⟨trivial, ?_⟩; gi_at_call 83; refine (callsIn_wide.2 C.out).mono ?_; rintro e w1 ⟨rfl, hB⟩; rw [HV.out]; have HB := Lib.hid hB)
    | (refine ⟨trivial, ?_⟩; gi_at_call 137; refine (callsIn_wide.2 (places_any _ _ _ rfl rfl _ _ _ _ _ _ rfl rfl)).mono ?_; rintro e w2 ⟨rfl, rfl⟩))
  obtain ⟨d, hd⟩ : ∃ d, w1.heap.size = d := ⟨_, rfl⟩
  have hwd : w.heap.size ≤ d := hd ▸ hB.size
  have hBV : Below w.heap.size w (((w1.alloc (Obj.cells #[Value.int IntKind.i64 0] 3)).alloc (Obj.cells #[Value.slice As ns cs] 23)).alloc (Obj.cells #[Value.slice (some ⟨bt, o, none⟩) nt ct] 25)) :=
    hB.trans ((((Below.refl _ w1).alloc (Nat.le_refl _) _).alloc (by simp) _).alloc (by simp; omega) _ |>.mono hB.size)
  have bd : Blk (((w1.alloc (Obj.cells #[Value.int IntKind.i64 0] 3)).alloc (Obj.cells #[Value.slice As ns cs] 23)).alloc (Obj.cells #[Value.slice (some ⟨bt, o, none⟩) nt ct] 25)) d 3 #[.int .i64 0] := by
    rw [← hd]; exact ((Blk.new w1 _ _).alloc _).alloc _
  have bs : Blk (((w1.alloc (Obj.cells #[Value.int IntKind.i64 0] 3)).alloc (Obj.cells #[Value.slice As ns cs] 23)).alloc (Obj.cells #[Value.slice (some ⟨bt, o, none⟩) nt ct] 25)) (d + 1) 23 #[.slice As ns cs] := by
    have := (Blk.new (w1.alloc (Obj.cells #[Value.int IntKind.i64 0] 3)) 23 #[.slice As ns cs]).alloc (Obj.cells #[Value.slice (some ⟨bt, o, none⟩) nt ct] 25)
    rw [World.size_alloc, hd] at this
    exact this
  have bt' : Blk (((w1.alloc (Obj.cells #[Value.int IntKind.i64 0] 3)).alloc (Obj.cells #[Value.slice As ns cs] 23)).alloc (Obj.cells #[Value.slice (some ⟨bt, o, none⟩) nt ct] 25)) (d + 1 + 1) 25 #[.slice (some ⟨bt, o, none⟩) nt ct] := by
    have := Blk.new ((w1.alloc (Obj.cells #[Value.int IntKind.i64 0] 3)).alloc (Obj.cells #[Value.slice As ns cs] 23)) 25 #[.slice (some ⟨bt, o, none⟩) nt ct]
    rw [World.size_alloc, World.size_alloc, hd] at this
    exact this
  have sz : (((w1.alloc (Obj.cells #[Value.int IntKind.i64 0] 3)).alloc (Obj.cells #[Value.slice As ns cs] 23)).alloc (Obj.cells #[Value.slice (some ⟨bt, o, none⟩) nt ct] 25)).heap.size = d + 3 := by simp [hd]
  rw [hd]
  generalize (((w1.alloc (Obj.cells #[Value.int IntKind.i64 0] 3)).alloc (Obj.cells #[Value.slice As ns cs] 23)).alloc (Obj.cells #[Value.slice (some ⟨bt, o, none⟩) nt ct] 25)) = W0 at *
  clear hB HB
  have hbd : bt < d := by omega
  let X : Nat → Obj → Prop := fun b _ => b = d
  refine range_parts (gf := 167) (lb := #[.pointer (some ⟨d + 1, 0, none⟩), .pointer (some ⟨d + 1 + 1, 0, none⟩)]) rfl (enters_of Try.func167 (by kernel_rfl) rfl) (encs := Pt.encs bt) (fun _ => rfl)
    (fun x W => PtIn (d + 1) X ss bt W x) (KP d X) (fun xs => xs.map Pt.it = walkL ss zs.length [] o zs) (walkL ss zs.length [] o zs).length
    (fun pre W => ((W.cell? ⟨d, 0, none⟩ = some (.int .i64 (dmax (pre.map Pt.it) : Nat)) ∧ W.frozen? ⟨d, 0, none⟩ = false) ∧ (∀ x ∈ pre, x.it.1.length ≤ 1000)) ∧ Below w.heap.size w W)
    (fun s A B row ⟨⟨⟨a1, a2⟩, a3⟩, a4⟩ hg hr => ⟨⟨⟨cell_kept a1 hg (fun r e => (hr r e).2), (frozen_kept a1 hg (fun r e => (hr r e).2)).trans a2⟩, a3⟩, a4.grown hg a4.size (fun k e => by have := (hr k e).1; omega)⟩)
    (fun x W l o o' hx hl ho hc => hx.keep (n₀ := d) (by omega) hbd (KP.putObj (w := W0) (by omega) W l o o' hl ho hc))
    (fun h k => KP.trans h k) (fun W l o o' hl ho hc _ => KP.putObj (w := W0) (by omega) W l o o' hl ho hc)
    ⟨⟨⟨bd.cell 0, bd.frozen 0⟩, by simp⟩, hBV⟩
    ?seq (fun x => { tmps := #[.slice As ns cs, .slice (some ⟨bt, o, none⟩) nt ct, undef, undef, .int .i64 0, .int .i64 0, .pointer (some ⟨d, 0, none⟩), .slice x.A x.it.1.length x.c, .slice As ns cs, .slice (some ⟨bt, o, none⟩) nt ct, .bool true, .bool false, .slice As ns cs, .slice (some ⟨bt, o, none⟩) nt ct, .func (.func 167) #[] #[.pointer (some ⟨d + 1, 0, none⟩), .pointer (some ⟨d + 1 + 1, 0, none⟩)], .slice x.A x.it.1.length x.c, .slice (some ⟨bt, x.it.2.1, none⟩) x.it.2.2.length x.cp, undef, undef, undef, undef, undef, undef], defers := [] }) ?assign ?body ?done
  case seq =>
    intro l J V hV hJ hY hJ0
    have hVs : d + 3 ≤ V.heap.size := by rw [← sz]; exact hV.size
    have hBV' := hBV.trans (hV.mono (by omega))
    refine places1_in d (d + 1) l bt (d + 1) (d + 1 + 1) _ 4 X As ns cs o ct ss zs J (by omega) hbd HPARAMS.out.1 h4.1 h4.2 (fun b cs z hb => by show ¬ b = d; omega) (fun b cs z hb _ => by show ¬ b = d; omega) (fun b cs z hb => by show ¬ b = d; omega)
      ⟨by omega, fun cs => by show ¬ d + 1 = d; omega⟩ (fun pre A B hj _ hb => hJ pre A B hj hb) hY V (by rw [HNT.out]; exact h1) (by rw [HNT.out]; exact h60) (by rw [HNT.out]; exact hct) hct2 HPARAMS.out.2.1 HPARAMS.out.2.2
      (bs.below hV (by omega)) ?_ ((HS.out.below hBV').more hwd) (by omega) (fun j hj => (hBV'.cell (p := ⟨bt, o + j, none⟩) hbt).trans (HP.out j hj)) hJ0 (Nat.le_refl _)
    rw [HNT.out]
    exact bt'.below hV (by omega)
  case assign =>
    intro l m x W K hK
    unfold Pt.encs
    gi_wp2
    exact hK
  case body =>
    rintro l m pre x W ⟨⟨⟨hc, hf⟩, hle⟩, hBW⟩ hx hlen
    have hpl := hx.plen
    have hdm := dmax_le (pre.map Pt.it) (by simpa using hle)
    gi_wp2
    · refine ⟨(KeepsOthers.setCell _ _ _).from _, KP.setX W _, ⟨by rw [dmax_snoc]; omega, fun y hy => hy.elim (hle y) (fun e => e ▸ hpl)⟩, hBW.setCell (p := ⟨d, 0, none⟩) hwd _⟩
    · refine ⟨(KeepsOthers.setCell _ _ _).from _, KP.setX W _, ⟨by rw [dmax_snoc]; omega, fun y hy => hy.elim (hle y) (fun e => e ▸ hpl)⟩, hBW.setCell (p := ⟨d, 0, none⟩) hwd _⟩
  case done =>
    rintro D xs W hD hS ⟨⟨⟨hc, hf⟩, hle⟩, hBW⟩ hK
    rw [hS] at hc
    have HOFF := Lib.hid (dmax_off ss o zs)
    gi_wp2
    refine ⟨by simp, .inl ⟨_, _, rfl, run_takeDeferred hK, ?_⟩⟩
    refine ⟨_, results_tmp2 rfl _ _ _, ?_, ?_⟩
    · simp [HOFF.out]
    · exact hBW.trans (belowK_b (w := W0) (by omega) W D _ _ hD hK rfl rfl)

end Go.Proofs.Ytcegbmibpkopaaa

/- Contract: the statements' own 'awake'. -/
namespace Go.Proofs.Ytcegbmibpkopaaa
open Go.RowKit

theorem awake_depth {W : World} {b b2 : Nat} (h : Blk W b 68 cellsCN) (h2 : Blk W b2 3 #[.int .i64 0, .int .i64 (-1), .int .i64 0, .int .i64 (-2), .int .i64 (-1)]) :
    Calls Try.prog 82 #[.slice (some ⟨b, 0, none⟩) 2 2, .slice (some ⟨b2, 0, none⟩) 5 5] W fun e w' => e = .returned (.tuple #[.int .i64 3, .int .i64 0]) ∧ Below W.heap.size W w' := by
  have hd : depthN sgCN [0, -1, 0, -2, -1] = 3 := by decide +kernel
  have := depth_ok _ _ 2 2 5 5 sgCN [0, -1, 0, -2, -1] W (sig_of_blk h) (ints_of_blk _ _ _ rfl h2 rfl (by decide)) (by omega) (by omega) (by decide +kernel)
  rw [hd] at this
  exact this
theorem awake_canon {W : World} {b b2 : Nat} (h : Blk W b 68 cellsCN) (h2 : Blk W b2 3 #[.int .i64 0, .int .i64 (-3), .int .i64 (-3)]) :
    Calls Try.prog 18 #[.slice (some ⟨b, 0, none⟩) 2 2, .slice (some ⟨b2, 0, none⟩) 3 3] W (RetT W [0, -1, -1] 0) := by
  have hd : canon [0, -3, -3] = [0, -1, -1] := by decide +kernel
  have := canonical_ok _ _ 2 2 3 3 sgCN [0, -3, -3] W (sig_of_blk h) (ints_of_blk _ _ _ rfl h2 rfl (by decide)) (by decide +kernel)
  rw [hd] at this
  exact this

set_option maxRecDepth 100000 in
set_option maxHeartbeats 1000000 in
theorem awake_any (w : World) : Calls Try.prog 17 #[] w fun e w' => e = .returned (.bool true) ∧ Below w.heap.size w w' := by
  have HD : Hid (Calls Try.prog 82 #[.slice (some ⟨w.heap.size, 0, none⟩) 2 2, .slice (some ⟨w.heap.size + 1, 0, none⟩) 5 5] ((w.alloc (.cells cellsCN 68)).alloc (.cells #[.int .i64 0, .int .i64 (-1), .int .i64 0, .int .i64 (-2), .int .i64 (-1)] 3)) fun e w' =>
      e = .returned (.tuple #[.int .i64 3, .int .i64 0]) ∧ Below w.heap.size w w' ∧ Blk w' w.heap.size 68 cellsCN) := by
    have k1 : Blk ((w.alloc (.cells cellsCN 68)).alloc (.cells #[.int .i64 0, .int .i64 (-1), .int .i64 0, .int .i64 (-2), .int .i64 (-1)] 3)) w.heap.size 68 cellsCN := (Blk.new w _ _).alloc _
    have k2 : Blk ((w.alloc (.cells cellsCN 68)).alloc (.cells #[.int .i64 0, .int .i64 (-1), .int .i64 0, .int .i64 (-2), .int .i64 (-1)] 3)) (w.heap.size + 1) 3 #[.int .i64 0, .int .i64 (-1), .int .i64 0, .int .i64 (-2), .int .i64 (-1)] := by
      have := Blk.new (w.alloc (.cells cellsCN 68)) 3 #[.int .i64 0, .int .i64 (-1), .int .i64 0, .int .i64 (-2), .int .i64 (-1)]
      rw [World.size_alloc] at this
      exact this
    refine (awake_depth k1 k2).mono ?_
    rintro e w' ⟨rfl, hB⟩
    exact ⟨rfl, (((Below.refl _ w).alloc (Nat.le_refl _) _).alloc (by simp) _).trans (hB.mono (by simp; omega)), k1.below hB k1.lt⟩
  go_enter Try.func17, Try.ntmps17
  go_wp2_with (first
    | (go_at_call 82; refine HD.out.mono ?_; rintro e w3 ⟨rfl, hB3, kS⟩; have HB3 := Lib.hid hB3; have KS := Lib.hid kS; clear hB3 kS)
    | (go_at_call 18; refine (awake_canon (KS.out.alloc _) (Blk.new _ _ _)).mono ?_; rintro e w4 ⟨A, n, c, rfl, hI, hB4⟩; have HI := Lib.hid hI; have HB4 := Lib.hid hB4; clear hI hB4)
    | (go_at_call 20; refine (same_any _ _ n c 3 3 [0, -1, -1] [0, -1, -1] _ _ (HI.out.alloc _) (ints_of_blk [0, -1, -1] 3 _ rfl (Blk.new _ _ _) rfl (by decide))).mono ?_; rintro e w5 ⟨rfl, k, rfl⟩; rw [show decide (([0, -1, -1] : List Int) = [0, -1, -1]) = true from rfl]))
  go_ret
  have h3 := HB3.out
  have h4 := (h3.alloc h3.size (.cells #[.int .i64 0, .int .i64 (-3), .int .i64 (-3)] 3)).trans (HB4.out.mono (by have := h3.size; simp; omega))
  exact ⟨rfl, below_drewN (h4.alloc h4.size _) _⟩

end Go.Proofs.Ytcegbmibpkopaaa

/- Contracts: cmp.isNaN, cmp.Compare, slices.Compare, Compare. -/
namespace Go.Proofs.Ytcegbmibpkopaaa
open Go.RowKit

def cmpI (x y : Int) : Int := if x < y then -1 else if y < x then 1 else 0
def lexC : List Int → List Int → Int
  | [], [] => 0
  | [], _ :: _ => -1
  | _ :: _, [] => 1
  | x :: xs, y :: ys => if cmpI x y = 0 then lexC xs ys else cmpI x y
def cmpL (xs ys : List Int) : Int := if xs.length = ys.length then lexC xs ys else cmpI xs.length ys.length

theorem isNaN_any (x : Int) (w : World) : Calls Try.prog 192 #[.int .i64 x] w fun e w' => e = .returned (.bool false) ∧ w = w' := by
  go_enter Try.func192, Try.ntmps192
  go_wp2
  go_ret
  exact ⟨by simp, rfl⟩

set_option maxHeartbeats 400000 in
theorem cmpI_any (x y : Int) (w : World) : Calls Try.prog 162 #[.int .i64 x, .int .i64 y] w fun e w' => e = .returned (.int .i64 (cmpI x y)) ∧ w = w' := by
  have c := fun z => isNaN_any z w
  have C := Lib.hid c
  clear c
  by_cases h1 : x < y
  · have H := Lib.hid (show cmpI x y = -1 by simp [cmpI, h1])
    go_enter Try.func162, Try.ntmps162
    go_wp2_with (go_at_call 192; refine (isNaN_any _ _).mono ?_; rintro e w' ⟨rfl, rfl⟩)
    go_ret
    exact ⟨ret_i H.out.symm, rfl⟩
  · by_cases h2 : y < x
    · have H := Lib.hid (show cmpI x y = 1 by simp [cmpI, h1, h2])
      go_enter Try.func162, Try.ntmps162
      go_wp2_with (go_at_call 192; refine (isNaN_any _ _).mono ?_; rintro e w' ⟨rfl, rfl⟩)
      go_ret
      exact ⟨ret_i H.out.symm, rfl⟩
    · have H := Lib.hid (show cmpI x y = 0 by simp [cmpI, h1, h2])
      go_enter Try.func162, Try.ntmps162
      go_wp2_with (go_at_call 192; refine (isNaN_any _ _).mono ?_; rintro e w' ⟨rfl, rfl⟩)
      go_ret
      exact ⟨ret_i H.out.symm, rfl⟩

theorem lexC_agree : ∀ (k : Nat) (xs ys : List Int), xs.take k = ys.take k → k ≤ xs.length → k ≤ ys.length → lexC xs ys = lexC (xs.drop k) (ys.drop k)
  | 0, xs, ys, _, _, _ => by simp
  | k + 1, [], ys, _, h, _ => by simp at h
  | k + 1, xs, [], _, _, h => by simp at h
  | k + 1, x :: xs, y :: ys, h, h1, h2 => by
    simp only [List.take_succ_cons, List.cons.injEq] at h
    obtain ⟨rfl, h⟩ := h
    simp only [List.drop_succ_cons]
    rw [← lexC_agree k xs ys h (by simpa using h1) (by simpa using h2)]
    simp [lexC, cmpI]
theorem lexC_diff {xs ys : List Int} {k : Nat} (h : Agree xs ys k) (h1 : k < xs.length) (h2 : k < ys.length) (e : cmpI xs[k] ys[k] ≠ 0) : lexC xs ys = cmpI xs[k] ys[k] := by
  rw [lexC_agree k xs ys h (by omega) (by omega), List.drop_eq_getElem_cons h1, List.drop_eq_getElem_cons h2]
  simp [lexC, e]
theorem lexC_end {xs ys : List Int} (h : Agree xs ys xs.length) (hl : xs.length = ys.length) : lexC xs ys = 0 := by
  rw [lexC_agree xs.length xs ys h (by omega) (by omega), List.drop_length, hl, List.drop_length]
  rfl
theorem cmpI_zero {x y : Int} : cmpI x y = 0 ↔ x = y := by
  unfold cmpI
  split
  · constructor <;> intro h <;> omega
  · split
    · constructor <;> intro h <;> omega
    · constructor <;> intro h <;> omega

set_option maxRecDepth 100000 in
set_option maxHeartbeats 1000000 in
theorem lex_any (A A2 : Option Addr) (n c n2 c2 : Nat) (xs ys : List Int) (w : World) (B : Nat) (hx : IntsAt w B A n xs) (hy : IntsAt w B A2 n2 ys) (hn : n = n2) :
    Calls Try.prog 163 #[.slice A n c, .slice A2 n2 c2] w fun e w' => e = .returned (.int .i64 (lexC xs ys)) ∧ w = w' := by
  have hmx := hx.max
  have HLX := Lib.hid hx.len
  have HL := Lib.hid (show xs.length = ys.length by have := hx.len; have := hy.len; omega)
  have HX := Lib.hid hx
  have HY := Lib.hid hy
  subst hn
  clear hx hy
  go_enter Try.func163, Try.ntmps163
  go_wp2
  go_loop [11] (fun i => ∃ k : Nat, k ≤ n ∧ i = .int .i64 k ∧ Agree xs ys k) (fun i => n - (intOf i).toNat)
  case atStart => exact ⟨0, Nat.zero_le _, rfl, Agree.zero _ _⟩
  case round =>
    obtain ⟨k, hk, rfl, hA⟩ := hrel
    by_cases hlt : k < n
    · obtain ⟨b, off, z, rfl, c1, k1, e1⟩ := HX.out.cellAt hlt
      obtain ⟨b2, off2, y, rfl, c2, k2, e2⟩ := HY.out.cellAt hlt
      have hnk : ¬ n ≤ k := by omega
      by_cases e : cmpI z y = 0
      · have H := Lib.hid (hA.succ k1 k2 (by rw [e1, e2]; exact cmpI_zero.1 e))
        have E := Lib.hid e
        clear e e1 e2 hA
        go_wp2_with (go_at_call 162; refine (cmpI_any _ _ _).mono ?_; rintro e w' ⟨rfl, rfl⟩; rw [E.out])
        go_round
        case rel => exact ⟨k + 1, by omega, by go_num, H.out⟩
        case measure => simp [intOf]; omega
      · have H := Lib.hid (lexC_diff hA k1 k2 (by rw [e1, e2]; exact e))
        have E12 := Lib.hid (And.intro e1 e2)
        have he : (cmpI z y != 0) = true := by simp [e]
        clear e1 e2 hA e
        obtain ⟨q, hq⟩ : ∃ q, cmpI z y = q := ⟨_, rfl⟩
        rw [hq] at he
        have HQ := Lib.hid hq
        clear hq
        go_wp2_with (go_at_call 162; refine (cmpI_any _ _ _).mono ?_; rintro e w' ⟨rfl, rfl⟩; rw [HQ.out])
        go_ret
        exact ⟨ret_i (by rw [H.out, E12.out.1, E12.out.2, HQ.out]), rfl⟩
    · obtain rfl : k = n := by omega
      have H := Lib.hid (lexC_end (by rw [← HLX.out]; exact hA) HL.out)
      clear hA
      go_wp2
      go_ret
      exact ⟨ret_i H.out.symm, rfl⟩

set_option maxHeartbeats 400000 in
theorem compare_any (A A2 : Option Addr) (n c n2 c2 : Nat) (xs ys : List Int) (w : World) (B : Nat) (hx : IntsAt w B A n xs) (hy : IntsAt w B A2 n2 ys) :
    Calls Try.prog 128 #[.slice A n c, .slice A2 n2 c2] w fun e w' => e = .returned (.int .i64 (cmpL xs ys)) ∧ w = w' := by
  have hlx := hx.len
  have hly := hy.len
  by_cases h : n = n2
  · have H := Lib.hid (show cmpL xs ys = lexC xs ys by unfold cmpL; rw [if_pos (by omega)])
    have C := Lib.hid (lex_any A A2 n c n2 c2 xs ys w B hx hy h)
    have hb : ((n : Int) != (n2 : Int)) = false := by simp [h]
    clear hlx hly hx hy h
    go_enter Try.func128, Try.ntmps128
    go_wp2_with (go_at_call 163; refine C.out.mono ?_; rintro e w' ⟨rfl, rfl⟩)
    go_ret
    exact ⟨ret_i H.out.symm, rfl⟩
  · have H := Lib.hid (show cmpL xs ys = cmpI n n2 by unfold cmpL; rw [if_neg (by omega), ← hlx, ← hly])
    have hb : ((n : Int) != (n2 : Int)) = true := by simp; omega
    clear hlx hly hx hy h
    go_enter Try.func128, Try.ntmps128
    go_wp2_with (go_at_call 162; refine (cmpI_any _ _ _).mono ?_; rintro e w' ⟨rfl, rfl⟩)
    go_ret
    exact ⟨ret_i H.out.symm, rfl⟩

end Go.Proofs.Ytcegbmibpkopaaa

namespace Go.Proofs.Ytcegbmibpkopaaa
open Go.RowKit

set_option maxRecDepth 100000 in
set_option maxHeartbeats 1000000 in
theorem refCompare_any (A A2 : Option Addr) (n c n2 c2 : Nat) (xs ys : List Int) (w : World) (B : Nat) (hx : IntsAt w B A n xs) (hy : IntsAt w B A2 n2 ys) :
    Calls Try.prog 164 #[.slice A n c, .slice A2 n2 c2] w fun e w' => e = .returned (.int .i64 (cmpL xs ys)) ∧ ∃ k, w' = w.drewN k := by
  have hlx := hx.len
  have hly := hy.len
  have hmx := hx.max
  by_cases h1 : n < n2
  · have H := Lib.hid (show cmpL xs ys = -1 by unfold cmpL cmpI; rw [if_neg (by omega), if_pos (by omega)])
    have hb : (n : Int) < (n2 : Int) := by omega
    clear hlx hly hx hy hmx
    go_enter Try.func164, Try.ntmps164
    go_wp2
    go_ret
    exact ⟨ret_i H.out.symm, 0, rfl⟩
  · by_cases h2 : n2 < n
    · have H := Lib.hid (show cmpL xs ys = 1 by unfold cmpL cmpI; rw [if_neg (by omega), if_neg (by omega), if_pos (by omega)])
      have hb : (n2 : Int) < (n : Int) := by omega
      clear hlx hly hx hy hmx
      go_enter Try.func164, Try.ntmps164
      go_wp2
      go_ret
      exact ⟨ret_i H.out.symm, 0, rfl⟩
    · obtain rfl : n = n2 := by omega
      have HL := Lib.hid (show xs.length = ys.length by omega)
      have HE := Lib.hid (show cmpL xs ys = lexC xs ys by unfold cmpL; rw [if_pos (by omega)])
      have HX := Lib.hid hx
      have HY := Lib.hid hy
      have HLX := Lib.hid hlx
      clear hx hy hlx hly h1 h2
      go_enter Try.func164, Try.ntmps164
      go_wp2
      go_loopw [5] (fun i wr => ∃ k : Nat, k ≤ n ∧ i = .int .i64 k ∧ Agree xs ys k ∧ ∃ m, wr = w.drewN m) (fun i _ => n - (intOf i).toNat)
      case atStart => exact ⟨0, Nat.zero_le _, rfl, Agree.zero _ _, 0, rfl⟩
      case round =>
        obtain ⟨k, hk, rfl, hA, m, rfl⟩ := hrel
        by_cases hlt : k < n
        · obtain ⟨b, off, z, rfl, c1, k1, e1⟩ := HX.out.cellAt hlt
          obtain ⟨b2, off2, y, rfl, c2, k2, e2⟩ := HY.out.cellAt hlt
          have hk0 : (0 : Int) ≤ (k : Int) := by omega
          have hk1 : (k : Int) < (n : Int) := by omega
          by_cases h3 : z < y
          · have H := Lib.hid (show lexC xs ys = -1 by rw [lexC_diff hA k1 k2 (by rw [e1, e2]; simp [cmpI, h3])]; rw [e1, e2]; simp [cmpI, h3])
            clear e1 e2 hA
            go_wp2_with fail
            go_quiet (fail)
            go_wp2
            go_ret
            exact ⟨ret_i (by rw [HE.out, H.out]), _, World.drewN_drewN ..⟩
          · by_cases h4 : y < z
            · have H := Lib.hid (show lexC xs ys = 1 by rw [lexC_diff hA k1 k2 (by rw [e1, e2]; simp [cmpI, h3, h4])]; rw [e1, e2]; simp [cmpI, h3, h4])
              clear e1 e2 hA
              have h3' : y ≤ z := by omega
              go_wp2_with fail
              go_quiet (fail)
              go_wp2_with fail
              go_quiet (fail)
              go_wp2
              go_ret
              exact ⟨ret_i (by rw [HE.out, H.out]), _, by simp only [World.drewN_drewN]; rfl⟩
            · have H := Lib.hid (hA.succ k1 k2 (by rw [e1, e2]; omega))
              clear e1 e2 hA
              have h3' : y ≤ z := by omega
              have h4' : z ≤ y := by omega
              go_wp2_with fail
              go_quiet (fail)
              go_wp2_with fail
              go_quiet (fail)
              go_wp2
              go_roundw
              case rel => exact ⟨k + 1, by omega, by go_num, H.out, _, rfl⟩
              case measure => simp [intOf]; omega
        · obtain rfl : k = n := by omega
          have H := Lib.hid (lexC_end (by rw [← HLX.out]; exact hA) HL.out)
          clear hA
          go_wp2
          go_ret
          exact ⟨ret_i (by rw [HE.out, H.out]), _, rfl⟩

end Go.Proofs.Ytcegbmibpkopaaa
