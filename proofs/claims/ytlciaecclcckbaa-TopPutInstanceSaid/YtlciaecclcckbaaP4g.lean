/- A range over the iterator whose body never leaves the loop and is told something of what it is handed, in the world at hand. -/
import Derived.Test.YtlciaecclcckbaaC1g
import Derived.RangeFuncNested
import Derived.RangeFuncBound
import Derived.RangeFuncCalls
import Derived.RangeFuncLeaves
import Derived.Shelf.Abstract
import Derived.Shelf.RegionOpen
import Derived.OwnWalkIn
import Derived.TacticsInMore
import Derived.LoopNIn
import Derived.LoopIn
import Derived.Deep.RegionHeld3
import Derived.Deep.AppendLies
import Derived.Laws.EntriesVeiled
/- The iterator over the parts of a term: words. -/
namespace Go.Proofs.Ytlciaecclcckbaa
open Go.RowKit

/-- What lay below n₀ lies as it lay, and so do all cells beyond, but those of X. -/
structure KP (n₀ : Nat) (X : Nat → Obj → Prop) (W W' : World) : Prop where
  below : Below n₀ W W'
  keep : ∀ b o, n₀ ≤ b → W.heap[b]? = some o → o.isCells = true → ¬ X b o → W'.heap[b]? = some o
variable {n₀ m₀ : Nat} {X : Nat → Obj → Prop}
theorem KP.refl (W : World) : KP n₀ X W W := ⟨Below.refl _ _, fun _ _ _ h _ _ => h⟩
theorem KP.trans {A B C : World} (h : KP n₀ X A B) (k : KP n₀ X B C) : KP n₀ X A C :=
  ⟨h.below.trans k.below, fun b o hb ho hc hx => k.keep b o hb (h.keep b o hb ho hc hx) hc hx⟩
theorem KP.of_below {W W' : World} (h : Below W.heap.size W W') (hn : n₀ ≤ W.heap.size) : KP n₀ X W W' :=
  ⟨h.mono hn, fun b o _ ho _ _ => (h.block b (Array.getElem?_eq_some_iff.1 ho).1).trans ho⟩
theorem KP.putObj {w : World} (hn : n₀ ≤ w.heap.size) (W : World) (l : Nat) (o o' : Obj) (hl : w.heap.size ≤ l) (h : W.heap[l]? = some o) (hc : o.isCells = false) : KP n₀ X W (W.putObj l o') := by
  refine ⟨(Below.refl n₀ W).grown (grownBy_putObj' W l o') (by have := (Array.getElem?_eq_some_iff.1 h).1; omega) (fun k e => by cases e; omega), fun b o2 _ ho2 hc2 _ => ?_⟩
  refine (World.putObj_heap_other ?_).trans ho2
  rintro rfl
  rw [h] at ho2
  cases ho2
  rw [hc] at hc2
  cases hc2
theorem KP.blk {W W' : World} {b : Nat} {t : TypeId} {cs : Array Value} (h : KP n₀ X W W') (hb : Blk W b t cs) (hn : n₀ ≤ b) (hx : ¬ X b (.cells cs t (0, 0))) : Blk W' b t cs := h.keep b _ hn hb rfl hx

/-- A part: its path, where it begins in its block, and its numbers. -/
abbrev It := List Nat × Nat × List Int
/-- A value that leads into block bt. -/
def Into (bt : Nat) (v : Value) : Prop := ∃ off n c, v = .slice (some ⟨bt, off, none⟩) n c
/-- What is handed to the loop: the path's slice; the part's capacity; the part. -/
structure Pt where
  A : Option Addr
  c : Nat
  cp : Nat
  it : It
def Pt.encs (bt : Nat) (x : Pt) : Array Value := #[.slice x.A x.it.1.length x.c, .slice (some ⟨bt, x.it.2.1, none⟩) x.it.2.2.length x.cp]

/-- The parts of a term, the whole before its parts, earlier arguments first. -/
def walkL (ss : Sg) : Nat → List Nat → Nat → List Int → List It
  | 0, _, _, _ => []
  | f + 1, p, o, zs => (p, o, zs) :: (List.range (arOf ss (zs.headD 0))).flatMap fun k => walkL ss f (p ++ [k]) (o + pos ss zs k) (argL ss zs k)

/-- The slice '.slice A p.length c' holds the path p, in a block of ints of its own. -/
def PathIn (m₀ : Nat) (X : Nat → Obj → Prop) (W : World) (A : Option Addr) (c : Nat) (p : List Nat) : Prop :=
  (p = [] ∧ A = none ∧ c = 0) ∨ (p ≠ [] ∧ ∃ b cs, A = some ⟨b, 0, none⟩ ∧ m₀ ≤ b ∧ Blk W b 3 cs ∧ ¬ X b (.cells cs 3 (0, 0)) ∧ ∀ j (h : j < p.length), cs[j]? = some (.int .i64 (p[j] : Nat)))
theorem PathIn.keep {W W' : World} {A : Option Addr} {c : Nat} {p : List Nat} (h : PathIn m₀ X W A c p) (hn : n₀ ≤ m₀) (hk : KP n₀ X W W') : PathIn m₀ X W' A c p := by
  rcases h with h | ⟨h1, b, cs, h2, h3, h4, h5, h6⟩
  · exact .inl h
  · exact .inr ⟨h1, b, cs, h2, h3, hk.blk h4 (by omega) h5, h5, h6⟩

def PartIn (W : World) (bt o : Nat) (zs : List Int) : Prop := ∀ j (h : j < zs.length), W.cell? ⟨bt, o + j, none⟩ = some (.int .i64 zs[j])
theorem PartIn.keep {W W' : World} {bt o : Nat} {zs : List Int} (h : PartIn W bt o zs) (hb : bt < n₀) (hk : KP n₀ X W W') : PartIn W' bt o zs :=
  fun j hj => (hk.below.cell (p := ⟨bt, o + j, none⟩) hb).trans (h j hj)
theorem PartIn.ints {W : World} {bt o : Nat} {zs : List Int} (h : PartIn W bt o zs) (hb : bt < W.heap.size) (hm : zs.length ≤ 1000000) : IntsAt W W.heap.size (some ⟨bt, o, none⟩) zs.length zs :=
  ⟨rfl, by omega, fun _ => ⟨bt, o, rfl, hb, h⟩⟩
theorem PartIn.arg {W : World} {bt o : Nat} {ss : Sg} {zs : List Int} {k : Nat} (h : PartIn W bt o zs) : PartIn W bt (o + pos ss zs k) (argL ss zs k) := by
  intro j hj
  have hj2 : pos ss zs k + j < zs.length := by
    unfold argL at hj
    rw [List.length_take, List.length_drop] at hj
    omega
  have := h (pos ss zs k + j) hj2
  rw [Nat.add_assoc, this]
  congr 2
  simp [argL]

/-- What a round may know of what it is handed. -/
structure PtIn (m₀ : Nat) (X : Nat → Obj → Prop) (ss : Sg) (bt : Nat) (W : World) (x : Pt) : Prop where
  path : PathIn m₀ X W x.A x.c x.it.1
  plen : x.it.1.length ≤ 1000
  part : PartIn W bt x.it.2.1 x.it.2.2
  len : 1 ≤ x.it.2.2.length ∧ x.it.2.2.length ≤ 60 ∧ x.it.2.2.length ≤ x.cp ∧ x.cp ≤ 9223372036854775807
  heads : HeadsOk ss x.it.2.2
  scan : scan ss 1 x.it.2.2 = some []
theorem PtIn.keep {ss : Sg} {bt : Nat} {W W' : World} {x : Pt} (h : PtIn m₀ X ss bt W x) (hn : n₀ ≤ m₀) (hb : bt < n₀) (hk : KP n₀ X W W') : PtIn m₀ X ss bt W' x :=
  ⟨h.path.keep hn hk, h.plen, h.part.keep hb hk, h.len, h.heads, h.scan⟩

/-- The closure's captured variables. -/
structure Ctx (n₀ l By Bs Bw : Nat) (As : Option Addr) (ns cs : Nat) (ss : Sg) (W : World) : Prop where
  y : Blk W By 132 #[.func (.yield l) #[] #[]]
  s : Blk W Bs 23 #[.slice As ns cs]
  w : Blk W Bw 132 #[.func (.func 108) #[] #[.pointer (some ⟨By, 0, none⟩), .pointer (some ⟨Bs, 0, none⟩), .pointer (some ⟨Bw, 0, none⟩)]]
  sig : SigAt W n₀ As ns ss
  size : n₀ ≤ W.heap.size
/-- .. and none of them is turned by a round. -/
structure Fix (n₀ : Nat) (X : Nat → Obj → Prop) (By Bs Bw : Nat) : Prop where
  y : n₀ ≤ By ∧ ∀ cs, ¬ X By (.cells cs 132 (0, 0))
  s : n₀ ≤ Bs ∧ ∀ cs, ¬ X Bs (.cells cs 23 (0, 0))
  w : n₀ ≤ Bw ∧ ∀ cs, ¬ X Bw (.cells cs 132 (0, 0))
theorem Ctx.keep {l By Bs Bw : Nat} {As : Option Addr} {ns cs : Nat} {ss : Sg} {W W' : World} (h : Ctx n₀ l By Bs Bw As ns cs ss W) (hF : Fix n₀ X By Bs Bw) (hk : KP n₀ X W W') : Ctx n₀ l By Bs Bw As ns cs ss W' :=
  ⟨hk.blk h.y hF.y.1 (hF.y.2 _), hk.blk h.s hF.s.1 (hF.s.2 _), hk.blk h.w hF.w.1 (hF.w.2 _), h.sig.below hk.below, Nat.le_trans h.size hk.below.size⟩


def pv (k : Nat) : Value := .int .i64 (k : Int)
theorem PathIn.lt {W : World} {A : Option Addr} {c : Nat} {p : List Nat} (h : PathIn m₀ X W A c p) (hp : p ≠ []) : ∃ b cs, A = some ⟨b, 0, none⟩ ∧ b < W.heap.size ∧ Blk W b 3 cs ∧ ∀ j (h : j < p.length), cs[j]? = some (.int .i64 (p[j] : Nat)) := by
  rcases h with ⟨h, _⟩ | ⟨h1, b, cs, h2, h3, h4, h5, h6⟩
  · exact absurd h hp
  · exact ⟨b, cs, h2, h4.lt, h4, h6⟩
theorem cloneP {W : World} {A : Option Addr} {c : Nat} {p : List Nat} (h : PathIn m₀ X W A c p) (hpl : p.length ≤ 1000) :
    Calls Try.prog 110 #[.slice A p.length c] W fun e W' => ∃ v, e = .returned v ∧ W'.ownsRow W.heap.size 3 1 v p.length (p.map pv) ∧ Below W.heap.size W W' := by
  by_cases hp : p = []
  · subst hp
    rcases h with ⟨_, rfl, rfl⟩ | ⟨h1, _⟩
    · exact cloneI_nil W
    · exact absurd rfl h1
  · obtain ⟨b, cs, rfl, hb, hB, hc⟩ := h.lt hp
    have hl : 1 ≤ p.length := by cases p with
      | nil => exact absurd rfl hp
      | cons x r => simp
    have := cloneI_any W b 0 p.length c (p.map (fun k : Nat => (k : Int))) hl (by omega) (by simp) (fun j hj => by
      rw [Nat.zero_add, hB.cell, hc j (by simpa using hj)]; simp) hb
    refine this.mono ?_
    rintro e W' ⟨v, rfl, h1, h2⟩
    simp only [List.map_map, List.length_map] at h1
    exact ⟨v, rfl, h1, h2⟩
theorem path_of_row {W : World} {base g cap : Nat} {p : List Nat} {k : Nat} (h : W.ownsRow base 3 1 (.slice (some ⟨g, 0, none⟩) (p.length + 1) cap) (p.length + 1) (p.map pv ++ [pv k])) (hb : m₀ ≤ base) (hX3 : ∀ b cs z, m₀ ≤ b → ¬ X b (.cells cs 3 z)) :
    PathIn m₀ X W (some ⟨g, 0, none⟩) cap (p ++ [k]) := by
  obtain ⟨hl, h0 | ⟨g', cap', cur, he, hbg, hcur, hn1, hn2, hsz, htk⟩⟩ := h
  · cases h0.1
  · cases he
    refine .inr ⟨by simp, g, cur, rfl, by omega, hcur, hX3 _ _ _ (by omega), fun j hj => ?_⟩
    have hj' : j < (p.length + 1) * 1 := by simpa using hj
    have e1 : cur.toList[j]? = (cur.toList.take ((p.length + 1) * 1))[j]? := by rw [List.getElem?_take, if_pos hj']
    rw [← Array.getElem?_toList, e1, htk]
    have e2 : p.map pv ++ [pv k] = (p ++ [k]).map pv := by simp
    rw [e2, List.getElem?_map, List.getElem?_eq_getElem hj]
    rfl

end Go.Proofs.Ytlciaecclcckbaa

/- The iterator over the parts of a term: the recursive closure. -/
namespace Go.Proofs.Ytlciaecclcckbaa
open Go.RowKit Go.Shelf
attribute [local go_sem] Oper.semAt_some

theorem room_any {F : Fence} (hd : F.depth = none) (k : Nat) : F.room k := fun d h => by rw [hd] at h; cases h
theorem YieldAt.any {F : Fence} (hd : F.depth = none) {m : Nat} (m' : Nat) {P : Program} {l : Nat} {args : Array Value} {W : World} {R : Ending → World → Prop} (h : YieldAt F m P l args W R) : YieldAt F m' P l args W R := by
  obtain ⟨fn, tmps, assign, body, hy, hR⟩ := h
  exact ⟨fn, tmps, assign, body, hy, ⟨hR.1, fun c cs _ => hR.2 c cs (room_any hd _)⟩⟩

def WPost (n₀ : Nat) (X : Nat → Obj → Prop) (J : List Pt → World → Prop) (pre : List Pt) (W : World) (its : List It) (e : Ending) (W' : World) : Prop :=
  e = .returned (.bool true) ∧ ∃ xs, xs.map Pt.it = its ∧ J (pre ++ xs) W' ∧ KP n₀ X W W'

theorem acells_into (ss : Sg) (zs : List Int) (bt o r : Nat) : ∀ v ∈ (acells ss zs bt o r r).toList, Into bt v := by
  intro v hv
  unfold acells at hv
  rw [Nat.sub_self, List.replicate_zero, List.append_nil] at hv
  obtain ⟨i, _, rfl⟩ := List.mem_map.1 hv
  exact ⟨_, _, _, rfl⟩

set_option maxRecDepth 100000 in
set_option maxHeartbeats 2000000 in
theorem tour_in (n₀ m₀ l bt By Bs Bw N : Nat) (X : Nat → Obj → Prop) (As : Option Addr) (ns cs : Nat) (ss : Sg) (J : List Pt → World → Prop) (hnm : n₀ ≤ m₀) (hbt : bt < n₀) (har : ArOk ss) (hns : 1 ≤ ns) (hns2 : ns ≤ 12)
    (hX3 : ∀ b cs z, m₀ ≤ b → ¬ X b (.cells cs 3 z)) (hX25 : ∀ b cs z, m₀ ≤ b → (∀ v ∈ cs.toList, Into bt v) → ¬ X b (.cells cs 25 z)) (hfix : Fix n₀ X By Bs Bw)
    (hJ : ∀ pre W W', J pre W → m₀ ≤ W.heap.size → Below W.heap.size W W' → J pre W')
    (hY : ∀ m pre x W, J pre W → PtIn m₀ X ss bt W x → pre.length < N → YieldAt Fence.wide m Try.prog l (x.encs bt) W fun e W' =>
      e = .returned (.bool true) ∧ J (pre ++ [x]) W' ∧ KP n₀ X W W') :
    ∀ (f : Nat) (zs : List Int) (p : List Nat) (o n : Nat) (A : Option Addr) (c cp : Nat) (pre : List Pt) (W : World), zs.length ≤ f → 1 ≤ zs.length → zs.length ≤ 60 → zs.length ≤ cp → cp ≤ 9223372036854775807 → p.length + f ≤ 1000 → HeadsOk ss zs → scan ss 1 zs = some [] →
      Ctx n₀ l By Bs Bw As ns cs ss W → m₀ ≤ W.heap.size → PathIn m₀ X W A c p → PartIn W bt o zs → J pre W → pre.length + (walkL ss f p o zs).length ≤ N →
      CallsIn Fence.wide n Try.prog 108 #[.slice A p.length c, .slice (some ⟨bt, o, none⟩) zs.length cp, .pointer (some ⟨By, 0, none⟩), .pointer (some ⟨Bs, 0, none⟩), .pointer (some ⟨Bw, 0, none⟩)] W
        (WPost n₀ X J pre W (walkL ss f p o zs)) := by
  intro f
  induction f with
  | zero => intro zs p o n A c cp pre W h1 h2; omega
  | succ f ih =>
    intro zs p o n A c cp pre W hf h1 h60 hcp hcp2 hpl hh hscan hctx hm hpath hpart hJ0 hN
    have hN1 : pre.length < N := by
      have : 1 ≤ (walkL ss (f + 1) p o zs).length := by simp [walkL]
      omega
    obtain ⟨fn, tmps, assign, body, hy, hR⟩ := hY (n - 1) pre ⟨A, c, cp, (p, o, zs)⟩ W hJ0 ⟨hpath, by show p.length ≤ 1000; omega, hpart, ⟨h1, h60, hcp, hcp2⟩, hh, hscan⟩ hN1
    have cy := hctx.y.cell 0
    have hy' : (Instr.yield l #[.slice A p.length c, .slice (some ⟨bt, o, none⟩) zs.length cp]).run Try.prog W = .ok (.round l fn tmps assign body) W := hy
    have HCTX := Lib.hid hctx
    have HIH := Lib.hid ih
    have HSC := Lib.hid hscan
    have HHH := Lib.hid hh
    have HJ := Lib.hid hJ
    have HY := Lib.hid hY
    have HPATH := Lib.hid hpath
    have HPART := Lib.hid hpart
    have HX3 := Lib.hid hX3
    have HX25 := Lib.hid hX25
    have HRR := Lib.hid (hR.mono (R' := fun e W1 => e = .returned (.bool true) ∧ J (pre ++ [⟨A, c, cp, (p, o, zs)⟩]) W1 ∧ KP n₀ X W W1 ∧ W1.cell? ⟨Bs, 0, none⟩ = some (.slice As ns cs))
      (fun e W1 ⟨a1, a2, a3⟩ => ⟨a1, a2, a3, (hctx.keep hfix a3).s.cell 0⟩))
    have HAR := Lib.hid har
    clear hctx ih hscan hh hJ hY hpath hpart hX3 hX25 hy hR hJ0 har
    have hl0 : 0 < zs.length := by omega
    have hsign := HCTX.out.sig
    have hhd : zs.headD 0 = zs[0] := by cases zs with
      | nil => simp at hl0
      | cons z r => rfl
    have hpre : ∀ (xs : List Pt), pre ++ (⟨A, c, cp, (p, o, zs)⟩ :: xs) = (pre ++ [⟨A, c, cp, (p, o, zs)⟩]) ++ xs := fun xs => by simp
    by_cases hneg : zs[0] < 0
    · have hw : walkL ss (f + 1) p o zs = [(p, o, zs)] := by
        simp only [walkL, hhd, arOf, hneg, if_true, List.range_zero, List.flatMap_nil]
      have HW := Lib.hid hw
      have HC0 := Lib.hid (fun W1 (hK : KP n₀ X W W1) => (HPART.out.keep hbt hK) 0 hl0)
      obtain ⟨z, hz⟩ : ∃ z, zs[0] = z := ⟨_, rfl⟩
      rw [hz] at hneg HC0
      clear hw hhd hsign hN hpre hz
      refine callsIn_of_wp Try.func108 rfl trivial ?_ rfl
      simp only [Try.ntmps108, List.size_toArray, List.length_cons, List.length_nil, Nat.reduceAdd, Nat.reduceSub, Array.replicate_succ, Array.replicate_zero, List.push_toArray, List.append_toArray, List.nil_append, List.cons_append]
      gi_wp2_with (first
        | (refine ⟨trivial, fun h => (by cases h), ?_⟩; gi_at_call 109; refine (callsIn_wide.2 (arguments_var As ns cs bt o zs.length cp z W1 h1 (HC0.out W1 hK1) hneg)).mono ?_; rintro e W2 ⟨rfl, rfl⟩)
        | ((try refine ⟨fun h => (by cases h), ?_⟩); refine HRR.out.mono ?_; rintro e W1 ⟨rfl, hJ1, hK1, hcs1⟩))
      gi_loop [19] (fun i => i = .int .i64 0) (fun _ => 0)
      case atStart => rfl
      case round =>
        subst hrel
        gi_wp2
        go_ret
        exact ⟨rfl, [⟨A, c, cp, (p, o, zs)⟩], by rw [HW.out]; rfl, hJ1, hK1⟩
    · have hin := List.getElem_mem hl0
      have hzl := HHH.out _ hin
      obtain ⟨q, hq⟩ : ∃ q : Nat, zs[0] = (q : Int) := ⟨zs[0].toNat, by omega⟩
      rw [hq] at hzl
      have hqs : q < ss.length := by omega
      obtain ⟨ha0, ha3⟩ := HAR.out _ (List.getElem_mem hqs)
      obtain ⟨r, hr⟩ : ∃ r : Nat, ss[q].2 = (r : Int) := ⟨ss[q].2.toNat, by omega⟩
      rw [hr] at ha3
      have hr3 : r ≤ 3 := by omega
      have har1 : arOf ss zs[0] = r := by rw [hq, arOf_at hqs, hr, Int.toNat_natCast]
      have hrest : scan ss r (zs.drop 1) = some [] := by rw [← har1]; exact scan_head HSC.out hl0
      have hw : walkL ss (f + 1) p o zs = (p, o, zs) :: (List.range r).flatMap fun k => walkL ss f (p ++ [k]) (o + pos ss zs k) (argL ss zs k) := by
        simp only [walkL, hhd, har1]
      have HC := Lib.hid (fun W1 (hK : KP n₀ X W W1) => arguments_sym As ns cs bt o zs.length cp q r ss zs W1 ((HCTX.out.keep hfix hK).sig.more (HCTX.out.keep hfix hK).size) ((HPART.out.keep hbt hK).ints (by have := (HCTX.out.keep hfix hK).size; omega) (by omega)) HAR.out hns hns2 h1 h60 hcp hcp2 HHH.out HSC.out (by rw [List.getElem?_eq_getElem hl0, hq]) (by rw [List.getElem?_eq_getElem hqs]; simp [hr]))
      have HW := Lib.hid hw
      have HREST := Lib.hid hrest
      clear hw hhd hsign hpre hq hr har1 hrest hzl hin ha0 ha3 hneg
      refine callsIn_of_wp Try.func108 rfl trivial ?_ rfl
      simp only [Try.ntmps108, List.size_toArray, List.length_cons, List.length_nil, Nat.reduceAdd, Nat.reduceSub, Array.replicate_succ, Array.replicate_zero, List.push_toArray, List.append_toArray, List.nil_append, List.cons_append]
      gi_wp2_with (first
        | (refine ⟨trivial, fun h => (by cases h), ?_⟩; gi_at_call 109; refine (callsIn_wide.2 (HC.out W1 hK1)).mono ?_; rintro e W2 ⟨rfl, hB2, hF2⟩)
        | ((try refine ⟨fun h => (by cases h), ?_⟩); refine HRR.out.mono ?_; rintro e W1 ⟨rfl, hJ1, hK1, hcs1⟩))
      · refine wpIn_wide.2 ?_
        have hm1 : m₀ ≤ W1.heap.size := Nat.le_trans hm hK1.below.size
        have hJ2 := HJ.out _ _ _ hJ1 hm1 hB2
        have hK2 := hK1.trans (KP.of_below (X := X) hB2 (by omega))
        have HJ2 := Lib.hid hJ2
        have HK2 := Lib.hid hK2
        have HF2 := Lib.hid hF2
        obtain ⟨Na, hNa⟩ : ∃ Na, W1.heap.size = Na := ⟨_, rfl⟩
        rw [hNa] at hm1 HF2
        rw [hNa]
        clear hJ1 hK1 hB2 hF2 hJ2 hK2 hcs1 hNa
        go_loopw [19] (fun i wr => ∃ (k : Nat) (xs : List Pt), k ≤ r ∧ i = .int .i64 k ∧ xs.map Pt.it = (List.range k).flatMap (fun k => walkL ss f (p ++ [k]) (o + pos ss zs k) (argL ss zs k)) ∧ J (pre ++ [⟨A, c, cp, (p, o, zs)⟩] ++ xs) wr ∧ KP n₀ X W2 wr) (fun i _ => r - (intOf i).toNat)
        case atStart => exact ⟨0, [], Nat.zero_le _, rfl, rfl, by simpa using HJ2.out, KP.refl _⟩
        case round =>
          obtain ⟨k, xs, hk, rfl, hxs, hJr, hKr⟩ := hrel
          by_cases hlt : k < r
          · obtain ⟨hs1, hs2, hs3⟩ := pos_step HREST.out h1 hlt
            obtain ⟨_, hs4, _⟩ := pos_scan HREST.out h1 (Nat.le_of_lt hlt)
            obtain ⟨_, _, hs5⟩ := pos_scan HREST.out h1 (show k + 1 ≤ r from hlt)
            obtain ⟨ha1, ha2⟩ := argL_ok HREST.out h1 hlt
            have hKW := HK2.out.trans hKr
            have hctx := HCTX.out.keep hfix hKW
            have hpath := HPATH.out.keep hnm hKW
            have hpart := (HPART.out.keep hbt hKW).arg (ss := ss) (k := k)
            have hFr := hKr.blk HF2.out (by omega) (HX25.out _ _ _ hm1 (acells_into ss zs bt o r))
            have cw := hctx.w.cell 0
            have hBwlt := hctx.w.lt
            have cA := (hFr.cell k).trans (acells_all ss zs bt o r hlt)
            unfold argV at cA
            rw [← ha2] at cA
            have hmr : m₀ ≤ wr.heap.size := Nat.le_trans hm hKW.below.size
            have HS1 := Lib.hid ha1
            have HL := Lib.hid ha2
            have HPA := Lib.hid hpath
            have HPP := Lib.hid hpart
            have HCT := Lib.hid hctx
            have HJR := Lib.hid hJr
            have HKR := Lib.hid hKr
            have HXS := Lib.hid hxs
            obtain ⟨q', hq'⟩ : ∃ q', pos ss zs k = q' := ⟨_, rfl⟩
            obtain ⟨L, hL⟩ : ∃ L, argL ss zs k = L := ⟨_, rfl⟩
            rw [hq', hL] at cA
            clear hs1 hs3 ha1 ha2 hKW hctx hpath hpart hFr hJr hKr hxs
            have CALL := Lib.hid (fun (V : World) (g cap : Nat) (hb : Below wr.heap.size wr V) (hp : PathIn m₀ X V (some ⟨g, 0, none⟩) cap (p ++ [k])) =>
              callsIn_wide.1 (HIH.out (argL ss zs k) (p ++ [k]) (o + pos ss zs k) n (some ⟨g, 0, none⟩) cap (argL ss zs k).length (pre ++ [⟨A, c, cp, (p, o, zs)⟩] ++ xs) V
                (by have := HL.out; omega) (by have := HL.out; omega) (by have := HL.out; omega) (Nat.le_refl _) (by have := HL.out; omega) (by simp; omega) (fun z hz => HHH.out z (List.mem_of_mem_drop (List.mem_of_mem_take hz))) HS1.out
                (HCT.out.keep hfix (KP.of_below hb HCT.out.size)) (Nat.le_trans hmr hb.size) hp (HPP.out.keep hbt (KP.of_below (X := X) hb HCT.out.size)) (HJ.out _ _ _ HJR.out hmr hb) (by
                  have e1 := HW.out
                  have e2 : xs.length = ((List.range k).flatMap (fun k => walkL ss f (p ++ [k]) (o + pos ss zs k) (argL ss zs k))).length := by rw [← HXS.out, List.length_map]
                  have e3 : List.range r = List.range k ++ ([k] ++ (List.range (r - (k + 1))).map (k + 1 + ·)) := by
                    rw [← List.append_assoc, ← List.range_succ, ← List.range_add]
                    congr 1; omega
                  rw [e1, e3, List.flatMap_append, List.flatMap_append] at hN
                  simp only [List.length_cons, List.length_append, List.flatMap_cons, List.flatMap_nil, List.append_nil, List.length_nil] at hN ⊢
                  omega)))
            rw [hq', hL] at CALL
            have CALLB := Lib.hid (fun (V : World) (g cap : Nat) (hb : Below wr.heap.size wr V) (hp : PathIn m₀ X V (some ⟨g, 0, none⟩) cap (p ++ [k])) => (CALL.out V g cap hb hp).mono (R' := fun e W' => e = .returned (.bool true) ∧ W'.cell? ⟨Bw, 0, none⟩ = some (.func (.func 108) #[] #[.pointer (some ⟨By, 0, none⟩), .pointer (some ⟨Bs, 0, none⟩), .pointer (some ⟨Bw, 0, none⟩)]) ∧ ∃ ys, ys.map Pt.it = walkL ss f (p ++ [k]) (o + q') L ∧ J (pre ++ [⟨A, c, cp, (p, o, zs)⟩] ++ xs ++ ys) W' ∧ KP n₀ X wr W') (fun e W' ⟨h1, ys, h2, h3, h4⟩ =>
              ⟨h1, ((HCT.out.keep hfix ((KP.of_below (X := X) hb HCT.out.size).trans h4)).w.cell 0), ys, h2, h3, (KP.of_below (X := X) hb HCT.out.size).trans h4⟩))
            simp only [List.length_append, List.length_cons, List.length_nil] at CALLB
            clear CALL
            obtain ⟨i0, hi, hz0, hz1, hz2⟩ := info_parts info_int
            have hbw := hBwlt
            have HQ := Lib.hid (show walkL ss f (p ++ [k]) (o + q') L = walkL ss f (p ++ [k]) (o + pos ss zs k) (argL ss zs k) by rw [hq', hL])
            have HIH0 := hq'
            have HPD : Hid (PathIn m₀ X wr.drew A c p) := HPA.out
            have HPB : Hid (PathIn m₀ X (wr.drew.alloc (.cells #[.int .i64 (k : Int)] 3)) A c p) := Lib.hid (HPA.out.keep hnm (KP.of_below (X := X) (((Below.refl _ wr).drew).alloc (Nat.le_refl _) _) HCT.out.size))
            have hp1 : p.length ≤ 1000 := by omega
            clear HIH HSC HHH HJ HY HRR HAR HREST HC HS1 hq' hL hfix HIH0
            go_wp2_with fail
            go_region_held3 (fun w' => w'.cell? ⟨Bw, 0, none⟩ = some (.func (.func 108) #[] #[.pointer (some ⟨By, 0, none⟩), .pointer (some ⟨Bs, 0, none⟩), .pointer (some ⟨Bw, 0, none⟩)]))
              (first | go_keep | assumption)
              (first
                | (go_at_call 110; refine (cloneP (X := X) (m₀ := m₀) (p := p) HPD.out hp1).mono ?_; rintro e W3 ⟨v, rfl, hrow, hB3⟩; have HROW := Lib.hid hrow; have cw3 := (hB3.cell (p := ⟨Bw, 0, none⟩) hbw).trans cw; clear hrow)
                | (go_at_call 110; refine (cloneP (X := X) (m₀ := m₀) (p := p) HPB.out hp1).mono ?_; rintro e W3 ⟨v, rfl, hrow, hB3⟩
                   have HROWB := Lib.hid hrow
                   have hB3' := hB3
                   have hb3 : Below wr.heap.size wr W3 := (((Below.refl _ wr).drew).alloc (Nat.le_refl _) _).trans (hB3.mono (by simp))
                   have cw3 := (hb3.cell (p := ⟨Bw, 0, none⟩) hbw).trans cw
                   have HBLK := Lib.hid (show W3.heap[wr.heap.size]? = some (.cells #[pv k] 3 (0, 0)) from (hB3.block wr.heap.size (by simp)).trans (heap_alloc_new wr.drew _))
                   have HB3 := Lib.hid hb3
                   clear hrow hb3)
                | (refine step_append_lies _ (by rfl) _ _ _ (by rfl) _ 3 i0 _ 1 8 Try.underlying24 hi hz0 hz1 hz2 rfl (by omega) v p.length (p.map pv) (by rfl) HROWB.out ⟨wr.heap.size, 0, none⟩ 1 1 [pv k] (by rfl) (by rfl) (World.news_of_block (cs := #[pv k]) (t := 3) (fr := (0, 0)) HBLK.out) (by simp [Value.oneCell', pv]) (by omega) (by unfold maxLen; omega) (by omega) hB3'.size _ rfl ?_
                   intro gg cap4 W4 hrow4 hgrow _ _
                   have hb4 : Below wr.heap.size wr W4 := HB3.out.grown hgrow HB3.out.size (fun j e => by have := (HROWB.out.lt j e).1; simp at this; omega)
                   have hp4 := path_of_row (m₀ := m₀) (X := X) hrow4 (by simp; omega) HX3.out
                   have cw4 := (hb4.cell (p := ⟨Bw, 0, none⟩) hbw).trans cw
                   have HB4 := Lib.hid hb4
                   have HP4 := Lib.hid hp4
                   clear hrow4 hgrow hb4 hp4)
                | (refine step_append_lies _ (by rfl) _ _ _ (by rfl) _ 3 i0 _ 1 8 Try.underlying24 hi hz0 hz1 hz2 rfl (by omega) v p.length (p.map pv) (by rfl) (HROW.out.alloc _) ⟨W3.heap.size, 0, none⟩ 1 1 [pv k] (by rfl) (by rfl) (World.news_of_block (cs := #[pv k]) (t := 3) (fr := (0, 0)) (heap_alloc_new W3 _)) (by simp [Value.oneCell', pv]) (by omega) (by unfold maxLen; omega) (by omega) (by have := hB3.size; simp at this ⊢; omega) _ rfl ?_
                   intro gg cap4 W4 hrow4 hgrow _ _
                   have hb4 : Below wr.heap.size wr W4 := ((((Below.refl _ wr).drew).trans hB3).alloc hB3.size _).grown hgrow (by have := hB3.size; simp at this ⊢; omega) (fun j e => (HROW.out.lt j e).1)
                   have hp4 := path_of_row (m₀ := m₀) (X := X) hrow4 hmr HX3.out
                   have cw4 := (hb4.cell (p := ⟨Bw, 0, none⟩) hbw).trans cw
                   have HB4 := Lib.hid hb4
                   have HP4 := Lib.hid hp4
                   clear hrow4 hgrow hb4 hp4)
                | (go_at_call 108; refine (CALLB.out _ _ _ HB4.out HP4.out).mono ?_; rintro e W5 ⟨rfl, cw5, h5⟩; have H5 := Lib.hid h5; clear h5))
            all_goals
              go_wp2
              obtain ⟨ys, hy1, hy2, hy3⟩ := H5.out
              go_roundw
              case rel => exact ⟨k + 1, xs ++ ys, by omega, by go_num, by rw [List.map_append, HXS.out, hy1, List.range_succ, List.flatMap_append, HQ.out]; simp, by simpa using hy2, HKR.out.trans hy3⟩
              case measure => simp [intOf]; omega
          · obtain rfl : k = r := by omega
            have HXS := Lib.hid hxs
            clear hxs
            go_wp2
            gi_wp2
            go_ret
            exact ⟨rfl, ⟨A, c, cp, (p, o, zs)⟩ :: xs, by rw [HW.out, List.map_cons, HXS.out], by simpa using hJr, HK2.out.trans hKr⟩

end Go.Proofs.Ytlciaecclcckbaa

/- The iterator over the parts of a term: the outer closure; places. -/
namespace Go.Proofs.Ytlciaecclcckbaa
open Go.RowKit Go.Shelf
attribute [local go_sem] Oper.semAt_some

set_option maxRecDepth 100000 in
set_option maxHeartbeats 2000000 in
theorem places1_in (n₀ m₀ l bt Bs Bt N n : Nat) (X : Nat → Obj → Prop) (As : Option Addr) (ns cs o ct : Nat) (ss : Sg) (zs : List Int) (J : List Pt → World → Prop) (hnm : n₀ ≤ m₀) (hbt : bt < n₀) (har : ArOk ss) (hns : 1 ≤ ns) (hns2 : ns ≤ 12)
    (hX3 : ∀ b cs z, m₀ ≤ b → ¬ X b (.cells cs 3 z)) (hX25 : ∀ b cs z, m₀ ≤ b → (∀ v ∈ cs.toList, Into bt v) → ¬ X b (.cells cs 25 z)) (hX86 : ∀ b cs z, m₀ ≤ b → ¬ X b (.cells cs 132 z)) (hXs : n₀ ≤ Bs ∧ ∀ cs, ¬ X Bs (.cells cs 23 (0, 0)))
    (hJ : ∀ pre W W', J pre W → m₀ ≤ W.heap.size → Below W.heap.size W W' → J pre W')
    (hY : ∀ m pre x W, J pre W → PtIn m₀ X ss bt W x → pre.length < N → YieldAt Fence.wide m Try.prog l (x.encs bt) W fun e W' =>
      e = .returned (.bool true) ∧ J (pre ++ [x]) W' ∧ KP n₀ X W W')
    (W : World) (h1 : 1 ≤ zs.length) (h60 : zs.length ≤ 60) (hcp : zs.length ≤ ct) (hcp2 : ct ≤ 9223372036854775807) (hh : HeadsOk ss zs) (hscan : scan ss 1 zs = some [])
    (hBs : Blk W Bs 23 #[.slice As ns cs]) (hBt : Blk W Bt 25 #[.slice (some ⟨bt, o, none⟩) zs.length ct]) (hsig : SigAt W n₀ As ns ss) (hm : m₀ ≤ W.heap.size) (hpart : PartIn W bt o zs) (hJ0 : J [] W) (hN : (walkL ss zs.length [] o zs).length ≤ N) :
    CallsIn Fence.wide n Try.prog 107 #[.func (.yield l) #[] #[], .pointer (some ⟨Bs, 0, none⟩), .pointer (some ⟨Bt, 0, none⟩)] W fun e W' =>
      (∃ v, e = .returned v) ∧ ∃ xs, xs.map Pt.it = walkL ss zs.length [] o zs ∧ J xs W' := by
  let cl : Value := .func (.func 108) #[] #[.pointer (some ⟨W.heap.size, 0, none⟩), .pointer (some ⟨Bs, 0, none⟩), .pointer (some ⟨W.heap.size + 1, 0, none⟩)]
  let W1 := W.alloc (.cells #[.func (.yield l) #[] #[]] 132)
  let W2 := W1.alloc (.cells #[cl] 132)
  have hz1 : W1.heap.size = W.heap.size + 1 := by simp [W1]
  have hB : Below W.heap.size W W2 := ((Below.refl _ W).alloc (Nat.le_refl _) _).alloc (by simp) _
  have hK : KP n₀ X W W2 := KP.of_below hB (by omega)
  have ky : Blk W2 W.heap.size 132 #[.func (.yield l) #[] #[]] := (Blk.new W _ _).alloc _
  have kw : Blk W2 (W.heap.size + 1) 132 #[cl] := by
    rw [← hz1]
    exact Blk.new W1 _ _
  have hfix : Fix n₀ X W.heap.size Bs (W.heap.size + 1) := ⟨⟨by omega, fun cs => hX86 _ _ _ hm⟩, hXs, ⟨by omega, fun cs => hX86 _ _ _ (by omega)⟩⟩
  have hctx : Ctx n₀ l W.heap.size Bs (W.heap.size + 1) As ns cs ss W2 := ⟨ky, hK.blk hBs hXs.1 (hXs.2 _), kw, hsig.below hK.below, Nat.le_trans (by omega) hB.size⟩
  have C := tour_in n₀ m₀ l bt W.heap.size Bs (W.heap.size + 1) N X As ns cs ss J hnm hbt har hns hns2 hX3 hX25 hfix hJ hY zs.length zs [] o (n - 1) none 0 ct [] W2 (Nat.le_refl _) h1 h60 hcp hcp2 (by simp; omega) hh hscan hctx (Nat.le_trans hm hB.size) (.inl ⟨rfl, rfl, rfl⟩) (hpart.keep hbt hK) (hJ _ _ _ hJ0 hm hB) (by simpa using hN)
  have HC := Lib.hid C
  have ct0 := hBt.cell 0
  have lt0 := hBt.lt
  have HB := Lib.hid hB
  clear C hctx hfix ky kw hK hJ hY hX3 hX25 hX86 hXs hB hBs hBt hsig hpart hJ0 hN hz1 hh hscan har
  simp only [Array.getElem?_singleton, if_true] at ct0
  refine callsIn_of_wp Try.func107 rfl trivial ?_ rfl
  simp only [Try.ntmps107, List.size_toArray, List.length_cons, List.length_nil, Nat.reduceAdd, Nat.reduceSub, Array.replicate_succ, Array.replicate_zero, List.push_toArray, List.append_toArray, List.nil_append, List.cons_append]
  gi_wp2_with (refine ⟨trivial, fun h => (by cases h), ?_⟩; gi_at_call 108; refine HC.out.mono ?_; rintro e W5 ⟨rfl, xs, h1, h2, h3⟩)
  go_end0
  exact ⟨⟨_, rfl⟩, xs, h1, h2⟩

end Go.Proofs.Ytlciaecclcckbaa

namespace Go.Proofs.Ytlciaecclcckbaa
open Go.RowKit Go.Shelf

theorem grown_of_below {A B : World} (h : Below A.heap.size A B) : A.grownBy B none := ⟨h.os, h.tape, h.output, h.size, fun k hk _ => h.block k hk⟩

theorem range_parts {P : Program} {α : Type} {g : Operand} {ps : Array Tmp} {assign body : Code} {Q : Exit → Act → World → Prop} {a : Act} {w : World} {n gf : Nat} {lb : Array Value}
    (hg : a.eval g = .func (.func gf) #[] lb) (eg : ∀ args w, (callFunc gf args).run P w = .ok (.enter gf args) w) {encs : α → Array Value} (hps : ∀ x, (encs x).size = ps.size)
    (Hx : α → World → Prop) (Kp : World → World → Prop) (S : List α → Prop) (N : Nat) (I : List α → World → Prop) (hI : OwnFrom w.heap.size I)
    (hHx : ∀ x W l o o', Hx x W → w.heap.size ≤ l → W.heap[l]? = some o → o.isCells = false → Hx x (W.putObj l o'))
    (hKt : ∀ {A B C : World}, Kp A B → Kp B C → Kp A C) (hKb : ∀ (W : World) (l : Nat) (o o' : Obj), w.heap.size ≤ l → W.heap[l]? = some o → o.isCells = false → o.isWalk = false → Kp W (W.putObj l o'))
    (h0 : I [] w)
    (hseq : ∀ (l : Nat) (J : List α → World → Prop) (V : World), Below w.heap.size w V → (∀ pre A B, J pre A → Below A.heap.size A B → J pre B) →
      (∀ m pre x A, J pre A → Hx x A → pre.length < N → YieldAt Fence.wide m P l (encs x) A fun e B => e = .returned (.bool true) ∧ J (pre ++ [x]) B ∧ Kp A B) → J [] V →
      CallsIn Fence.wide (n - 1) P gf (#[.func (.yield l) #[] #[]] ++ lb) V fun e B => (∃ v, e = .returned v) ∧ ∃ xs, S xs ∧ J xs B)
    (a₁ : α → Act)
    (hassign : ∀ (l m : Nat) (x : α) (W : World) (K : Act → World → Prop), K (a₁ x) W →
      assign.wpIn (Fence.wide.inRound l) m P (Exit.then K (fun _ _ _ => False)) { tmps := (ps.zip (encs x)).foldl (fun t (p, v) => t.setIfInBounds p v) a.tmps, defers := [] } W)
    (hbody : ∀ (l m : Nat) (pre : List α) (x : α) (W : World), I pre W → Hx x W → pre.length < N → body.wpIn (Fence.wide.inRound l) m P (fun e _ W' => e = .normal ∧ KeepsFrom w.heap.size W W' ∧ Kp W W' ∧ I (pre ++ [x]) W') (a₁ x) W)
    (hdone : ∀ (D : Nat) (xs : List α) (W : World), w.heap.size ≤ D → S xs → I xs W → W.heap[D]? = some (.deferred (some [])) → Q .normal { a with defers := { target := .collected D, args := #[] } :: a.defers } W) :
    (Code.rangeFunc g ps assign body).wpIn Fence.wide n P Q a w := by
  refine wpIn_rangeFunc fun fn _ => ?_
  let rec0 (st : LoopState) : Loop := { state := st, pending := none, fn, tmps := a.tmps, params := ps, assign, body, defers := w.heap.size }
  let V := (w.alloc (.deferred (some []))).alloc (.loop (rec0 .ready))
  have sizeD : (w.alloc (.deferred (some []))).heap.size = w.heap.size + 1 := by simp
  have bV : Below w.heap.size w V := ((Below.refl _ w).alloc (Nat.le_refl _) _).alloc (by omega) _
  have atL : V.heap[w.heap.size + 1]? = some (.loop (rec0 .ready)) := by
    have := World.alloc_heap_new (w.alloc (.deferred (some []))) (.loop (rec0 .ready))
    rwa [sizeD] at this
  have atD : V.heap[w.heap.size]? = some (.deferred (some [])) := (Below.heap_alloc _ _ _ (by omega)).trans (World.alloc_heap_new w _)
  have iV : I [] V := hI.alloc _ (hI.alloc _ h0)
  let J (pre : List α) (A : World) : Prop := I pre A ∧ A.heap[w.heap.size + 1]? = some (.loop (rec0 .ready)) ∧ A.heap[w.heap.size]? = some (.deferred (some []))
  have round : ∀ m pre x A, J pre A → Hx x A → pre.length < N → YieldAt Fence.wide m P (w.heap.size + 1) (encs x) A fun e B => e = .returned (.bool true) ∧ J (pre ++ [x]) B ∧ Kp A B := by
    intro m pre x A ⟨i1, i2, i3⟩ hx hlen
    have ltL : w.heap.size + 1 < A.heap.size := (Array.getElem?_eq_some_iff.1 i2).1
    refine ⟨fn, _, assign, body, run_yield (P := P) i2 (hps x), roundIn_of_wpIn trivial (hassign _ _ x A _ ⟨_, run_beginRound i2 rfl, ?_⟩)⟩
    refine wpIn_mono (hbody _ _ pre x _ (hI.putObj _ i1 (by omega) i2 rfl) (hHx x A _ _ _ hx (by omega) i2 rfl) hlen) ?_
    rintro e a3 B ⟨rfl, hk, hkp, hi⟩
    have l2 := hk.same (w.heap.size + 1) _ (by omega) (World.putObj_heap_same ltL) rfl
    have d2 := hk.same w.heap.size _ (Nat.le_refl _) ((World.putObj_heap_other (by omega)).trans i3) rfl
    refine ⟨_, _, run_endRound (P := P) none l2, rfl, ⟨hI.putObj _ hi (by omega) l2 rfl, World.putObj_heap_same (Array.getElem?_eq_some_iff.1 l2).1, (World.putObj_heap_other (by omega)).trans d2⟩, ?_⟩
    exact hKt (hKt (hKb _ _ _ _ (by omega) i2 rfl rfl) hkp) (hKb _ _ _ _ (by omega) l2 rfl rfl)
  have abide : ∀ pre A B, J pre A → Below A.heap.size A B → J pre B := fun pre A B ⟨j1, j2, j3⟩ hb =>
    ⟨hI pre A B none j1 (grown_of_below hb) (fun r e => by cases e), (hb.block _ (Array.getElem?_eq_some_iff.1 j2).1).trans j2, (hb.block _ (Array.getElem?_eq_some_iff.1 j3).1).trans j3⟩
  refine ⟨w.heap.size + 1, [{ target := .collected w.heap.size, args := #[] }], V, { target := .fn (.func gf) lb, args := #[.func (.yield (w.heap.size + 1)) #[] #[]] }, V, gf, #[.func (.yield (w.heap.size + 1)) #[] #[]] ++ lb, V,
    run_enterLoop_outer _ _ _ _ _, ?_, fun _ _ => trivial, by simp [invoke, go_sem, eg], fun h => (by cases h), ?_⟩
  · simp only [resolve, hg]
    simp [go_sem]
  · refine (hseq (w.heap.size + 1) J V bV abide round ⟨iV, atL, atD⟩).mono ?_
    rintro e B ⟨⟨v, rfl⟩, xs, hS, j1, j2, j3⟩
    exact ⟨none, _, run_endLoop (P := P) j2 (by simp [rec0]), hdone _ xs _ (Nat.le_refl _) hS (hI.putObj _ j1 (by omega) j2 rfl) ((World.putObj_heap_other (by omega)).trans j3)⟩

end Go.Proofs.Ytlciaecclcckbaa
