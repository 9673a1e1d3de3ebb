/- Contract: Put. -/
import Derived.Test.YtlciaecclcckbaaA1g
import Derived.Test.YtlciaecclcckbaaC0g
import Derived.Maps.AppendAt
import Derived.Deep.AppendLies
import Derived.Lib.SliceRun
import Derived.RangeFuncNested
import Derived.RangeFuncBound
import Derived.RangeFuncCalls
import Derived.RangeFuncLeaves
import Derived.Shelf.Abstract
import Derived.Shelf.RegionOpen
import Derived.OwnWalkIn
import Derived.TacticsInMore
import Derived.LoopNIn
import Derived.LoopIn
import Derived.Deep.RegionHeld3
import Derived.Laws.EntriesVeiled
import Derived.Test.YtlciaecclcckbaaH0g
import Derived.Test.YtlciaecclcckbaaB4g
import Derived.Lib.AppendZerosOnto
import Derived.Lib.Walk
import Derived.Deep.RegionHeldLaw
/- Contract: arguments. -/
namespace Go.Proofs.Ytlciaecclcckbaa
open Go.RowKit

theorem info_term : (Try.prog.info? 25).map (fun i => (i.zero, i.size, i.bytes)) = some (some (.slice none 0 0), 1, 24) := by kernel_rfl

set_option maxHeartbeats 400000 in
theorem arguments_var (As : Option Addr) (ns cs bt offt nt ct : Nat) (z : Int) (w : World) (hn : 1 ≤ nt) (hc : w.cell? ⟨bt, offt, none⟩ = some (.int .i64 z)) (hz : z < 0) :
    Calls Try.prog 109 #[.slice As ns cs, .slice (some ⟨bt, offt, none⟩) nt ct] w fun e w' => e = .returned (.slice none 0 0) ∧ w = w' := by
  go_enter Try.func109, Try.ntmps109
  go_wp2
  go_ret
  exact ⟨rfl, rfl⟩

set_option maxRecDepth 100000 in
set_option maxHeartbeats 1000000 in
theorem arguments_sym (As : Option Addr) (ns cs bt offt nt ct q r : Nat) (ss : Sg) (zs : List Int) (w : World) (hs : SigAt w w.heap.size As ns ss) (ht : IntsAt w w.heap.size (some ⟨bt, offt, none⟩) nt zs) (har : ArOk ss) (hns : 1 ≤ ns) (hns2 : ns ≤ 12)
    (hn : 1 ≤ nt) (hn2 : nt ≤ 60) (hct : nt ≤ ct) (hct2 : ct ≤ 9223372036854775807) (hh : HeadsOk ss zs) (hscan : scan ss 1 zs = some []) (hq : zs[0]? = some (q : Int)) (hr : (ss[q]?).map (·.2) = some (r : Int)) :
    Calls Try.prog 109 #[.slice As ns cs, .slice (some ⟨bt, offt, none⟩) nt ct] w fun e w' => e = .returned (.slice (some ⟨w.heap.size, 0, none⟩) r r) ∧ Below w.heap.size w w' ∧ Blk w' w.heap.size 25 (acells ss zs bt offt r r) := by
  obtain ⟨i0, hi, hz0, hz1, hz2⟩ := info_parts info_term
  have HT := Lib.hid ht
  have HS := Lib.hid hs
  obtain ⟨bs, offs, rfl, hbs, hsg⟩ := hs.mem (by omega)
  have hlt := ht.len
  have hls := hs.len
  have hl1 : 0 < zs.length := by omega
  have hq0 : zs[0] = (q : Int) := by rw [List.getElem?_eq_getElem hl1] at hq; exact Option.some.inj hq
  have hqs : q < ss.length := by have := hh _ (List.getElem_mem hl1); omega
  have hr0 : ss[q].2 = (r : Int) := by rw [List.getElem?_eq_getElem hqs] at hr; exact Option.some.inj hr
  have hr3 : r ≤ 3 := by have := (har _ (List.getElem_mem hqs)).2; omega
  have hbt : bt < w.heap.size := by
    obtain ⟨b, o, e, h, _⟩ := ht.mem (by omega)
    cases e; exact h
  have hc0 : w.cell? ⟨bt, offt, none⟩ = some (.int .i64 (q : Int)) := by
    obtain ⟨b, o, e, h, hc⟩ := ht.mem (by omega)
    cases e
    have := hc 0 hl1
    rw [hq0] at this
    exact this
  have hc1 := hsg.ar q hqs
  rw [hr0] at hc1
  have hrest : scan ss r (zs.drop 1) = some [] := by
    have := scan_head hscan hl1
    rw [hq0, arOf_at hqs, hr0, Int.toNat_natCast] at this
    exact this
  have hmk : ∀ W : World, (Instr.makeSlice 62 (.int .i64 (r : Int)) (.int .i64 (r : Int))).run Try.prog W = .ok (.slice (some ⟨W.heap.size, 0, none⟩) r r) (W.alloc (.cells (acells ss zs bt offt r 0) 25)) := by
    intro W
    rw [acells_zero]
    have := run_make_rowN (P := Try.prog) 62 25 i0 _ Try.underlying62 hi hz0 .i64 .i64 r r (Nat.le_refl _) (by rw [hz2]; omega) (by omega) W
    rw [hz1] at this
    exact this
  have HL := Lib.hid hlt
  have HE := Lib.hid (fun (w' : World) (hB : Below w.heap.size w w') (i : Nat) (hi : i ≤ 1000000) => end_any ss zs har hh (some ⟨bs, offs, none⟩) (some ⟨bt, offt, none⟩) ns cs nt ct i w' ((hs.below hB).more hB.size) ((ht.below hB).more hB.size) hns hn (by omega) (by omega) hi)
  have HP0 := Lib.hid (pos_zero ss (zs := zs) hl1)
  have HPS := Lib.hid (fun k (hk : k < r) => pos_step hrest hl1 hk)
  have HPK := Lib.hid (fun k (hk : k ≤ r) => pos_scan hrest hl1 hk)
  have hqn : ¬ (q : Int) < 0 := by omega
  have hqs' : q < ns := by omega
  have hqs2 : (q : Int) < (ns : Int) := by omega
  have hq02 : (0 : Int) ≤ (q : Int) := by omega
  clear ht hs hi hz0 hz1 hz2 hsg hq hr hq0 hr0 hlt hls hscan hrest har hh hqs
  go_enter Try.func109, Try.ntmps109
  go_wp2
  clear hmk hc0 hc1
  go_loopw [6, 23] (fun f c wr => ∃ k p : Nat, k ≤ r ∧ c = .int .i64 k ∧ f = .int .i64 p ∧ pos ss zs k = p ∧ Blk wr w.heap.size 25 (acells ss zs bt offt r k) ∧ Below w.heap.size w wr) (fun _ c _ => r - (intOf c).toNat)
  case atStart => exact ⟨0, 1, Nat.zero_le _, rfl, rfl, HP0.out, Blk.new _ _ _, (Below.refl _ _).alloc (Nat.le_refl _) _⟩
  case round =>
    obtain ⟨k, p, hk, rfl, rfl, hp, hF, hB⟩ := hrel
    by_cases hlt : k < r
    · obtain ⟨hs1, hs2, hs3⟩ := HPS.out k hlt
      obtain ⟨_, hs4, _⟩ := HPK.out k (by omega)
      obtain ⟨_, _, hs5⟩ := HPK.out (k + 1) (by omega)
      have e0 : argV ss zs bt offt k = .slice (some ⟨bt, offt + pos ss zs k, none⟩) (pos ss zs (k + 1) - pos ss zs k) (pos ss zs (k + 1) - pos ss zs k) := rfl
      rw [hp] at hs1 hs2 hs4 e0
      obtain ⟨p', hp'⟩ : ∃ p', pos ss zs (k + 1) = p' := ⟨_, rfl⟩
      rw [hp'] at hs1 hs2 hs5 e0
      rw [← HL.out] at hs5
      have HR := Lib.hid hs1
      have HP' := Lib.hid hp'
      have E0 := Lib.hid e0
      have HB := Lib.hid hB
      have HF := Lib.hid hF
      have hpc : p ≠ ct := by omega
      clear hs1 hp' hs3 e0 hp hB hF
      go_wp2_with (go_at_call 90; refine (HE.out _ HB.out p (by omega)).mono ?_; rintro e w1 ⟨rfl, hB1⟩; rw [HR.out]; have hF1 := HF.out.below hB1 HF.out.lt; have hcF := (hF1.cell k).trans (acells_at hlt); have hfF := hF1.frozen k; have HF1 := Lib.hid (hF1.set_ k (argV ss zs bt offt k)); have HB1 := Lib.hid ((HB.out.trans (hB1.mono HB.out.size)).setCell (p := ⟨w.heap.size, k, none⟩) (Nat.le_refl _) (argV ss zs bt offt k)); rw [E0.out] at HF1 HB1; clear hF1 hB1)
      go_roundw
      case rel => exact ⟨k + 1, p', by omega, by go_num, rfl, HP'.out, by rw [← acells_set hlt, E0.out]; exact HF1.out, HB1.out⟩
      case measure => simp [intOf]; omega
    · obtain rfl : k = r := by omega
      have HF := Lib.hid hF
      have HB := Lib.hid hB
      clear hp hF hB
      go_wp2
      go_ret
      exact ⟨rfl, HB.out, HF.out⟩

end Go.Proofs.Ytlciaecclcckbaa

/- Contracts: slices.Clone at []int and at Term. -/
namespace Go.Proofs.Ytlciaecclcckbaa
open Go.RowKit

set_option maxHeartbeats 400000 in
theorem cloneI_nil (w : World) : Calls Try.prog 110 #[.slice none 0 0] w (RetRow w []) := by
  have hnl : (binOp .eql 24 (.slice none 0 0) (.slice none 0 0)).run Try.prog w = .ok (.bool true) w := Lib.run_eql_slice_nil w 24 3 none 0 0 0 0 Try.underlying24
  go_enter Try.func110, Try.ntmps110
  go_wp2
  go_ret
  exact ⟨.slice none 0 0, rfl, World.ownsRow_nil _ _ _ _, Below.refl _ _⟩

set_option maxRecDepth 100000 in
set_option maxHeartbeats 1000000 in
theorem cloneI_any (w : World) (b off n c : Nat) (zs : List Int) (hn : 1 ≤ n) (hn2 : n ≤ 1000000) (hl : zs.length = n) (hc : ∀ j (h : j < zs.length), w.cell? ⟨b, off + j, none⟩ = some (.int .i64 zs[j])) (hb : b < w.heap.size) :
    Calls Try.prog 110 #[.slice (some ⟨b, off, none⟩) n c] w (RetRow w (zs.map (Value.int .i64))) := by
  obtain ⟨i0, hi, hz0, hz1, hz2⟩ := info_parts info_int
  have hnl : (binOp .eql 24 (.slice (some ⟨b, off, none⟩) n c) (.slice none 0 0)).run Try.prog w = .ok (.bool false) w := Lib.run_eql_slice_nil w 24 3 (some ⟨b, off, none⟩) n c 0 0 Try.underlying24
  have H1 : (zs.map (Value.int .i64)).length = n * 1 := by simp [hl]
  have H2 : ∀ j u, (zs.map (Value.int .i64))[j]? = some u → (w.alloc (.cells #[] 3)).cell? ((⟨b, off, none⟩ : Addr).add j) = some u := by
    intro j u hu
    rw [add0, alloc_keep _ _ _ hb]
    simp only [List.getElem?_map, Option.map_eq_some_iff] at hu
    obtain ⟨z, hz, rfl⟩ := hu
    obtain ⟨hj, rfl⟩ := List.getElem?_eq_some_iff.1 hz
    exact hc j hj
  have H3 : ∀ u ∈ zs.map (Value.int .i64), u.oneCell' = true := by
    intro u hu
    obtain ⟨z, _, rfl⟩ := List.mem_map.1 hu
    rfl
  have HH1 := Lib.hid H1
  have HH2 := Lib.hid H2
  have HH3 := Lib.hid H3
  have HO : (w.alloc (.cells #[] 3)).ownsRow w.heap.size 3 1 (.slice (some ⟨w.heap.size, 0, none⟩) 0 0) 0 [] :=
    ⟨rfl, .inr ⟨w.heap.size, 0, #[], rfl, Nat.le_refl _, heap_alloc_new w _, Nat.le_refl _, by unfold maxLen; omega, rfl, rfl⟩⟩
  have HO' := Lib.hid HO
  have HL := Lib.hid hl
  clear H1 H2 H3 HO hc hl
  go_enter Try.func110, Try.ntmps110
  go_wp2_with (at_builtin
               refine wpList_append_own_at _ rfl _ _ 24 rfl w.heap.size 3 i0 _ 1 8 Try.underlying24 hi hz0 hz1 hz2 rfl (by omega) (.slice (some ⟨w.heap.size, 0, none⟩) 0 0) 0 [] rfl HO'.out ⟨b, off, none⟩ n c (zs.map (Value.int .i64)) rfl HH1.out HH2.out HH3.out (by unfold maxLen; omega) (by omega) (by simp) ?_
               intro v' w1 hown hg _ _
               have HW := Lib.hid hown
               have HG := Lib.hid hg
               clear hown hg)
  go_ret
  refine ⟨v', rfl, ?_, ((Below.refl _ w).alloc (Nat.le_refl _) _).grown HG.out (by simp) (fun k e => by cases e; exact Nat.le_refl _)⟩
  have := HW.out
  simpa [HL.out] using this

end Go.Proofs.Ytlciaecclcckbaa

/- The iterator over the parts of a term: words. -/
namespace Go.Proofs.Ytlciaecclcckbaa
open Go.RowKit

/-- What lay below n₀ lies as it lay, and so do all cells beyond, but those of X. -/
structure KP (n₀ : Nat) (X : Nat → Obj → Prop) (W W' : World) : Prop where
  below : Below n₀ W W'
  keep : ∀ b o, n₀ ≤ b → W.heap[b]? = some o → o.isCells = true → ¬ X b o → W'.heap[b]? = some o
variable {n₀ m₀ : Nat} {X : Nat → Obj → Prop}
theorem KP.refl (W : World) : KP n₀ X W W := ⟨Below.refl _ _, fun _ _ _ h _ _ => h⟩
theorem KP.trans {A B C : World} (h : KP n₀ X A B) (k : KP n₀ X B C) : KP n₀ X A C :=
  ⟨h.below.trans k.below, fun b o hb ho hc hx => k.keep b o hb (h.keep b o hb ho hc hx) hc hx⟩
theorem KP.of_below {W W' : World} (h : Below W.heap.size W W') (hn : n₀ ≤ W.heap.size) : KP n₀ X W W' :=
  ⟨h.mono hn, fun b o _ ho _ _ => (h.block b (Array.getElem?_eq_some_iff.1 ho).1).trans ho⟩
theorem KP.putObj {w : World} (hn : n₀ ≤ w.heap.size) (W : World) (l : Nat) (o o' : Obj) (hl : w.heap.size ≤ l) (h : W.heap[l]? = some o) (hc : o.isCells = false) : KP n₀ X W (W.putObj l o') := by
  refine ⟨(Below.refl n₀ W).grown (grownBy_putObj' W l o') (by have := (Array.getElem?_eq_some_iff.1 h).1; omega) (fun k e => by cases e; omega), fun b o2 _ ho2 hc2 _ => ?_⟩
  refine (World.putObj_heap_other ?_).trans ho2
  rintro rfl
  rw [h] at ho2
  cases ho2
  rw [hc] at hc2
  cases hc2
theorem KP.blk {W W' : World} {b : Nat} {t : TypeId} {cs : Array Value} (h : KP n₀ X W W') (hb : Blk W b t cs) (hn : n₀ ≤ b) (hx : ¬ X b (.cells cs t (0, 0))) : Blk W' b t cs := h.keep b _ hn hb rfl hx

/-- A part: its path, where it begins in its block, and its numbers. -/
abbrev It := List Nat × Nat × List Int
/-- A value that leads into block bt. -/
def Into (bt : Nat) (v : Value) : Prop := ∃ off n c, v = .slice (some ⟨bt, off, none⟩) n c
/-- What is handed to the loop: the path's slice; the part's capacity; the part. -/
structure Pt where
  A : Option Addr
  c : Nat
  cp : Nat
  it : It
def Pt.encs (bt : Nat) (x : Pt) : Array Value := #[.slice x.A x.it.1.length x.c, .slice (some ⟨bt, x.it.2.1, none⟩) x.it.2.2.length x.cp]

/-- The parts of a term, the whole before its parts, earlier arguments first. -/
def walkL (ss : Sg) : Nat → List Nat → Nat → List Int → List It
  | 0, _, _, _ => []
  | f + 1, p, o, zs => (p, o, zs) :: (List.range (arOf ss (zs.headD 0))).flatMap fun k => walkL ss f (p ++ [k]) (o + pos ss zs k) (argL ss zs k)

/-- The slice '.slice A p.length c' holds the path p, in a block of ints of its own. -/
def PathIn (m₀ : Nat) (X : Nat → Obj → Prop) (W : World) (A : Option Addr) (c : Nat) (p : List Nat) : Prop :=
  (p = [] ∧ A = none ∧ c = 0) ∨ (p ≠ [] ∧ ∃ b cs, A = some ⟨b, 0, none⟩ ∧ m₀ ≤ b ∧ Blk W b 3 cs ∧ ¬ X b (.cells cs 3 (0, 0)) ∧ ∀ j (h : j < p.length), cs[j]? = some (.int .i64 (p[j] : Nat)))
theorem PathIn.keep {W W' : World} {A : Option Addr} {c : Nat} {p : List Nat} (h : PathIn m₀ X W A c p) (hn : n₀ ≤ m₀) (hk : KP n₀ X W W') : PathIn m₀ X W' A c p := by
  rcases h with h | ⟨h1, b, cs, h2, h3, h4, h5, h6⟩
  · exact .inl h
  · exact .inr ⟨h1, b, cs, h2, h3, hk.blk h4 (by omega) h5, h5, h6⟩

def PartIn (W : World) (bt o : Nat) (zs : List Int) : Prop := ∀ j (h : j < zs.length), W.cell? ⟨bt, o + j, none⟩ = some (.int .i64 zs[j])
theorem PartIn.keep {W W' : World} {bt o : Nat} {zs : List Int} (h : PartIn W bt o zs) (hb : bt < n₀) (hk : KP n₀ X W W') : PartIn W' bt o zs :=
  fun j hj => (hk.below.cell (p := ⟨bt, o + j, none⟩) hb).trans (h j hj)
theorem PartIn.ints {W : World} {bt o : Nat} {zs : List Int} (h : PartIn W bt o zs) (hb : bt < W.heap.size) (hm : zs.length ≤ 1000000) : IntsAt W W.heap.size (some ⟨bt, o, none⟩) zs.length zs :=
  ⟨rfl, by omega, fun _ => ⟨bt, o, rfl, hb, h⟩⟩
theorem PartIn.arg {W : World} {bt o : Nat} {ss : Sg} {zs : List Int} {k : Nat} (h : PartIn W bt o zs) : PartIn W bt (o + pos ss zs k) (argL ss zs k) := by
  intro j hj
  have hj2 : pos ss zs k + j < zs.length := by
    unfold argL at hj
    rw [List.length_take, List.length_drop] at hj
    omega
  have := h (pos ss zs k + j) hj2
  rw [Nat.add_assoc, this]
  congr 2
  simp [argL]

/-- What a round may know of what it is handed. -/
structure PtIn (m₀ : Nat) (X : Nat → Obj → Prop) (ss : Sg) (bt : Nat) (W : World) (x : Pt) : Prop where
  path : PathIn m₀ X W x.A x.c x.it.1
  plen : x.it.1.length ≤ 1000
  part : PartIn W bt x.it.2.1 x.it.2.2
  len : 1 ≤ x.it.2.2.length ∧ x.it.2.2.length ≤ 60 ∧ x.it.2.2.length ≤ x.cp ∧ x.cp ≤ 9223372036854775807
  heads : HeadsOk ss x.it.2.2
  scan : scan ss 1 x.it.2.2 = some []
theorem PtIn.keep {ss : Sg} {bt : Nat} {W W' : World} {x : Pt} (h : PtIn m₀ X ss bt W x) (hn : n₀ ≤ m₀) (hb : bt < n₀) (hk : KP n₀ X W W') : PtIn m₀ X ss bt W' x :=
  ⟨h.path.keep hn hk, h.plen, h.part.keep hb hk, h.len, h.heads, h.scan⟩

/-- The closure's captured variables. -/
structure Ctx (n₀ l By Bs Bw : Nat) (As : Option Addr) (ns cs : Nat) (ss : Sg) (W : World) : Prop where
  y : Blk W By 132 #[.func (.yield l) #[] #[]]
  s : Blk W Bs 23 #[.slice As ns cs]
  w : Blk W Bw 132 #[.func (.func 108) #[] #[.pointer (some ⟨By, 0, none⟩), .pointer (some ⟨Bs, 0, none⟩), .pointer (some ⟨Bw, 0, none⟩)]]
  sig : SigAt W n₀ As ns ss
  size : n₀ ≤ W.heap.size
/-- .. and none of them is turned by a round. -/
structure Fix (n₀ : Nat) (X : Nat → Obj → Prop) (By Bs Bw : Nat) : Prop where
  y : n₀ ≤ By ∧ ∀ cs, ¬ X By (.cells cs 132 (0, 0))
  s : n₀ ≤ Bs ∧ ∀ cs, ¬ X Bs (.cells cs 23 (0, 0))
  w : n₀ ≤ Bw ∧ ∀ cs, ¬ X Bw (.cells cs 132 (0, 0))
theorem Ctx.keep {l By Bs Bw : Nat} {As : Option Addr} {ns cs : Nat} {ss : Sg} {W W' : World} (h : Ctx n₀ l By Bs Bw As ns cs ss W) (hF : Fix n₀ X By Bs Bw) (hk : KP n₀ X W W') : Ctx n₀ l By Bs Bw As ns cs ss W' :=
  ⟨hk.blk h.y hF.y.1 (hF.y.2 _), hk.blk h.s hF.s.1 (hF.s.2 _), hk.blk h.w hF.w.1 (hF.w.2 _), h.sig.below hk.below, Nat.le_trans h.size hk.below.size⟩


def pv (k : Nat) : Value := .int .i64 (k : Int)
theorem PathIn.lt {W : World} {A : Option Addr} {c : Nat} {p : List Nat} (h : PathIn m₀ X W A c p) (hp : p ≠ []) : ∃ b cs, A = some ⟨b, 0, none⟩ ∧ b < W.heap.size ∧ Blk W b 3 cs ∧ ∀ j (h : j < p.length), cs[j]? = some (.int .i64 (p[j] : Nat)) := by
  rcases h with ⟨h, _⟩ | ⟨h1, b, cs, h2, h3, h4, h5, h6⟩
  · exact absurd h hp
  · exact ⟨b, cs, h2, h4.lt, h4, h6⟩
theorem cloneP {W : World} {A : Option Addr} {c : Nat} {p : List Nat} (h : PathIn m₀ X W A c p) (hpl : p.length ≤ 1000) :
    Calls Try.prog 110 #[.slice A p.length c] W fun e W' => ∃ v, e = .returned v ∧ W'.ownsRow W.heap.size 3 1 v p.length (p.map pv) ∧ Below W.heap.size W W' := by
  by_cases hp : p = []
  · subst hp
    rcases h with ⟨_, rfl, rfl⟩ | ⟨h1, _⟩
    · exact cloneI_nil W
    · exact absurd rfl h1
  · obtain ⟨b, cs, rfl, hb, hB, hc⟩ := h.lt hp
    have hl : 1 ≤ p.length := by cases p with
      | nil => exact absurd rfl hp
      | cons x r => simp
    have := cloneI_any W b 0 p.length c (p.map (fun k : Nat => (k : Int))) hl (by omega) (by simp) (fun j hj => by
      rw [Nat.zero_add, hB.cell, hc j (by simpa using hj)]; simp) hb
    refine this.mono ?_
    rintro e W' ⟨v, rfl, h1, h2⟩
    simp only [List.map_map, List.length_map] at h1
    exact ⟨v, rfl, h1, h2⟩
theorem path_of_row {W : World} {base g cap : Nat} {p : List Nat} {k : Nat} (h : W.ownsRow base 3 1 (.slice (some ⟨g, 0, none⟩) (p.length + 1) cap) (p.length + 1) (p.map pv ++ [pv k])) (hb : m₀ ≤ base) (hX3 : ∀ b cs z, m₀ ≤ b → ¬ X b (.cells cs 3 z)) :
    PathIn m₀ X W (some ⟨g, 0, none⟩) cap (p ++ [k]) := by
  obtain ⟨hl, h0 | ⟨g', cap', cur, he, hbg, hcur, hn1, hn2, hsz, htk⟩⟩ := h
  · cases h0.1
  · cases he
    refine .inr ⟨by simp, g, cur, rfl, by omega, hcur, hX3 _ _ _ (by omega), fun j hj => ?_⟩
    have hj' : j < (p.length + 1) * 1 := by simpa using hj
    have e1 : cur.toList[j]? = (cur.toList.take ((p.length + 1) * 1))[j]? := by rw [List.getElem?_take, if_pos hj']
    rw [← Array.getElem?_toList, e1, htk]
    have e2 : p.map pv ++ [pv k] = (p ++ [k]).map pv := by simp
    rw [e2, List.getElem?_map, List.getElem?_eq_getElem hj]
    rfl

end Go.Proofs.Ytlciaecclcckbaa

/- The iterator over the parts of a term: the recursive closure. -/
namespace Go.Proofs.Ytlciaecclcckbaa
open Go.RowKit Go.Shelf
attribute [local go_sem] Oper.semAt_some

theorem room_any {F : Fence} (hd : F.depth = none) (k : Nat) : F.room k := fun d h => by rw [hd] at h; cases h
theorem YieldAt.any {F : Fence} (hd : F.depth = none) {m : Nat} (m' : Nat) {P : Program} {l : Nat} {args : Array Value} {W : World} {R : Ending → World → Prop} (h : YieldAt F m P l args W R) : YieldAt F m' P l args W R := by
  obtain ⟨fn, tmps, assign, body, hy, hR⟩ := h
  exact ⟨fn, tmps, assign, body, hy, ⟨hR.1, fun c cs _ => hR.2 c cs (room_any hd _)⟩⟩

def WPost (n₀ : Nat) (X : Nat → Obj → Prop) (J : List Pt → World → Prop) (pre : List Pt) (W : World) (its : List It) (e : Ending) (W' : World) : Prop :=
  e = .returned (.bool true) ∧ ∃ xs, xs.map Pt.it = its ∧ J (pre ++ xs) W' ∧ KP n₀ X W W'

theorem acells_into (ss : Sg) (zs : List Int) (bt o r : Nat) : ∀ v ∈ (acells ss zs bt o r r).toList, Into bt v := by
  intro v hv
  unfold acells at hv
  rw [Nat.sub_self, List.replicate_zero, List.append_nil] at hv
  obtain ⟨i, _, rfl⟩ := List.mem_map.1 hv
  exact ⟨_, _, _, rfl⟩

set_option maxRecDepth 100000 in
set_option maxHeartbeats 2000000 in
theorem tour_in (n₀ m₀ l bt By Bs Bw N : Nat) (X : Nat → Obj → Prop) (As : Option Addr) (ns cs : Nat) (ss : Sg) (J : List Pt → World → Prop) (hnm : n₀ ≤ m₀) (hbt : bt < n₀) (har : ArOk ss) (hns : 1 ≤ ns) (hns2 : ns ≤ 12)
    (hX3 : ∀ b cs z, m₀ ≤ b → ¬ X b (.cells cs 3 z)) (hX25 : ∀ b cs z, m₀ ≤ b → (∀ v ∈ cs.toList, Into bt v) → ¬ X b (.cells cs 25 z)) (hfix : Fix n₀ X By Bs Bw)
    (hJ : ∀ pre W W', J pre W → m₀ ≤ W.heap.size → Below W.heap.size W W' → J pre W')
    (hY : ∀ m pre x W, J pre W → PtIn m₀ X ss bt W x → pre.length < N → YieldAt Fence.wide m Try.prog l (x.encs bt) W fun e W' =>
      e = .returned (.bool true) ∧ J (pre ++ [x]) W' ∧ KP n₀ X W W') :
    ∀ (f : Nat) (zs : List Int) (p : List Nat) (o n : Nat) (A : Option Addr) (c cp : Nat) (pre : List Pt) (W : World), zs.length ≤ f → 1 ≤ zs.length → zs.length ≤ 60 → zs.length ≤ cp → cp ≤ 9223372036854775807 → p.length + f ≤ 1000 → HeadsOk ss zs → scan ss 1 zs = some [] →
      Ctx n₀ l By Bs Bw As ns cs ss W → m₀ ≤ W.heap.size → PathIn m₀ X W A c p → PartIn W bt o zs → J pre W → pre.length + (walkL ss f p o zs).length ≤ N →
      CallsIn Fence.wide n Try.prog 108 #[.slice A p.length c, .slice (some ⟨bt, o, none⟩) zs.length cp, .pointer (some ⟨By, 0, none⟩), .pointer (some ⟨Bs, 0, none⟩), .pointer (some ⟨Bw, 0, none⟩)] W
        (WPost n₀ X J pre W (walkL ss f p o zs)) := by
  intro f
  induction f with
  | zero => intro zs p o n A c cp pre W h1 h2; omega
  | succ f ih =>
    intro zs p o n A c cp pre W hf h1 h60 hcp hcp2 hpl hh hscan hctx hm hpath hpart hJ0 hN
    have hN1 : pre.length < N := by
      have : 1 ≤ (walkL ss (f + 1) p o zs).length := by simp [walkL]
      omega
    obtain ⟨fn, tmps, assign, body, hy, hR⟩ := hY (n - 1) pre ⟨A, c, cp, (p, o, zs)⟩ W hJ0 ⟨hpath, by show p.length ≤ 1000; omega, hpart, ⟨h1, h60, hcp, hcp2⟩, hh, hscan⟩ hN1
    have cy := hctx.y.cell 0
    have hy' : (Instr.yield l #[.slice A p.length c, .slice (some ⟨bt, o, none⟩) zs.length cp]).run Try.prog W = .ok (.round l fn tmps assign body) W := hy
    have HCTX := Lib.hid hctx
    have HIH := Lib.hid ih
    have HSC := Lib.hid hscan
    have HHH := Lib.hid hh
    have HJ := Lib.hid hJ
    have HY := Lib.hid hY
    have HPATH := Lib.hid hpath
    have HPART := Lib.hid hpart
    have HX3 := Lib.hid hX3
    have HX25 := Lib.hid hX25
    have HRR := Lib.hid (hR.mono (R' := fun e W1 => e = .returned (.bool true) ∧ J (pre ++ [⟨A, c, cp, (p, o, zs)⟩]) W1 ∧ KP n₀ X W W1 ∧ W1.cell? ⟨Bs, 0, none⟩ = some (.slice As ns cs))
      (fun e W1 ⟨a1, a2, a3⟩ => ⟨a1, a2, a3, (hctx.keep hfix a3).s.cell 0⟩))
    have HAR := Lib.hid har
    clear hctx ih hscan hh hJ hY hpath hpart hX3 hX25 hy hR hJ0 har
    have hl0 : 0 < zs.length := by omega
    have hsign := HCTX.out.sig
    have hhd : zs.headD 0 = zs[0] := by cases zs with
      | nil => simp at hl0
      | cons z r => rfl
    have hpre : ∀ (xs : List Pt), pre ++ (⟨A, c, cp, (p, o, zs)⟩ :: xs) = (pre ++ [⟨A, c, cp, (p, o, zs)⟩]) ++ xs := fun xs => by simp
    by_cases hneg : zs[0] < 0
    · have hw : walkL ss (f + 1) p o zs = [(p, o, zs)] := by
        simp only [walkL, hhd, arOf, hneg, if_true, List.range_zero, List.flatMap_nil]
      have HW := Lib.hid hw
      have HC0 := Lib.hid (fun W1 (hK : KP n₀ X W W1) => (HPART.out.keep hbt hK) 0 hl0)
      obtain ⟨z, hz⟩ : ∃ z, zs[0] = z := ⟨_, rfl⟩
      rw [hz] at hneg HC0
      clear hw hhd hsign hN hpre hz
      refine callsIn_of_wp Try.func108 rfl trivial ?_ rfl
      simp only [Try.ntmps108, List.size_toArray, List.length_cons, List.length_nil, Nat.reduceAdd, Nat.reduceSub, Array.replicate_succ, Array.replicate_zero, List.push_toArray, List.append_toArray, List.nil_append, List.cons_append]
      gi_wp2_with (first
        | (refine ⟨trivial, fun h => (by cases h), ?_⟩; gi_at_call 109; refine (callsIn_wide.2 (arguments_var As ns cs bt o zs.length cp z W1 h1 (HC0.out W1 hK1) hneg)).mono ?_; rintro e W2 ⟨rfl, rfl⟩)
        | ((try refine ⟨fun h => (by cases h), ?_⟩); refine HRR.out.mono ?_; rintro e W1 ⟨rfl, hJ1, hK1, hcs1⟩))
      gi_loop [19] (fun i => i = .int .i64 0) (fun _ => 0)
      case atStart => rfl
      case round =>
        subst hrel
        gi_wp2
        go_ret
        exact ⟨rfl, [⟨A, c, cp, (p, o, zs)⟩], by rw [HW.out]; rfl, hJ1, hK1⟩
    · have hin := List.getElem_mem hl0
      have hzl := HHH.out _ hin
      obtain ⟨q, hq⟩ : ∃ q : Nat, zs[0] = (q : Int) := ⟨zs[0].toNat, by omega⟩
      rw [hq] at hzl
      have hqs : q < ss.length := by omega
      obtain ⟨ha0, ha3⟩ := HAR.out _ (List.getElem_mem hqs)
      obtain ⟨r, hr⟩ : ∃ r : Nat, ss[q].2 = (r : Int) := ⟨ss[q].2.toNat, by omega⟩
      rw [hr] at ha3
      have hr3 : r ≤ 3 := by omega
      have har1 : arOf ss zs[0] = r := by rw [hq, arOf_at hqs, hr, Int.toNat_natCast]
      have hrest : scan ss r (zs.drop 1) = some [] := by rw [← har1]; exact scan_head HSC.out hl0
      have hw : walkL ss (f + 1) p o zs = (p, o, zs) :: (List.range r).flatMap fun k => walkL ss f (p ++ [k]) (o + pos ss zs k) (argL ss zs k) := by
        simp only [walkL, hhd, har1]
      have HC := Lib.hid (fun W1 (hK : KP n₀ X W W1) => arguments_sym As ns cs bt o zs.length cp q r ss zs W1 ((HCTX.out.keep hfix hK).sig.more (HCTX.out.keep hfix hK).size) ((HPART.out.keep hbt hK).ints (by have := (HCTX.out.keep hfix hK).size; omega) (by omega)) HAR.out hns hns2 h1 h60 hcp hcp2 HHH.out HSC.out (by rw [List.getElem?_eq_getElem hl0, hq]) (by rw [List.getElem?_eq_getElem hqs]; simp [hr]))
      have HW := Lib.hid hw
      have HREST := Lib.hid hrest
      clear hw hhd hsign hpre hq hr har1 hrest hzl hin ha0 ha3 hneg
      refine callsIn_of_wp Try.func108 rfl trivial ?_ rfl
      simp only [Try.ntmps108, List.size_toArray, List.length_cons, List.length_nil, Nat.reduceAdd, Nat.reduceSub, Array.replicate_succ, Array.replicate_zero, List.push_toArray, List.append_toArray, List.nil_append, List.cons_append]
      gi_wp2_with (first
        | (refine ⟨trivial, fun h => (by cases h), ?_⟩; gi_at_call 109; refine (callsIn_wide.2 (HC.out W1 hK1)).mono ?_; rintro e W2 ⟨rfl, hB2, hF2⟩)
        | ((try refine ⟨fun h => (by cases h), ?_⟩); refine HRR.out.mono ?_; rintro e W1 ⟨rfl, hJ1, hK1, hcs1⟩))
      · refine wpIn_wide.2 ?_
        have hm1 : m₀ ≤ W1.heap.size := Nat.le_trans hm hK1.below.size
        have hJ2 := HJ.out _ _ _ hJ1 hm1 hB2
        have hK2 := hK1.trans (KP.of_below (X := X) hB2 (by omega))
        have HJ2 := Lib.hid hJ2
        have HK2 := Lib.hid hK2
        have HF2 := Lib.hid hF2
        obtain ⟨Na, hNa⟩ : ∃ Na, W1.heap.size = Na := ⟨_, rfl⟩
        rw [hNa] at hm1 HF2
        rw [hNa]
        clear hJ1 hK1 hB2 hF2 hJ2 hK2 hcs1 hNa
        go_loopw [19] (fun i wr => ∃ (k : Nat) (xs : List Pt), k ≤ r ∧ i = .int .i64 k ∧ xs.map Pt.it = (List.range k).flatMap (fun k => walkL ss f (p ++ [k]) (o + pos ss zs k) (argL ss zs k)) ∧ J (pre ++ [⟨A, c, cp, (p, o, zs)⟩] ++ xs) wr ∧ KP n₀ X W2 wr) (fun i _ => r - (intOf i).toNat)
        case atStart => exact ⟨0, [], Nat.zero_le _, rfl, rfl, by simpa using HJ2.out, KP.refl _⟩
        case round =>
          obtain ⟨k, xs, hk, rfl, hxs, hJr, hKr⟩ := hrel
          by_cases hlt : k < r
          · obtain ⟨hs1, hs2, hs3⟩ := pos_step HREST.out h1 hlt
            obtain ⟨_, hs4, _⟩ := pos_scan HREST.out h1 (Nat.le_of_lt hlt)
            obtain ⟨_, _, hs5⟩ := pos_scan HREST.out h1 (show k + 1 ≤ r from hlt)
            obtain ⟨ha1, ha2⟩ := argL_ok HREST.out h1 hlt
            have hKW := HK2.out.trans hKr
            have hctx := HCTX.out.keep hfix hKW
            have hpath := HPATH.out.keep hnm hKW
            have hpart := (HPART.out.keep hbt hKW).arg (ss := ss) (k := k)
            have hFr := hKr.blk HF2.out (by omega) (HX25.out _ _ _ hm1 (acells_into ss zs bt o r))
            have cw := hctx.w.cell 0
            have hBwlt := hctx.w.lt
            have cA := (hFr.cell k).trans (acells_all ss zs bt o r hlt)
            unfold argV at cA
            rw [← ha2] at cA
            have hmr : m₀ ≤ wr.heap.size := Nat.le_trans hm hKW.below.size
            have HS1 := Lib.hid ha1
            have HL := Lib.hid ha2
            have HPA := Lib.hid hpath
            have HPP := Lib.hid hpart
            have HCT := Lib.hid hctx
            have HJR := Lib.hid hJr
            have HKR := Lib.hid hKr
            have HXS := Lib.hid hxs
            obtain ⟨q', hq'⟩ : ∃ q', pos ss zs k = q' := ⟨_, rfl⟩
            obtain ⟨L, hL⟩ : ∃ L, argL ss zs k = L := ⟨_, rfl⟩
            rw [hq', hL] at cA
            clear hs1 hs3 ha1 ha2 hKW hctx hpath hpart hFr hJr hKr hxs
            have CALL := Lib.hid (fun (V : World) (g cap : Nat) (hb : Below wr.heap.size wr V) (hp : PathIn m₀ X V (some ⟨g, 0, none⟩) cap (p ++ [k])) =>
              callsIn_wide.1 (HIH.out (argL ss zs k) (p ++ [k]) (o + pos ss zs k) n (some ⟨g, 0, none⟩) cap (argL ss zs k).length (pre ++ [⟨A, c, cp, (p, o, zs)⟩] ++ xs) V
                (by have := HL.out; omega) (by have := HL.out; omega) (by have := HL.out; omega) (Nat.le_refl _) (by have := HL.out; omega) (by simp; omega) (fun z hz => HHH.out z (List.mem_of_mem_drop (List.mem_of_mem_take hz))) HS1.out
                (HCT.out.keep hfix (KP.of_below hb HCT.out.size)) (Nat.le_trans hmr hb.size) hp (HPP.out.keep hbt (KP.of_below (X := X) hb HCT.out.size)) (HJ.out _ _ _ HJR.out hmr hb) (by
                  have e1 := HW.out
                  have e2 : xs.length = ((List.range k).flatMap (fun k => walkL ss f (p ++ [k]) (o + pos ss zs k) (argL ss zs k))).length := by rw [← HXS.out, List.length_map]
                  have e3 : List.range r = List.range k ++ ([k] ++ (List.range (r - (k + 1))).map (k + 1 + ·)) := by
                    rw [← List.append_assoc, ← List.range_succ, ← List.range_add]
                    congr 1; omega
                  rw [e1, e3, List.flatMap_append, List.flatMap_append] at hN
                  simp only [List.length_cons, List.length_append, List.flatMap_cons, List.flatMap_nil, List.append_nil, List.length_nil] at hN ⊢
                  omega)))
            rw [hq', hL] at CALL
            have CALLB := Lib.hid (fun (V : World) (g cap : Nat) (hb : Below wr.heap.size wr V) (hp : PathIn m₀ X V (some ⟨g, 0, none⟩) cap (p ++ [k])) => (CALL.out V g cap hb hp).mono (R' := fun e W' => e = .returned (.bool true) ∧ W'.cell? ⟨Bw, 0, none⟩ = some (.func (.func 108) #[] #[.pointer (some ⟨By, 0, none⟩), .pointer (some ⟨Bs, 0, none⟩), .pointer (some ⟨Bw, 0, none⟩)]) ∧ ∃ ys, ys.map Pt.it = walkL ss f (p ++ [k]) (o + q') L ∧ J (pre ++ [⟨A, c, cp, (p, o, zs)⟩] ++ xs ++ ys) W' ∧ KP n₀ X wr W') (fun e W' ⟨h1, ys, h2, h3, h4⟩ =>
              ⟨h1, ((HCT.out.keep hfix ((KP.of_below (X := X) hb HCT.out.size).trans h4)).w.cell 0), ys, h2, h3, (KP.of_below (X := X) hb HCT.out.size).trans h4⟩))
            simp only [List.length_append, List.length_cons, List.length_nil] at CALLB
            clear CALL
            obtain ⟨i0, hi, hz0, hz1, hz2⟩ := info_parts info_int
            have hbw := hBwlt
            have HQ := Lib.hid (show walkL ss f (p ++ [k]) (o + q') L = walkL ss f (p ++ [k]) (o + pos ss zs k) (argL ss zs k) by rw [hq', hL])
            have HIH0 := hq'
            have HPD : Hid (PathIn m₀ X wr.drew A c p) := HPA.out
            have HPB : Hid (PathIn m₀ X (wr.drew.alloc (.cells #[.int .i64 (k : Int)] 3)) A c p) := Lib.hid (HPA.out.keep hnm (KP.of_below (X := X) (((Below.refl _ wr).drew).alloc (Nat.le_refl _) _) HCT.out.size))
            have hp1 : p.length ≤ 1000 := by omega
            clear HIH HSC HHH HJ HY HRR HAR HREST HC HS1 hq' hL hfix HIH0
            go_wp2_with fail
            go_region_held3 (fun w' => w'.cell? ⟨Bw, 0, none⟩ = some (.func (.func 108) #[] #[.pointer (some ⟨By, 0, none⟩), .pointer (some ⟨Bs, 0, none⟩), .pointer (some ⟨Bw, 0, none⟩)]))
              (first | go_keep | assumption)
              (first
                | (go_at_call 110; refine (cloneP (X := X) (m₀ := m₀) (p := p) HPD.out hp1).mono ?_; rintro e W3 ⟨v, rfl, hrow, hB3⟩; have HROW := Lib.hid hrow; have cw3 := (hB3.cell (p := ⟨Bw, 0, none⟩) hbw).trans cw; clear hrow)
                | (go_at_call 110; refine (cloneP (X := X) (m₀ := m₀) (p := p) HPB.out hp1).mono ?_; rintro e W3 ⟨v, rfl, hrow, hB3⟩
                   have HROWB := Lib.hid hrow
                   have hB3' := hB3
                   have hb3 : Below wr.heap.size wr W3 := (((Below.refl _ wr).drew).alloc (Nat.le_refl _) _).trans (hB3.mono (by simp))
                   have cw3 := (hb3.cell (p := ⟨Bw, 0, none⟩) hbw).trans cw
                   have HBLK := Lib.hid (show W3.heap[wr.heap.size]? = some (.cells #[pv k] 3 (0, 0)) from (hB3.block wr.heap.size (by simp)).trans (heap_alloc_new wr.drew _))
                   have HB3 := Lib.hid hb3
                   clear hrow hb3)
                | (refine step_append_lies _ (by rfl) _ _ _ (by rfl) _ 3 i0 _ 1 8 Try.underlying24 hi hz0 hz1 hz2 rfl (by omega) v p.length (p.map pv) (by rfl) HROWB.out ⟨wr.heap.size, 0, none⟩ 1 1 [pv k] (by rfl) (by rfl) (World.news_of_block (cs := #[pv k]) (t := 3) (fr := (0, 0)) HBLK.out) (by simp [Value.oneCell', pv]) (by omega) (by unfold maxLen; omega) (by omega) hB3'.size _ rfl ?_
                   intro gg cap4 W4 hrow4 hgrow _ _
                   have hb4 : Below wr.heap.size wr W4 := HB3.out.grown hgrow HB3.out.size (fun j e => by have := (HROWB.out.lt j e).1; simp at this; omega)
                   have hp4 := path_of_row (m₀ := m₀) (X := X) hrow4 (by simp; omega) HX3.out
                   have cw4 := (hb4.cell (p := ⟨Bw, 0, none⟩) hbw).trans cw
                   have HB4 := Lib.hid hb4
                   have HP4 := Lib.hid hp4
                   clear hrow4 hgrow hb4 hp4)
                | (refine step_append_lies _ (by rfl) _ _ _ (by rfl) _ 3 i0 _ 1 8 Try.underlying24 hi hz0 hz1 hz2 rfl (by omega) v p.length (p.map pv) (by rfl) (HROW.out.alloc _) ⟨W3.heap.size, 0, none⟩ 1 1 [pv k] (by rfl) (by rfl) (World.news_of_block (cs := #[pv k]) (t := 3) (fr := (0, 0)) (heap_alloc_new W3 _)) (by simp [Value.oneCell', pv]) (by omega) (by unfold maxLen; omega) (by omega) (by have := hB3.size; simp at this ⊢; omega) _ rfl ?_
                   intro gg cap4 W4 hrow4 hgrow _ _
                   have hb4 : Below wr.heap.size wr W4 := ((((Below.refl _ wr).drew).trans hB3).alloc hB3.size _).grown hgrow (by have := hB3.size; simp at this ⊢; omega) (fun j e => (HROW.out.lt j e).1)
                   have hp4 := path_of_row (m₀ := m₀) (X := X) hrow4 hmr HX3.out
                   have cw4 := (hb4.cell (p := ⟨Bw, 0, none⟩) hbw).trans cw
                   have HB4 := Lib.hid hb4
                   have HP4 := Lib.hid hp4
                   clear hrow4 hgrow hb4 hp4)
                | (go_at_call 108; refine (CALLB.out _ _ _ HB4.out HP4.out).mono ?_; rintro e W5 ⟨rfl, cw5, h5⟩; have H5 := Lib.hid h5; clear h5))
            all_goals
              go_wp2
              obtain ⟨ys, hy1, hy2, hy3⟩ := H5.out
              go_roundw
              case rel => exact ⟨k + 1, xs ++ ys, by omega, by go_num, by rw [List.map_append, HXS.out, hy1, List.range_succ, List.flatMap_append, HQ.out]; simp, by simpa using hy2, HKR.out.trans hy3⟩
              case measure => simp [intOf]; omega
          · obtain rfl : k = r := by omega
            have HXS := Lib.hid hxs
            clear hxs
            go_wp2
            gi_wp2
            go_ret
            exact ⟨rfl, ⟨A, c, cp, (p, o, zs)⟩ :: xs, by rw [HW.out, List.map_cons, HXS.out], by simpa using hJr, HK2.out.trans hKr⟩

end Go.Proofs.Ytlciaecclcckbaa

/- The iterator over the parts of a term: the outer closure; places. -/
namespace Go.Proofs.Ytlciaecclcckbaa
open Go.RowKit Go.Shelf
attribute [local go_sem] Oper.semAt_some

set_option maxRecDepth 100000 in
set_option maxHeartbeats 2000000 in
theorem places1_in (n₀ m₀ l bt Bs Bt N n : Nat) (X : Nat → Obj → Prop) (As : Option Addr) (ns cs o ct : Nat) (ss : Sg) (zs : List Int) (J : List Pt → World → Prop) (hnm : n₀ ≤ m₀) (hbt : bt < n₀) (har : ArOk ss) (hns : 1 ≤ ns) (hns2 : ns ≤ 12)
    (hX3 : ∀ b cs z, m₀ ≤ b → ¬ X b (.cells cs 3 z)) (hX25 : ∀ b cs z, m₀ ≤ b → (∀ v ∈ cs.toList, Into bt v) → ¬ X b (.cells cs 25 z)) (hX86 : ∀ b cs z, m₀ ≤ b → ¬ X b (.cells cs 132 z)) (hXs : n₀ ≤ Bs ∧ ∀ cs, ¬ X Bs (.cells cs 23 (0, 0)))
    (hJ : ∀ pre W W', J pre W → m₀ ≤ W.heap.size → Below W.heap.size W W' → J pre W')
    (hY : ∀ m pre x W, J pre W → PtIn m₀ X ss bt W x → pre.length < N → YieldAt Fence.wide m Try.prog l (x.encs bt) W fun e W' =>
      e = .returned (.bool true) ∧ J (pre ++ [x]) W' ∧ KP n₀ X W W')
    (W : World) (h1 : 1 ≤ zs.length) (h60 : zs.length ≤ 60) (hcp : zs.length ≤ ct) (hcp2 : ct ≤ 9223372036854775807) (hh : HeadsOk ss zs) (hscan : scan ss 1 zs = some [])
    (hBs : Blk W Bs 23 #[.slice As ns cs]) (hBt : Blk W Bt 25 #[.slice (some ⟨bt, o, none⟩) zs.length ct]) (hsig : SigAt W n₀ As ns ss) (hm : m₀ ≤ W.heap.size) (hpart : PartIn W bt o zs) (hJ0 : J [] W) (hN : (walkL ss zs.length [] o zs).length ≤ N) :
    CallsIn Fence.wide n Try.prog 107 #[.func (.yield l) #[] #[], .pointer (some ⟨Bs, 0, none⟩), .pointer (some ⟨Bt, 0, none⟩)] W fun e W' =>
      (∃ v, e = .returned v) ∧ ∃ xs, xs.map Pt.it = walkL ss zs.length [] o zs ∧ J xs W' := by
  let cl : Value := .func (.func 108) #[] #[.pointer (some ⟨W.heap.size, 0, none⟩), .pointer (some ⟨Bs, 0, none⟩), .pointer (some ⟨W.heap.size + 1, 0, none⟩)]
  let W1 := W.alloc (.cells #[.func (.yield l) #[] #[]] 132)
  let W2 := W1.alloc (.cells #[cl] 132)
  have hz1 : W1.heap.size = W.heap.size + 1 := by simp [W1]
  have hB : Below W.heap.size W W2 := ((Below.refl _ W).alloc (Nat.le_refl _) _).alloc (by simp) _
  have hK : KP n₀ X W W2 := KP.of_below hB (by omega)
  have ky : Blk W2 W.heap.size 132 #[.func (.yield l) #[] #[]] := (Blk.new W _ _).alloc _
  have kw : Blk W2 (W.heap.size + 1) 132 #[cl] := by
    rw [← hz1]
    exact Blk.new W1 _ _
  have hfix : Fix n₀ X W.heap.size Bs (W.heap.size + 1) := ⟨⟨by omega, fun cs => hX86 _ _ _ hm⟩, hXs, ⟨by omega, fun cs => hX86 _ _ _ (by omega)⟩⟩
  have hctx : Ctx n₀ l W.heap.size Bs (W.heap.size + 1) As ns cs ss W2 := ⟨ky, hK.blk hBs hXs.1 (hXs.2 _), kw, hsig.below hK.below, Nat.le_trans (by omega) hB.size⟩
  have C := tour_in n₀ m₀ l bt W.heap.size Bs (W.heap.size + 1) N X As ns cs ss J hnm hbt har hns hns2 hX3 hX25 hfix hJ hY zs.length zs [] o (n - 1) none 0 ct [] W2 (Nat.le_refl _) h1 h60 hcp hcp2 (by simp; omega) hh hscan hctx (Nat.le_trans hm hB.size) (.inl ⟨rfl, rfl, rfl⟩) (hpart.keep hbt hK) (hJ _ _ _ hJ0 hm hB) (by simpa using hN)
  have HC := Lib.hid C
  have ct0 := hBt.cell 0
  have lt0 := hBt.lt
  have HB := Lib.hid hB
  clear C hctx hfix ky kw hK hJ hY hX3 hX25 hX86 hXs hB hBs hBt hsig hpart hJ0 hN hz1 hh hscan har
  simp only [Array.getElem?_singleton, if_true] at ct0
  refine callsIn_of_wp Try.func107 rfl trivial ?_ rfl
  simp only [Try.ntmps107, List.size_toArray, List.length_cons, List.length_nil, Nat.reduceAdd, Nat.reduceSub, Array.replicate_succ, Array.replicate_zero, List.push_toArray, List.append_toArray, List.nil_append, List.cons_append]
  gi_wp2_with (refine ⟨trivial, fun h => (by cases h), ?_⟩; gi_at_call 108; refine HC.out.mono ?_; rintro e W5 ⟨rfl, xs, h1, h2, h3⟩)
  go_end0
  exact ⟨⟨_, rfl⟩, xs, h1, h2⟩

end Go.Proofs.Ytlciaecclcckbaa

/- A range over the iterator whose body never leaves the loop and is told something of what it is handed, in the world at hand. -/
namespace Go.Proofs.Ytlciaecclcckbaa
open Go.RowKit Go.Shelf

theorem grown_of_below {A B : World} (h : Below A.heap.size A B) : A.grownBy B none := ⟨h.os, h.tape, h.output, h.size, fun k hk _ => h.block k hk⟩

theorem range_parts {P : Program} {α : Type} {g : Operand} {ps : Array Tmp} {assign body : Code} {Q : Exit → Act → World → Prop} {a : Act} {w : World} {n gf : Nat} {lb : Array Value}
    (hg : a.eval g = .func (.func gf) #[] lb) (eg : ∀ args w, (callFunc gf args).run P w = .ok (.enter gf args) w) {encs : α → Array Value} (hps : ∀ x, (encs x).size = ps.size)
    (Hx : α → World → Prop) (Kp : World → World → Prop) (S : List α → Prop) (N : Nat) (I : List α → World → Prop) (hI : OwnFrom w.heap.size I)
    (hHx : ∀ x W l o o', Hx x W → w.heap.size ≤ l → W.heap[l]? = some o → o.isCells = false → Hx x (W.putObj l o'))
    (hKt : ∀ {A B C : World}, Kp A B → Kp B C → Kp A C) (hKb : ∀ (W : World) (l : Nat) (o o' : Obj), w.heap.size ≤ l → W.heap[l]? = some o → o.isCells = false → o.isWalk = false → Kp W (W.putObj l o'))
    (h0 : I [] w)
    (hseq : ∀ (l : Nat) (J : List α → World → Prop) (V : World), Below w.heap.size w V → (∀ pre A B, J pre A → Below A.heap.size A B → J pre B) →
      (∀ m pre x A, J pre A → Hx x A → pre.length < N → YieldAt Fence.wide m P l (encs x) A fun e B => e = .returned (.bool true) ∧ J (pre ++ [x]) B ∧ Kp A B) → J [] V →
      CallsIn Fence.wide (n - 1) P gf (#[.func (.yield l) #[] #[]] ++ lb) V fun e B => (∃ v, e = .returned v) ∧ ∃ xs, S xs ∧ J xs B)
    (a₁ : α → Act)
    (hassign : ∀ (l m : Nat) (x : α) (W : World) (K : Act → World → Prop), K (a₁ x) W →
      assign.wpIn (Fence.wide.inRound l) m P (Exit.then K (fun _ _ _ => False)) { tmps := (ps.zip (encs x)).foldl (fun t (p, v) => t.setIfInBounds p v) a.tmps, defers := [] } W)
    (hbody : ∀ (l m : Nat) (pre : List α) (x : α) (W : World), I pre W → Hx x W → pre.length < N → body.wpIn (Fence.wide.inRound l) m P (fun e _ W' => e = .normal ∧ KeepsFrom w.heap.size W W' ∧ Kp W W' ∧ I (pre ++ [x]) W') (a₁ x) W)
    (hdone : ∀ (D : Nat) (xs : List α) (W : World), w.heap.size ≤ D → S xs → I xs W → W.heap[D]? = some (.deferred (some [])) → Q .normal { a with defers := { target := .collected D, args := #[] } :: a.defers } W) :
    (Code.rangeFunc g ps assign body).wpIn Fence.wide n P Q a w := by
  refine wpIn_rangeFunc fun fn _ => ?_
  let rec0 (st : LoopState) : Loop := { state := st, pending := none, fn, tmps := a.tmps, params := ps, assign, body, defers := w.heap.size }
  let V := (w.alloc (.deferred (some []))).alloc (.loop (rec0 .ready))
  have sizeD : (w.alloc (.deferred (some []))).heap.size = w.heap.size + 1 := by simp
  have bV : Below w.heap.size w V := ((Below.refl _ w).alloc (Nat.le_refl _) _).alloc (by omega) _
  have atL : V.heap[w.heap.size + 1]? = some (.loop (rec0 .ready)) := by
    have := World.alloc_heap_new (w.alloc (.deferred (some []))) (.loop (rec0 .ready))
    rwa [sizeD] at this
  have atD : V.heap[w.heap.size]? = some (.deferred (some [])) := (Below.heap_alloc _ _ _ (by omega)).trans (World.alloc_heap_new w _)
  have iV : I [] V := hI.alloc _ (hI.alloc _ h0)
  let J (pre : List α) (A : World) : Prop := I pre A ∧ A.heap[w.heap.size + 1]? = some (.loop (rec0 .ready)) ∧ A.heap[w.heap.size]? = some (.deferred (some []))
  have round : ∀ m pre x A, J pre A → Hx x A → pre.length < N → YieldAt Fence.wide m P (w.heap.size + 1) (encs x) A fun e B => e = .returned (.bool true) ∧ J (pre ++ [x]) B ∧ Kp A B := by
    intro m pre x A ⟨i1, i2, i3⟩ hx hlen
    have ltL : w.heap.size + 1 < A.heap.size := (Array.getElem?_eq_some_iff.1 i2).1
    refine ⟨fn, _, assign, body, run_yield (P := P) i2 (hps x), roundIn_of_wpIn trivial (hassign _ _ x A _ ⟨_, run_beginRound i2 rfl, ?_⟩)⟩
    refine wpIn_mono (hbody _ _ pre x _ (hI.putObj _ i1 (by omega) i2 rfl) (hHx x A _ _ _ hx (by omega) i2 rfl) hlen) ?_
    rintro e a3 B ⟨rfl, hk, hkp, hi⟩
    have l2 := hk.same (w.heap.size + 1) _ (by omega) (World.putObj_heap_same ltL) rfl
    have d2 := hk.same w.heap.size _ (Nat.le_refl _) ((World.putObj_heap_other (by omega)).trans i3) rfl
    refine ⟨_, _, run_endRound (P := P) none l2, rfl, ⟨hI.putObj _ hi (by omega) l2 rfl, World.putObj_heap_same (Array.getElem?_eq_some_iff.1 l2).1, (World.putObj_heap_other (by omega)).trans d2⟩, ?_⟩
    exact hKt (hKt (hKb _ _ _ _ (by omega) i2 rfl rfl) hkp) (hKb _ _ _ _ (by omega) l2 rfl rfl)
  have abide : ∀ pre A B, J pre A → Below A.heap.size A B → J pre B := fun pre A B ⟨j1, j2, j3⟩ hb =>
    ⟨hI pre A B none j1 (grown_of_below hb) (fun r e => by cases e), (hb.block _ (Array.getElem?_eq_some_iff.1 j2).1).trans j2, (hb.block _ (Array.getElem?_eq_some_iff.1 j3).1).trans j3⟩
  refine ⟨w.heap.size + 1, [{ target := .collected w.heap.size, args := #[] }], V, { target := .fn (.func gf) lb, args := #[.func (.yield (w.heap.size + 1)) #[] #[]] }, V, gf, #[.func (.yield (w.heap.size + 1)) #[] #[]] ++ lb, V,
    run_enterLoop_outer _ _ _ _ _, ?_, fun _ _ => trivial, by simp [invoke, go_sem, eg], fun h => (by cases h), ?_⟩
  · simp only [resolve, hg]
    simp [go_sem]
  · refine (hseq (w.heap.size + 1) J V bV abide round ⟨iV, atL, atD⟩).mono ?_
    rintro e B ⟨⟨v, rfl⟩, xs, hS, j1, j2, j3⟩
    exact ⟨none, _, run_endLoop (P := P) j2 (by simp [rec0]), hdone _ xs _ (Nat.le_refl _) hS (hI.putObj _ j1 (by omega) j2 rfl) ((World.putObj_heap_other (by omega)).trans j3)⟩

end Go.Proofs.Ytlciaecclcckbaa

/- Contracts: places, Depth. -/
namespace Go.Proofs.Ytlciaecclcckbaa
open Go.RowKit Go.Shelf
attribute [local go_sem] Oper.semAt_some

set_option maxHeartbeats 400000 in
theorem places_any (s t : Value) (w : World) (hs : s.oneCell' = true) (ht : t.oneCell' = true) (As At : Option Addr) (ns cs nt ct : Nat) (es : s = .slice As ns cs) (et : t = .slice At nt ct) :
    Calls Try.prog 88 #[s, t] w fun e w' => e = .returned (.func (.func 107) #[] #[.pointer (some ⟨w.heap.size, 0, none⟩), .pointer (some ⟨w.heap.size + 1, 0, none⟩)]) ∧
      w' = (w.alloc (.cells #[s] 23)).alloc (.cells #[t] 25) := by
  subst es et
  go_enter Try.func88, Try.ntmps88
  go_wp2
  go_ret
  exact ⟨rfl, rfl⟩

def dmax (its : List It) : Nat := its.foldl (fun m it => max m (it.1.length + 1)) 0
theorem dmax_snoc (its : List It) (x : It) : dmax (its ++ [x]) = max (dmax its) (x.1.length + 1) := by simp [dmax]
theorem dmax_le : ∀ (its : List It), (∀ x ∈ its, x.1.length ≤ 1000) → dmax its ≤ 1001 := by
  intro its h
  have : ∀ (l : List It) (m : Nat), (∀ x ∈ l, x.1.length ≤ 1000) → m ≤ 1001 → l.foldl (fun m it => max m (it.1.length + 1)) m ≤ 1001 := by
    intro l
    induction l with
    | nil => intro m _ hm; exact hm
    | cons y r ih =>
      intro m hl hm
      refine ih _ (fun z hz => hl z (List.mem_cons_of_mem _ hz)) ?_
      have := hl y (List.mem_cons_self ..)
      exact Nat.max_le.2 ⟨hm, by omega⟩
  exact this its 0 h (by omega)

/-- The depth of a term. -/
def depthN (ss : Sg) (zs : List Int) : Nat := dmax (walkL ss zs.length [] 0 zs)
theorem walkL_off (ss : Sg) : ∀ (f : Nat) (p : List Nat) (o o' : Nat) (zs : List Int), (walkL ss f p o zs).map (·.1) = (walkL ss f p o' zs).map (·.1)
  | 0, _, _, _, _ => rfl
  | f + 1, p, o, o', zs => by
    simp only [walkL, List.map_cons, List.map_flatMap]
    congr 1
    congr 1
    funext k
    exact walkL_off ss f _ _ _ _
theorem dmax_map : ∀ (a b : List It), a.map (·.1) = b.map (·.1) → dmax a = dmax b := by
  have : ∀ (a b : List It) (m : Nat), a.map (·.1) = b.map (·.1) → a.foldl (fun m it => max m (it.1.length + 1)) m = b.foldl (fun m it => max m (it.1.length + 1)) m := by
    intro a
    induction a with
    | nil => intro b m h; cases b with
      | nil => rfl
      | cons y r => simp at h
    | cons x r ih => intro b m h; cases b with
      | nil => simp at h
      | cons y s =>
        simp only [List.map_cons, List.cons.injEq] at h
        simp only [List.foldl_cons, h.1]
        exact ih s _ h.2
  exact fun a b h => this a b 0 h
theorem dmax_off (ss : Sg) (o : Nat) (zs : List Int) : dmax (walkL ss zs.length [] o zs) = depthN ss zs := dmax_map _ _ (walkL_off ss _ _ _ _ _)

theorem KP.setX {d : Nat} (W : World) (v : Value) : KP d (fun b _ => b = d) W (W.setCell ⟨d, 0, none⟩ v) :=
  ⟨(Below.refl _ _).setCell (p := ⟨d, 0, none⟩) (Nat.le_refl _) _, fun b o _ ho _ hx => (Below.heap_setCell W ⟨d, 0, none⟩ v b hx).trans ho⟩

set_option maxHeartbeats 400000 in
theorem depth_bad (As At : Option Addr) (ns cs nt ct : Nat) (ss : Sg) (zs : List Int) (w : World) (hs : SigAt w w.heap.size As ns ss) (ht : IntsAt w w.heap.size At nt zs) (hv : valOk ss zs = false) :
    Calls Try.prog 53 #[.slice As ns cs, .slice At nt ct] w fun e w' => e = .returned (.tuple #[.int .i64 0, .int .i64 1]) ∧ Below w.heap.size w w' := by
  have C := Lib.hid (valid_any As At ns cs nt ct ss zs w hs ht)
  have HV := Lib.hid hv
  clear hv hs ht
  go_enter Try.func53, Try.ntmps53
  go_wp2_with (go_at_call 55; refine C.out.mono ?_; rintro e w1 ⟨rfl, hB⟩; rw [HV.out]; have HB := Lib.hid hB)
  go_ret2
  exact ⟨rfl, HB.out⟩

set_option maxRecDepth 100000 in
set_option maxHeartbeats 2000000 in
theorem depth_ok (As At : Option Addr) (ns cs nt ct : Nat) (ss : Sg) (zs : List Int) (w : World) (hs : SigAt w w.heap.size As ns ss) (ht : IntsAt w w.heap.size At nt zs) (hct : nt ≤ ct) (hct2 : ct ≤ 9223372036854775807) (hv : valOk ss zs = true) :
    Calls Try.prog 53 #[.slice As ns cs, .slice At nt ct] w fun e w' => e = .returned (.tuple #[.int .i64 (depthN ss zs : Nat), .int .i64 0]) ∧ Below w.heap.size w w' := by
  have C := Lib.hid (valid_any As At ns cs nt ct ss zs w hs ht)
  obtain ⟨h1, h60, hnum, hscan⟩ := valOk_term hv
  have h4 := sigOk_len (valOk_sig hv)
  have har := sigOk_ar (valOk_sig hv)
  have hl := ht.len
  have hls := hs.len
  obtain ⟨bt, o, rfl, hbt, hpart⟩ := ht.mem (by omega)
  have hh : HeadsOk ss zs := fun z hz => (hnum z hz).2
  subst hl
  have HV := Lib.hid hv
  have HS := Lib.hid hs
  have HP := Lib.hid (show PartIn w bt o zs from hpart)
  have HPARAMS := Lib.hid (And.intro har (And.intro hh hscan))
  rw [← hls] at h4
  clear hv ht hs hpart hnum har hh hscan hls
  obtain ⟨nt, hnt⟩ : ∃ nt, zs.length = nt := ⟨_, rfl⟩
  rw [hnt] at h1 h60 hct C ⊢
  have HNT := Lib.hid hnt
  clear hnt
  refine callsIn_wide (n := 5) |>.1 ?_
  refine callsIn_of_wp_marks Try.func53 rfl trivial ?_ rfl
  simp only [Try.ntmps53, List.size_toArray, List.length_cons, List.length_nil, Nat.reduceAdd, Nat.reduceSub, Array.replicate_succ, Array.replicate_zero, List.push_toArray, List.append_toArray, List.nil_append, List.cons_append]
  gi_wp2_with (first
    | (refine ⟨trivial, ?_⟩; gi_at_call 55; refine (callsIn_wide.2 C.out).mono ?_; rintro e w1 ⟨rfl, hB⟩; rw [HV.out]; have HB := Lib.hid hB)
    | (refine ⟨trivial, ?_⟩; gi_at_call 88; refine (callsIn_wide.2 (places_any _ _ _ rfl rfl _ _ _ _ _ _ rfl rfl)).mono ?_; rintro e w2 ⟨rfl, rfl⟩))
  obtain ⟨d, hd⟩ : ∃ d, w1.heap.size = d := ⟨_, rfl⟩
  have hwd : w.heap.size ≤ d := hd ▸ hB.size
  have hBV : Below w.heap.size w (((w1.alloc (Obj.cells #[Value.int IntKind.i64 0] 3)).alloc (Obj.cells #[Value.slice As ns cs] 23)).alloc (Obj.cells #[Value.slice (some ⟨bt, o, none⟩) nt ct] 25)) :=
    hB.trans ((((Below.refl _ w1).alloc (Nat.le_refl _) _).alloc (by simp) _).alloc (by simp; omega) _ |>.mono hB.size)
  have bd : Blk (((w1.alloc (Obj.cells #[Value.int IntKind.i64 0] 3)).alloc (Obj.cells #[Value.slice As ns cs] 23)).alloc (Obj.cells #[Value.slice (some ⟨bt, o, none⟩) nt ct] 25)) d 3 #[.int .i64 0] := by
    rw [← hd]; exact ((Blk.new w1 _ _).alloc _).alloc _
  have bs : Blk (((w1.alloc (Obj.cells #[Value.int IntKind.i64 0] 3)).alloc (Obj.cells #[Value.slice As ns cs] 23)).alloc (Obj.cells #[Value.slice (some ⟨bt, o, none⟩) nt ct] 25)) (d + 1) 23 #[.slice As ns cs] := by
    have := (Blk.new (w1.alloc (Obj.cells #[Value.int IntKind.i64 0] 3)) 23 #[.slice As ns cs]).alloc (Obj.cells #[Value.slice (some ⟨bt, o, none⟩) nt ct] 25)
    rw [World.size_alloc, hd] at this
    exact this
  have bt' : Blk (((w1.alloc (Obj.cells #[Value.int IntKind.i64 0] 3)).alloc (Obj.cells #[Value.slice As ns cs] 23)).alloc (Obj.cells #[Value.slice (some ⟨bt, o, none⟩) nt ct] 25)) (d + 1 + 1) 25 #[.slice (some ⟨bt, o, none⟩) nt ct] := by
    have := Blk.new ((w1.alloc (Obj.cells #[Value.int IntKind.i64 0] 3)).alloc (Obj.cells #[Value.slice As ns cs] 23)) 25 #[.slice (some ⟨bt, o, none⟩) nt ct]
    rw [World.size_alloc, World.size_alloc, hd] at this
    exact this
  have sz : (((w1.alloc (Obj.cells #[Value.int IntKind.i64 0] 3)).alloc (Obj.cells #[Value.slice As ns cs] 23)).alloc (Obj.cells #[Value.slice (some ⟨bt, o, none⟩) nt ct] 25)).heap.size = d + 3 := by simp [hd]
  rw [hd]
  generalize (((w1.alloc (Obj.cells #[Value.int IntKind.i64 0] 3)).alloc (Obj.cells #[Value.slice As ns cs] 23)).alloc (Obj.cells #[Value.slice (some ⟨bt, o, none⟩) nt ct] 25)) = W0 at *
  clear hB HB
  have hbd : bt < d := by omega
  let X : Nat → Obj → Prop := fun b _ => b = d
  refine range_parts (gf := 107) (lb := #[.pointer (some ⟨d + 1, 0, none⟩), .pointer (some ⟨d + 1 + 1, 0, none⟩)]) rfl (enters_of Try.func107 (by kernel_rfl) rfl) (encs := Pt.encs bt) (fun _ => rfl)
    (fun x W => PtIn (d + 1) X ss bt W x) (KP d X) (fun xs => xs.map Pt.it = walkL ss zs.length [] o zs) (walkL ss zs.length [] o zs).length
    (fun pre W => ((W.cell? ⟨d, 0, none⟩ = some (.int .i64 (dmax (pre.map Pt.it) : Nat)) ∧ W.frozen? ⟨d, 0, none⟩ = false) ∧ (∀ x ∈ pre, x.it.1.length ≤ 1000)) ∧ Below w.heap.size w W)
    (fun s A B row ⟨⟨⟨a1, a2⟩, a3⟩, a4⟩ hg hr => ⟨⟨⟨cell_kept a1 hg (fun r e => (hr r e).2), (frozen_kept a1 hg (fun r e => (hr r e).2)).trans a2⟩, a3⟩, a4.grown hg a4.size (fun k e => by have := (hr k e).1; omega)⟩)
    (fun x W l o o' hx hl ho hc => hx.keep (n₀ := d) (by omega) hbd (KP.putObj (w := W0) (by omega) W l o o' hl ho hc))
    (fun h k => KP.trans h k) (fun W l o o' hl ho hc _ => KP.putObj (w := W0) (by omega) W l o o' hl ho hc)
    ⟨⟨⟨bd.cell 0, bd.frozen 0⟩, by simp⟩, hBV⟩
    ?seq (fun x => { tmps := #[.slice As ns cs, .slice (some ⟨bt, o, none⟩) nt ct, undef, undef, .int .i64 0, .int .i64 0, .pointer (some ⟨d, 0, none⟩), .slice x.A x.it.1.length x.c, .slice As ns cs, .slice (some ⟨bt, o, none⟩) nt ct, .bool true, .bool false, .slice As ns cs, .slice (some ⟨bt, o, none⟩) nt ct, .func (.func 107) #[] #[.pointer (some ⟨d + 1, 0, none⟩), .pointer (some ⟨d + 1 + 1, 0, none⟩)], .slice x.A x.it.1.length x.c, .slice (some ⟨bt, x.it.2.1, none⟩) x.it.2.2.length x.cp, undef, undef, undef, undef, undef, undef], defers := [] }) ?assign ?body ?done
  case seq =>
    intro l J V hV hJ hY hJ0
    have hVs : d + 3 ≤ V.heap.size := by rw [← sz]; exact hV.size
    have hBV' := hBV.trans (hV.mono (by omega))
    refine places1_in d (d + 1) l bt (d + 1) (d + 1 + 1) _ 4 X As ns cs o ct ss zs J (by omega) hbd HPARAMS.out.1 h4.1 h4.2 (fun b cs z hb => by show ¬ b = d; omega) (fun b cs z hb _ => by show ¬ b = d; omega) (fun b cs z hb => by show ¬ b = d; omega)
      ⟨by omega, fun cs => by show ¬ d + 1 = d; omega⟩ (fun pre A B hj _ hb => hJ pre A B hj hb) hY V (by rw [HNT.out]; exact h1) (by rw [HNT.out]; exact h60) (by rw [HNT.out]; exact hct) hct2 HPARAMS.out.2.1 HPARAMS.out.2.2
      (bs.below hV (by omega)) ?_ ((HS.out.below hBV').more hwd) (by omega) (fun j hj => (hBV'.cell (p := ⟨bt, o + j, none⟩) hbt).trans (HP.out j hj)) hJ0 (Nat.le_refl _)
    rw [HNT.out]
    exact bt'.below hV (by omega)
  case assign =>
    intro l m x W K hK
    unfold Pt.encs
    gi_wp2
    exact hK
  case body =>
    rintro l m pre x W ⟨⟨⟨hc, hf⟩, hle⟩, hBW⟩ hx hlen
    have hpl := hx.plen
    have hdm := dmax_le (pre.map Pt.it) (by simpa using hle)
    gi_wp2
    · refine ⟨(KeepsOthers.setCell _ _ _).from _, KP.setX W _, ⟨by rw [dmax_snoc]; omega, fun y hy => hy.elim (hle y) (fun e => e ▸ hpl)⟩, hBW.setCell (p := ⟨d, 0, none⟩) hwd _⟩
    · refine ⟨(KeepsOthers.setCell _ _ _).from _, KP.setX W _, ⟨by rw [dmax_snoc]; omega, fun y hy => hy.elim (hle y) (fun e => e ▸ hpl)⟩, hBW.setCell (p := ⟨d, 0, none⟩) hwd _⟩
  case done =>
    rintro D xs W hD hS ⟨⟨⟨hc, hf⟩, hle⟩, hBW⟩ hK
    rw [hS] at hc
    have HOFF := Lib.hid (dmax_off ss o zs)
    gi_wp2
    refine ⟨by simp, .inl ⟨_, _, rfl, run_takeDeferred hK, ?_⟩⟩
    refine ⟨_, results_tmp2 rfl _ _ _, ?_, ?_⟩
    · simp [HOFF.out]
    · exact hBW.trans (belowK_b (w := W0) (by omega) W D _ _ hD hK rfl rfl)

end Go.Proofs.Ytlciaecclcckbaa

/- The depth of a term by its parts: the plain mathematics. -/
namespace Go.Proofs.Ytlciaecclcckbaa
open Go.RowKit

/-- The greatest depth of the first arguments; the depth. -/
def dep (ss : Sg) : Nat → List Int → Nat
  | 0, _ => 0
  | f + 1, zs => (List.range (arOf ss (zs.headD 0))).foldl (fun m k => max m (dep ss f (argL ss zs k))) 0 + 1
def depTo (ss : Sg) (f : Nat) (zs : List Int) (k : Nat) : Nat := (List.range k).foldl (fun m k => max m (dep ss f (argL ss zs k))) 0
theorem depTo_zero (ss : Sg) (f : Nat) (zs : List Int) : depTo ss f zs 0 = 0 := rfl
theorem depTo_succ (ss : Sg) (f : Nat) (zs : List Int) (k : Nat) : depTo ss f zs (k + 1) = max (depTo ss f zs k) (dep ss f (argL ss zs k)) := by
  simp [depTo, List.range_succ]
theorem dep_succ (ss : Sg) (f : Nat) (zs : List Int) : dep ss (f + 1) zs = depTo ss f zs (arOf ss (zs.headD 0)) + 1 := rfl
theorem foldl_max_le {α : Type} (g : α → Nat) (b : Nat) : ∀ (l : List α) (m : Nat), m ≤ b → (∀ x ∈ l, g x ≤ b) → l.foldl (fun m x => max m (g x)) m ≤ b
  | [], m, h, _ => h
  | x :: l, m, h, hx => foldl_max_le g b l _ (Nat.max_le.2 ⟨h, hx x (List.mem_cons_self ..)⟩) (fun y hy => hx y (List.mem_cons_of_mem _ hy))
theorem dep_le (ss : Sg) : ∀ (f : Nat) (zs : List Int), dep ss f zs ≤ f
  | 0, _ => Nat.le_refl _
  | f + 1, zs => by
    rw [dep_succ]
    have := foldl_max_le (fun k => dep ss f (argL ss zs k)) f (List.range (arOf ss (zs.headD 0))) 0 (Nat.zero_le _) (fun k _ => dep_le ss f _)
    unfold depTo
    omega
theorem foldl_max_init {α : Type} (g : α → Nat) : ∀ (l : List α) (m : Nat), l.foldl (fun m x => max m (g x)) m = max m (l.foldl (fun m x => max m (g x)) 0)
  | [], m => by simp
  | x :: l, m => by
    simp only [List.foldl_cons]
    rw [foldl_max_init g l (max m (g x)), foldl_max_init g l (max 0 (g x))]
    omega
theorem dmax_cons (x : It) (l : List It) : dmax (x :: l) = max (x.1.length + 1) (dmax l) := by
  have := foldl_max_init (fun it : It => it.1.length + 1) l (max 0 (x.1.length + 1))
  simp only [dmax, List.foldl_cons]
  rw [this]
  omega
theorem dmax_append (l l' : List It) : dmax (l ++ l') = max (dmax l) (dmax l') := by
  have := foldl_max_init (fun it : It => it.1.length + 1) l' (dmax l)
  simp only [dmax, List.foldl_append] at this ⊢
  exact this
theorem dmax_walk (ss : Sg) : ∀ (f : Nat) (p : List Nat) (o : Nat) (zs : List Int), dmax (walkL ss f p o zs) = if f = 0 then 0 else p.length + dep ss f zs
  | 0, _, _, _ => rfl
  | f + 1, p, o, zs => by
    have key : ∀ n : Nat, dmax ((List.range n).flatMap fun k => walkL ss f (p ++ [k]) (o + pos ss zs k) (argL ss zs k)) ≤ p.length + 1 + depTo ss f zs n ∧ p.length + 1 + depTo ss f zs n ≤ max (p.length + 1) (dmax ((List.range n).flatMap fun k => walkL ss f (p ++ [k]) (o + pos ss zs k) (argL ss zs k))) := by
      intro n
      induction n with
      | zero => simp [depTo_zero, dmax]
      | succ n ih =>
        rw [List.range_succ, List.flatMap_append, dmax_append, depTo_succ]
        simp only [List.flatMap_cons, List.flatMap_nil, List.append_nil]
        rw [dmax_walk ss f]
        simp only [List.length_append, List.length_cons, List.length_nil]
        by_cases hf : f = 0
        · subst hf
          simp only [if_true, dep]
          omega
        · rw [if_neg hf]
          omega
    have := key (arOf ss (zs.headD 0))
    simp only [walkL]
    rw [dmax_cons, if_neg (by omega), dep_succ]
    simp only
    omega
theorem depthN_dep {ss : Sg} {zs : List Int} (h : 1 ≤ zs.length) : depthN ss zs = dep ss zs.length zs := by
  unfold depthN
  rw [dmax_walk, if_neg (by omega)]
  simp

end Go.Proofs.Ytlciaecclcckbaa

/- Paths in a term, and what is put at them: the plain mathematics. -/
namespace Go.Proofs.Ytlciaecclcckbaa
open Go.RowKit

theorem endI_scan {ss : Sg} {zs : List Int} {x y : Nat} (h : scan ss 1 (zs.drop x) = some (zs.drop y)) (hy : y ≤ zs.length) : endI ss zs x = (y : Int) := by
  unfold endI
  rw [h]
  simp only [List.length_drop]
  congr 1; omega
theorem drop_at {l : List Int} {j : Nat} {k : Int} (h : l[j]? = some k) : l.drop j = k :: l.drop (j + 1) := by
  obtain ⟨hj, rfl⟩ := List.getElem?_eq_some_iff.1 h
  exact List.drop_eq_getElem_cons hj

/-- Where a path leads that goes on from an index. -/
def locN (ss : Sg) (zs : List Int) : List Int → Nat → Option Nat
  | [], a => some a
  | k :: p, a => if k < 0 ∨ (arOf ss (zs.getD a 0) : Int) ≤ k then none else locN ss zs p (psA ss zs a k.toNat)
def atR (ss : Sg) (zs p : List Int) : List Int × Int :=
  if valOk ss zs = false then ([], 1) else
  match locN ss zs p 0 with
  | none => ([], 8)
  | some a => (prt ss zs a, 0)
def putL (ss : Sg) (zs us : List Int) (a : Nat) : List Int := zs.take a ++ us ++ zs.drop (a + (prt ss zs a).length)
def putR (ss : Sg) (zs p us : List Int) : List Int × Int :=
  if (valOk ss zs && valOk ss us) = false then ([], 1) else
  match locN ss zs p 0 with
  | none => ([], 8)
  | some a => if 60 < (putL ss zs us a).length then ([], 4) else (putL ss zs us a, 0)

/-- There is a part at an index. -/
def PartAt (ss : Sg) (zs : List Int) (a : Nat) : Prop := a < zs.length ∧ ∃ r0, scan ss 1 (zs.drop a) = some r0
theorem PartAt.is {ss : Sg} {zs : List Int} {a : Nat} (h : PartAt ss zs a) : PrtIs ss zs a (prt ss zs a) := by
  obtain ⟨_, r0, h1⟩ := h
  exact prt_is h1
theorem PartAt.getD {ss : Sg} {zs : List Int} {a : Nat} (h : PartAt ss zs a) : zs.getD a 0 = zs[a]'h.1 := by
  rw [List.getD_eq_getElem?_getD, List.getElem?_eq_getElem h.1]; rfl
theorem PartAt.arg {ss : Sg} {zs : List Int} {a k : Nat} (h : PartAt ss zs a) (hk : k < arOf ss (zs.getD a 0)) : PartAt ss zs (psA ss zs a k) := by
  rw [h.getD] at hk
  obtain ⟨s1, s2, s3, _⟩ := prt_step h.is h.1 hk
  exact ⟨by omega, _, s1⟩
theorem PartAt.zero {ss : Sg} {zs : List Int} (h : valOk ss zs = true) : PartAt ss zs 0 := by
  obtain ⟨h1, _, _, h4⟩ := valOk_term h
  exact ⟨by omega, [], by simpa using h4⟩
theorem locN_nil (ss : Sg) (zs : List Int) (a : Nat) : locN ss zs [] a = some a := rfl
theorem locN_bad {ss : Sg} {zs p : List Int} {a : Nat} {k : Int} (h : k < 0 ∨ (arOf ss (zs.getD a 0) : Int) ≤ k) : locN ss zs (k :: p) a = none := by
  simp only [locN]; rw [if_pos h]
theorem locN_step {ss : Sg} {zs p : List Int} {a k : Nat} (h : k < arOf ss (zs.getD a 0)) : locN ss zs ((k : Int) :: p) a = locN ss zs p (psA ss zs a k) := by
  simp only [locN]
  rw [if_neg (by omega), Int.toNat_natCast]
theorem locN_inv {ss : Sg} {zs p : List Int} {a b : Nat} {k : Int} (h : locN ss zs (k :: p) a = some b) : ∃ j : Nat, k = (j : Int) ∧ j < arOf ss (zs.getD a 0) ∧ locN ss zs p (psA ss zs a j) = some b := by
  by_cases hk : k < 0 ∨ (arOf ss (zs.getD a 0) : Int) ≤ k
  · rw [locN_bad hk] at h; cases h
  · obtain ⟨j, rfl⟩ : ∃ j : Nat, k = (j : Int) := ⟨k.toNat, by omega⟩
    have hj : j < arOf ss (zs.getD a 0) := by omega
    rw [locN_step hj] at h
    exact ⟨j, rfl, hj, h⟩
theorem locN_part {ss : Sg} {zs : List Int} : ∀ (p : List Int) (a b : Nat), PartAt ss zs a → locN ss zs p a = some b → PartAt ss zs b ∧ a ≤ b
  | [], a, b, h, e => by cases e; exact ⟨h, Nat.le_refl _⟩
  | k :: p, a, b, h, e => by
    obtain ⟨j, rfl, hj, e'⟩ := locN_inv e
    have hp := h.arg hj
    obtain ⟨q1, q2⟩ := locN_part p _ b hp e'
    have hj' := hj
    rw [h.getD] at hj'
    have := (prt_pos h.is h.1 (Nat.le_of_lt hj')).1
    exact ⟨q1, by omega⟩
theorem locN_lt {ss : Sg} {zs p : List Int} {a b : Nat} {k : Int} (h : PartAt ss zs a) (e : locN ss zs (k :: p) a = some b) : a < b := by
  obtain ⟨j, rfl, hj, e'⟩ := locN_inv e
  have q2 := (locN_part p _ b (h.arg hj) e').2
  rw [h.getD] at hj
  obtain ⟨p1, p2, _⟩ := prt_pos h.is h.1 (Nat.le_of_lt hj)
  omega
/-- A path in a part is a path in the whole. -/
theorem drop_in {ss : Sg} {zs P : List Int} {b : Nat} (h : PrtIs ss zs b P) {j : Nat} (hj : j ≤ P.length) : zs.drop (b + j) = P.drop j ++ zs.drop (b + P.length) := prt_drop h hj
theorem PartAt.sub {ss : Sg} {zs P : List Int} {b j : Nat} (h : PrtIs ss zs b P) (hj : PartAt ss P j) : PartAt ss zs (b + j) ∧ prt ss zs (b + j) = prt ss P j ∧ zs.getD (b + j) 0 = P.getD j 0 := by
  obtain ⟨j1, r0, j2⟩ := hj
  have hle := h.le
  have e1 := drop_in h (Nat.le_of_lt j1)
  have s1 := scan_append ss _ _ _ (zs.drop (b + P.length)) j2
  rw [← e1] at s1
  have hpj := prt_is j2
  have e3 := hpj.whole
  rw [j2] at e3
  have hl2 := hpj.le
  have hl3 := congrArg List.length (Option.some.inj e3)
  rw [List.length_drop] at hl3
  refine ⟨⟨by omega, _, s1⟩, ?_, ?_⟩
  · rw [prt_eq (n := (prt ss P j).length) s1 (by simp only [List.length_append, List.length_drop]; omega), e1, List.take_append_of_le_length (by rw [List.length_drop]; omega)]
    have := prt_eq (n := (prt ss P j).length) j2 (by rw [List.length_drop]; omega)
    exact this.symm
  · have := congrArg (fun l => l[0]?) e1
    simp only [List.getElem?_drop, Nat.add_zero] at this
    rw [List.getElem?_append_left (by rw [List.length_drop]; omega), List.getElem?_drop, Nat.add_zero] at this
    rw [List.getD_eq_getElem?_getD, List.getD_eq_getElem?_getD, this]
theorem psA_sub {ss : Sg} {zs P : List Int} {b j k : Nat} (h : PrtIs ss zs b P) (hj : PartAt ss P j) (hk : k < arOf ss (P.getD j 0)) : psA ss zs (b + j) k = b + psA ss P j k := by
  rw [hj.getD] at hk
  obtain ⟨s1, s2, s3, s4⟩ := prt_pos hj.is hj.1 (Nat.le_of_lt hk)
  have hle := h.le
  have hle2 := hj.is.le
  obtain ⟨q, hq⟩ : ∃ q, psA ss P j k = q := ⟨_, rfl⟩
  rw [hq] at s1 s4
  have s5 := scan_append ss _ _ _ (zs.drop (b + P.length)) s4
  rw [← drop_in h (show j + 1 ≤ P.length from hj.1)] at s5
  rw [hq]
  unfold psA
  rw [show b + j + 1 = b + (j + 1) from by omega, s5]
  simp only [Option.getD_some, List.length_append, List.length_drop]
  omega
theorem locN_sub {ss : Sg} {zs P : List Int} {b : Nat} (h : PrtIs ss zs b P) : ∀ (p : List Int) (j : Nat), PartAt ss P j → locN ss zs p (b + j) = (locN ss P p j).map (b + ·)
  | [], j, _ => rfl
  | k :: p, j, hj => by
    have e := (PartAt.sub h hj).2.2
    by_cases hk : k < 0 ∨ (arOf ss (P.getD j 0) : Int) ≤ k
    · rw [locN_bad hk, locN_bad (by rw [e]; exact hk)]; rfl
    · obtain ⟨i, rfl⟩ : ∃ i : Nat, k = (i : Int) := ⟨k.toNat, by omega⟩
      have hi : i < arOf ss (P.getD j 0) := by omega
      rw [locN_step hi, locN_step (by rw [e]; exact hi), psA_sub h hj hi]
      exact locN_sub h p _ (hj.arg hi)

/-- What is put in at a path. -/
theorem take_put {zs us : List Int} {a : Nat} (x : List Int) (ha : a ≤ zs.length) (b : Nat) (hb : b ≤ a) : (zs.take a ++ us ++ x).take b = zs.take b := by
  rw [List.append_assoc, List.take_append_of_le_length (by rw [List.length_take]; omega), List.take_take]
  congr 1; omega
theorem drop_put {zs us : List Int} {a q b : Nat} (x : List Int) (ha : a ≤ zs.length) (hq : q ≤ a) (hbq : b ≤ q) : (zs.take a ++ us ++ x).drop b = (zs.drop b).take (q - b) ++ (zs.take a ++ us ++ x).drop q := by
  obtain ⟨C, hC⟩ : ∃ C, zs.take a ++ us ++ x = C := ⟨_, rfl⟩
  have h1 : C.take q = zs.take q := by rw [← hC]; exact take_put x ha q hq
  rw [hC]
  have h2 : (zs.drop b).take (q - b) = (C.drop b).take (q - b) := by
    rw [← List.drop_take, ← List.drop_take, h1]
  rw [h2]
  have : C.drop q = (C.drop b).drop (q - b) := by rw [List.drop_drop]; congr 1; omega
  rw [this, List.take_append_drop]

theorem locN_put {ss : Sg} {zs us x : List Int} {a : Nat} : ∀ (p : List Int) (b : Nat), PartAt ss zs b → locN ss zs p b = some a → locN ss (zs.take a ++ us ++ x) p b = some a
  | [], b, _, e => by cases e; rfl
  | k :: p, b, h, e => by
    have hlt := locN_lt h e
    obtain ⟨j, rfl, hj, e'⟩ := locN_inv e
    have hpa := h.arg hj
    obtain ⟨r1, r2⟩ := locN_part p _ a hpa e'
    have ha : a ≤ zs.length := Nat.le_of_lt r1.1
    have hg : (zs.take a ++ us ++ x).getD b 0 = zs.getD b 0 := by
      rw [List.getD_eq_getElem?_getD, List.getD_eq_getElem?_getD, List.append_assoc, List.getElem?_append_left (by rw [List.length_take]; omega), List.getElem?_take, if_pos hlt]
    have hj' := hj
    rw [h.getD] at hj'
    obtain ⟨q1, q2, q3, q4⟩ := prt_pos h.is h.1 (Nat.le_of_lt hj')
    obtain ⟨q, hq⟩ : ∃ q, psA ss zs b j = q := ⟨_, rfl⟩
    rw [hq] at q1 q4 r2 e'
    have hlc : a ≤ (zs.take a ++ us ++ x).length := by simp; omega
    have hX := scan_take ss (zs.drop (b + 1)) j (q - (b + 1)) (by rw [List.length_drop]; omega) (by rw [List.drop_drop, q4]; congr 2; omega)
    have hC := scan_append ss _ _ _ ((zs.take a ++ us ++ x).drop q) hX
    rw [← drop_put x ha r2 (by omega : b + 1 ≤ q)] at hC
    have hps : psA ss (zs.take a ++ us ++ x) b j = q := by
      unfold psA
      rw [hC]
      simp only [Option.getD_some, List.nil_append, List.length_drop]
      omega
    rw [locN_step (by rw [hg]; exact hj), hps]
    rw [hq] at hpa
    exact locN_put p q hpa e'
theorem prt_put {ss : Sg} {zs us x : List Int} {a : Nat} (ha : a ≤ zs.length) (hu : scan ss 1 us = some []) : prt ss (zs.take a ++ us ++ x) a = us := by
  have e : (zs.take a ++ us ++ x).drop a = us ++ x := by
    rw [List.append_assoc, List.drop_append_of_le_length (by rw [List.length_take]; omega), List.drop_of_length_le (by rw [List.length_take]; omega), List.nil_append]
  have h1 := scan_append ss _ _ _ x hu
  rw [← e, List.nil_append] at h1
  rw [prt_eq (n := us.length) h1 (by rw [e]; simp), e, List.take_left]
theorem scan_split (ss : Sg) : ∀ (A : List Int) (n : Nat), (∃ m, ∀ l, scan ss n (A ++ l) = scan ss m l) ∨ (∃ A', ∀ l, scan ss n (A ++ l) = some (A' ++ l))
  | [], n => .inl ⟨n, fun l => rfl⟩
  | z :: A, 0 => .inr ⟨z :: A, fun l => by rw [scan_zero]⟩
  | z :: A, n + 1 => by
    simp only [List.cons_append, scan]
    exact scan_split ss A _
theorem valid_put {ss : Sg} {zs us : List Int} {a : Nat} (hv : valOk ss zs = true) (hu : valOk ss us = true) (h : PartAt ss zs a) (hl : (putL ss zs us a).length ≤ 60) : valOk ss (putL ss zs us a) = true := by
  obtain ⟨h1, h60, hnum, hscan⟩ := valOk_term hv
  obtain ⟨u1, u60, unum, uscan⟩ := valOk_term hu
  have hP := h.is
  have hp1 := hP.len
  have hsc : scan ss 1 (putL ss zs us a) = some [] := by
    unfold putL
    have e : zs = zs.take a ++ (prt ss zs a ++ zs.drop (a + (prt ss zs a).length)) := by
      rw [← hP.split, List.take_append_drop]
    rcases scan_split ss (zs.take a) 1 with ⟨m, hm⟩ | ⟨A', hA⟩
    · rw [List.append_assoc, hm]
      rw [e, hm] at hscan
      cases m with
      | zero =>
        rw [scan_zero] at hscan
        have := congrArg List.length (Option.some.inj hscan)
        simp only [List.length_append, List.length_nil] at this
        omega
      | succ m =>
        rw [show m + 1 = 1 + m from by omega, scan_add, scan_append ss _ _ _ _ hP.good] at hscan
        rw [show m + 1 = 1 + m from by omega, scan_add, scan_append ss _ _ _ _ uscan]
        exact hscan
    · rw [e, hA] at hscan
      have := congrArg List.length (Option.some.inj hscan)
      simp only [List.length_append, List.length_nil] at this
      omega
  simp only [valOk, termOk, Bool.and_eq_true, decide_eq_true_eq, List.all_eq_true, numOk]
  refine ⟨valOk_sig hv, ?_, hl, fun z hz => ?_, hsc⟩
  · unfold putL; simp only [List.length_append]; omega
  · unfold putL at hz
    rcases List.mem_append.1 hz with hz | hz
    · rcases List.mem_append.1 hz with hz | hz
      · exact hnum z (List.mem_of_mem_take hz)
      · exact unum z hz
    · exact hnum z (List.mem_of_mem_drop hz)
theorem valid_prt {ss : Sg} {zs : List Int} {a : Nat} (hv : valOk ss zs = true) (h : PartAt ss zs a) : valOk ss (prt ss zs a) = true := by
  obtain ⟨h1, h60, hnum, hscan⟩ := valOk_term hv
  have hP := h.is
  have hle := hP.le
  simp only [valOk, termOk, Bool.and_eq_true, decide_eq_true_eq, List.all_eq_true, numOk]
  refine ⟨valOk_sig hv, hP.len, by omega, fun z hz => ?_, hP.good⟩
  have : z ∈ zs.drop a := by rw [hP.split]; exact List.mem_append_left _ hz
  exact hnum z (List.mem_of_mem_drop this)

theorem atR_inv {ss : Sg} {zs p x : List Int} (h : atR ss zs p = (x, 0)) : valOk ss zs = true ∧ ∃ a, locN ss zs p 0 = some a ∧ x = prt ss zs a := by
  unfold atR at h
  split at h
  · cases h
  · rename_i hv
    split at h
    · cases h
    · rename_i a e
      refine ⟨by simpa using hv, a, e, ?_⟩
      exact (congrArg Prod.fst h).symm
theorem atR_mk {ss : Sg} {zs p : List Int} {a : Nat} (hv : valOk ss zs = true) (e : locN ss zs p 0 = some a) : atR ss zs p = (prt ss zs a, 0) := by
  unfold atR
  rw [if_neg (by simp [hv]), e]
theorem putR_mk {ss : Sg} {zs p us : List Int} {a : Nat} (hv : valOk ss zs = true) (hu : valOk ss us = true) (e : locN ss zs p 0 = some a) : putR ss zs p us = if 60 < (putL ss zs us a).length then ([], 4) else (putL ss zs us a, 0) := by
  unfold putR
  rw [if_neg (by simp [hv, hu]), e]
theorem at_put {ss : Sg} {zs p x : List Int} (h : atR ss zs p = (x, 0)) : putR ss zs p x = (zs, 0) := by
  obtain ⟨hv, a, e, rfl⟩ := atR_inv h
  have hpa := (locN_part p 0 a (PartAt.zero hv) e).1
  have hall : putL ss zs (prt ss zs a) a = zs := by
    unfold putL
    rw [List.append_assoc, ← hpa.is.split, List.take_append_drop]
  have h60 := (valOk_term hv).2.1
  rw [putR_mk hv (valid_prt hv hpa) e, hall, if_neg (by omega)]
theorem put_at {ss : Sg} {zs p us c : List Int} (h : putR ss zs p us = (c, 0)) : atR ss c p = (us, 0) := by
  unfold putR at h
  split at h
  · cases h
  · rename_i hvu
    have hv : valOk ss zs = true ∧ valOk ss us = true := by simpa using hvu
    split at h
    · cases h
    · rename_i a e
      split at h
      · cases h
      · rename_i h60
        obtain rfl := congrArg Prod.fst h
        simp only
        have hpa := (locN_part p 0 a (PartAt.zero hv.1) e).1
        have hval := valid_put hv.1 hv.2 hpa (by omega)
        have hloc : locN ss (putL ss zs us a) p 0 = some a := locN_put p 0 (PartAt.zero hv.1) e
        rw [atR_mk hval hloc]
        have : prt ss (putL ss zs us a) a = us := prt_put (Nat.le_of_lt hpa.1) (valOk_term hv.2).2.2.2
        rw [this]
theorem at_down {ss : Sg} {zs p x : List Int} {k : Int} (h : atR ss zs (k :: p) = (x, 0)) : ∃ j : Nat, k = (j : Int) ∧ j < arOf ss (zs.headD 0) ∧ atR ss (argL ss zs j) p = (x, 0) := by
  obtain ⟨hv, a, e, rfl⟩ := atR_inv h
  obtain ⟨j, rfl, hj, e'⟩ := locN_inv e
  have h0 := PartAt.zero hv
  have hpa := h0.arg hj
  have hhd : zs.getD 0 0 = zs.headD 0 := by cases zs <;> rfl
  have hj' := hj
  rw [h0.getD] at hj'
  have hP := h0.is
  rw [prt_whole (valOk_term hv).2.2.2] at hP
  have e4 := (prt_step hP h0.1 hj').2.2.2
  have hva : valOk ss (argL ss zs j) = true := by rw [← e4]; exact valid_prt hv hpa
  have hQ := hpa.is
  rw [e4] at hQ
  refine ⟨j, rfl, by rw [← hhd]; exact hj, ?_⟩
  have hs := locN_sub hQ p 0 (PartAt.zero hva)
  rw [Nat.add_zero, e'] at hs
  cases hl : locN ss (argL ss zs j) p 0 with
  | none => rw [hl] at hs; cases hs
  | some i =>
    rw [hl] at hs
    obtain rfl := Option.some.inj hs
    have hpi := (locN_part p 0 i (PartAt.zero hva) hl).1
    rw [atR_mk hva hl, (PartAt.sub hQ hpi).2.1]

end Go.Proofs.Ytlciaecclcckbaa

/- Contracts: slices.Grow of nil, slices.Concat, at Term. -/
namespace Go.Proofs.Ytlciaecclcckbaa
open Go.RowKit

set_option maxRecDepth 100000 in
set_option maxHeartbeats 1000000 in
theorem grow_nil (n : Nat) (w : World) (h1 : 1 ≤ n) (h2 : n ≤ 1000000) :
    Calls Try.prog 94 #[.slice none 0 0, .int .i64 n] w fun e w' => ∃ c, e = .returned (.slice (some ⟨w.heap.size, 0, none⟩) 0 c) ∧ w'.ownsRow w.heap.size 3 1 (.slice (some ⟨w.heap.size, 0, none⟩) 0 c) 0 [] ∧ Below w.heap.size w w' := by
  obtain ⟨i0, hi, hz0, hz1, hz2⟩ := info_parts info_int
  have hold : (Builtin.firstCells i0.size 0 (.slice none 0 0)).run Try.prog w.drew = .ok #[] w.drew := run_firstCells_none w.drew i0.size 0 0 0
  have hrz : ∀ ty, (Builtin.append_ #[25, 3] ty #[.slice none 0 0, .int .i64 (n : Int)]).run Try.prog w =
      .ok (.slice (some ⟨w.heap.size, 0, none⟩) (0 + n) (grownCap w (0 + n) 0 3)) (w.drew.alloc (.cells (#[] ++ Builtin.zeroCells (Value.int .i64 0).cells n ++ Builtin.zeroCells (Value.int .i64 0).cells (grownCap w (0 + n) 0 3 - (0 + n))) 3)) := fun ty =>
    Lib.run_append_grow_zeros w 25 3 ty 3 i0 (.int .i64 0) .i64 .i64 Try.underlying25 Try.underlying3 hi hz0 none 0 0 [] hold n (by omega) (by omega) (by omega) (by omega) (by rw [hz2]; omega)
      (growslice_fits (by omega) (by rw [hz2]; omega))
  have hGn : n ≤ grownCap w (0 + n) 0 3 := by have := grownCap_ge w (0 + n) 0 3; omega
  have hG63 := grownCap_le_maxLen w (0 + n) 0 3 (by unfold maxLen; omega)
  obtain ⟨G, hG⟩ : ∃ G, grownCap w (0 + n) 0 3 = G := ⟨_, rfl⟩
  rw [hG, Nat.zero_add] at hrz
  rw [hG] at hGn hG63
  obtain ⟨cur, hcur⟩ : ∃ cur, #[] ++ Builtin.zeroCells (Value.int .i64 0).cells n ++ Builtin.zeroCells (Value.int .i64 0).cells (G - n) = cur := ⟨_, rfl⟩
  have hsz : cur.size = G * 1 := by
    rw [← hcur]
    have e1 : (Value.int .i64 0).cells.size = 1 := rfl
    simp only [Array.size_append, size_zeroCells, e1, List.size_toArray, List.length_nil]
    omega
  simp only [hcur] at hrz
  have hg0 : (n : Int) > 0 := by omega
  have hg1 : G ≤ 9223372036854775807 := by unfold maxLen at hG63; omega
  have HSZ := Lib.hid hsz
  have HG63 := Lib.hid hG63
  clear hold hi hz0 hz1 hz2 hG hcur hsz hG63
  go_enter Try.func94, Try.ntmps94
  go_wp2_with (at_builtin; refine Lib.wpList_append_run _ rfl _ _ _ _ rfl _ _ rfl rfl _ _ (hrz _) ?_)
  go_ret
  exact ⟨_, rfl, ⟨rfl, .inr ⟨w.heap.size, G, cur, rfl, Nat.le_refl _, heap_alloc_new w.drew _, by omega, HG63.out, HSZ.out, rfl⟩⟩, ((Below.refl _ w).drew).alloc (Nat.le_refl _) _⟩

theorem TermsAt.hdAt {w : World} {B n : Nat} {A : Option Addr} {ls : List Hd} {tt : List (List Int)} (h : TermsAt w B A n ls tt) (hso : ∀ x ∈ ls, ∃ b off, x.1 = some ⟨b, off, none⟩) {k : Nat} (hk : k < n) :
    ∃ b off b' off' n' c' t', A = some ⟨b, off, none⟩ ∧ b < B ∧ w.cell? ⟨b, off + k, none⟩ = some (.slice (some ⟨b', off', none⟩) n' c') ∧ tt[k]? = some t' ∧ IntsAt w B (some ⟨b', off', none⟩) n' t' := by
  obtain ⟨b, off, e, hb, hc⟩ := h.hds.mem (by omega)
  have h1 : k < ls.length := by rw [← h.hds.len]; exact hk
  have h2 : k < tt.length := by rw [← h.len]; exact hk
  obtain ⟨b', off', e'⟩ := hso _ (List.getElem_mem h1)
  have h3 := h.each k h1 h2
  have h4 := hc k h1
  rw [e'] at h3 h4
  exact ⟨b, off, b', off', _, _, tt[k], e, hb, h4, List.getElem?_eq_getElem h2, h3⟩
def flTo (tt : List (List Int)) (k : Nat) : List Int := (tt.take k).flatten
theorem flTo_succ {tt : List (List Int)} {k : Nat} {t : List Int} (h : tt[k]? = some t) : flTo tt (k + 1) = flTo tt k ++ t := by
  obtain ⟨hk, rfl⟩ := List.getElem?_eq_some_iff.1 h
  unfold flTo
  rw [List.take_succ_eq_append_getElem hk, List.flatten_append]
  simp
theorem flTo_all {tt : List (List Int)} {k : Nat} (h : tt.length ≤ k) : flTo tt k = tt.flatten := by
  unfold flTo; rw [List.take_of_length_le h]
theorem flTo_le (tt : List (List Int)) (k : Nat) : (flTo tt k).length ≤ tt.flatten.length := by
  have : tt.flatten = flTo tt k ++ (tt.drop k).flatten := by
    unfold flTo
    rw [← List.flatten_append, List.take_append_drop]
  rw [this, List.length_append]
  omega
theorem ints_news' {W : World} {B n b off : Nat} {t : List Int} (h : IntsAt W B (some ⟨b, off, none⟩) n t) : ∀ j u, (t.map (Value.int .i64))[j]? = some u → W.cell? ((⟨b, off, none⟩ : Addr).add j) = some u := by
  rcases Nat.eq_zero_or_pos n with h0 | h0
  · have : t = [] := List.eq_nil_of_length_eq_zero (by rw [← h.len]; exact h0)
    subst this
    intro j u hu
    simp at hu
  · exact ints_news h rfl h0

set_option maxRecDepth 100000 in
set_option maxHeartbeats 2000000 in
theorem concat_any (A : Option Addr) (n c : Nat) (ls : List Hd) (tt : List (List Int)) (w : World) (ht : TermsAt w w.heap.size A n ls tt) (hso : ∀ x ∈ ls, ∃ b off, x.1 = some ⟨b, off, none⟩) (hn : n ≤ 1000) (h1 : 1 ≤ tt.flatten.length) (h2 : tt.flatten.length ≤ 1000) :
    Calls Try.prog 62 #[.slice A n c] w fun e w' => ∃ v, e = .returned v ∧ w'.ownsRow w.heap.size 3 1 v tt.flatten.length (tt.flatten.map (Value.int .i64)) ∧ Below w.heap.size w w' := by
  obtain ⟨i0, hi, hz0, hz1, hz2⟩ := info_parts info_int
  have HT := Lib.hid ht
  have HLT := Lib.hid ht.len
  have HSO := Lib.hid hso
  have HFA := Lib.hid (flTo_all (tt := tt) (k := n) (by rw [← ht.len]; exact Nat.le_refl _))
  have HFL := Lib.hid (fun k => flTo_le tt k)
  have HFS := Lib.hid (fun k t (h : tt[k]? = some t) => flTo_succ h)
  have HF0 := Lib.hid (show flTo tt 0 = [] from rfl)
  obtain ⟨F, hF⟩ : ∃ F, tt.flatten = F := ⟨_, rfl⟩
  rw [hF] at h1 h2 HFA HFL ⊢
  obtain ⟨fl, hfl⟩ : ∃ fl, flTo tt = fl := ⟨_, rfl⟩
  simp only [hfl] at HFA HFL HFS HF0
  clear ht hso hF hfl
  go_enter Try.func62, Try.ntmps62
  go_wp2
  go_loop [3, 11] (fun s i => ∃ k : Nat, k ≤ n ∧ i = .int .i64 k ∧ s = .int .i64 ((fl k).length : Nat)) (fun _ i => n - (intOf i).toNat)
  case atStart => exact ⟨0, Nat.zero_le _, rfl, by rw [HF0.out]; rfl⟩
  case round =>
    obtain ⟨k, hk, rfl, rfl⟩ := hrel
    have hfl := HFL.out k
    by_cases hlt : k < n
    · obtain ⟨b, off, b', off', n', c', t, rfl, hb, q1, q2, hI⟩ := HT.out.hdAt HSO.out hlt
      have hs := HFS.out k t q2
      have hfl2 := HFL.out (k + 1)
      have hnl := hI.len
      rw [hs, List.length_append] at hfl2
      have H := Lib.hid (show (fl (k + 1)).length = (fl k).length + n' by rw [hs, List.length_append, hnl])
      have hk0 : (0 : Int) ≤ (k : Int) := by omega
      have hk1 : (k : Int) < (n : Int) := by omega
      have hn' : n' ≤ 1000 := by omega
      obtain ⟨L, hL⟩ : ∃ L, (fl k).length = L := ⟨_, rfl⟩
      rw [hL] at H hfl
      rw [hL]
      have hnn : ¬ ((L : Int) + (n' : Int) < 0) := by omega
      clear q2 hI hs hfl2 hnl hL
      go_wp2
      go_round
      case rel => exact ⟨k + 1, by omega, by go_num, by rw [H.out]; go_num⟩
      case measure => simp [intOf]; omega
    · obtain rfl : k = n := by omega
      rw [HFA.out]
      have G := Lib.hid (grow_nil F.length w h1 (by omega))
      clear hfl
      go_wp2_with (go_at_call 94; refine G.out.mono ?_; rintro e w1 ⟨c1, rfl, hrow, hB⟩; have HROW := Lib.hid hrow; have HB := Lib.hid hB; clear hrow hB)
      go_loopw [6, 27] (fun v i wr => ∃ (j : Nat) (Av : Option Addr) (cv : Nat), j ≤ k ∧ i = .int .i64 j ∧ v = .slice Av (fl j).length cv ∧ wr.ownsRow w.heap.size 3 1 (.slice Av (fl j).length cv) (fl j).length ((fl j).map (Value.int .i64)) ∧ Below w.heap.size w wr) (fun _ i _ => k - (intOf i).toNat)
      case atStart => exact ⟨0, some ⟨w.heap.size, 0, none⟩, c1, Nat.zero_le _, rfl, by rw [HF0.out]; rfl, by rw [HF0.out]; exact HROW.out, HB.out⟩
      case round =>
        obtain ⟨j, Av, cv, hj, rfl, rfl, hown, hB5⟩ := hrel
        have HB5 := Lib.hid hB5
        have hcl := HFL.out j
        by_cases hlt2 : j < k
        · obtain ⟨b, off, b2, off2, n', c', t, rfl, hb, q1, q2, hI⟩ := HT.out.hdAt HSO.out hlt2
          have q3 := (hB5.cell (p := ⟨b, off + j, none⟩) hb).trans q1
          have hs := HFS.out j t q2
          have hfl2 := HFL.out (j + 1)
          have hI' := hI.below hB5
          have hnl := hI'.len
          rw [hs, List.length_append] at hfl2
          have HN1 := Lib.hid (ints_news' hI')
          have HN2 := Lib.hid (ints_one t)
          have HN0 := Lib.hid (show (t.map (Value.int .i64)).length = n' * 1 by simp; omega)
          have H := Lib.hid hs
          have hn60 : n' ≤ 1000 := by omega
          have HNL := Lib.hid hnl
          have hj0 : (0 : Int) ≤ (j : Int) := by omega
          have hj1 : (j : Int) < (k : Int) := by omega
          clear q1 q2 hI hI' hB5 hnl hs hfl2
          obtain ⟨V, hV⟩ : ∃ V, fl j = V := ⟨_, rfl⟩
          rw [hV] at hown hcl H
          rw [hV]
          obtain ⟨L, hL⟩ : ∃ L, V.length = L := ⟨_, rfl⟩
          rw [hL] at hown hcl
          rw [hL]
          have HLL := Lib.hid hL
          have HOWN := Lib.hid hown
          clear hV hL hown
          go_wp2_with (at_builtin
                       refine wpList_append_own_at _ rfl _ _ 25 rfl w.heap.size 3 i0 _ 1 8 Try.underlying25 hi hz0 hz1 hz2 rfl (by omega) _ _ _ rfl HOWN.out ⟨b2, off2, none⟩ n' c' (t.map (Value.int .i64)) rfl HN0.out HN1.out HN2.out (by unfold maxLen; omega) (by omega) HB5.out.size ?_
                       intro v1 w6 hown1 hg1 hnil _
                       have HB6 := Lib.hid (HB5.out.grown hg1 HB5.out.size (fun j e => (HOWN.out.lt j e).1))
                       have hform : ∃ A1 cap1, v1 = .slice A1 (L + n') cap1 := by
                         obtain ⟨_, ⟨rfl, h0⟩ | ⟨g, cap, cur, rfl, _⟩⟩ := hown1
                         · exact ⟨none, 0, by rw [h0]⟩
                         · exact ⟨_, _, rfl⟩
                       obtain ⟨A1, cap1, hv1⟩ := hform
                       subst hv1
                       have HOWN1 := Lib.hid hown1
                       clear hown1 hg1 hnil)
          go_roundw
          case rel => exact ⟨j + 1, A1, cap1, by omega, by go_num, by rw [H.out, List.length_append, HLL.out, HNL.out], by rw [H.out, List.length_append, HLL.out, List.map_append, ← HNL.out]; exact HOWN1.out, HB6.out⟩
          case measure => simp [intOf]; omega
        · obtain rfl : j = k := by omega
          rw [HFA.out] at hown
          rw [HFA.out]
          have HOWN := Lib.hid hown
          clear hown hB5
          go_wp2
          go_ret
          exact ⟨_, rfl, HOWN.out, HB5.out⟩

end Go.Proofs.Ytlciaecclcckbaa

/- Contracts: locate, At. -/
namespace Go.Proofs.Ytlciaecclcckbaa
open Go.RowKit

def locV (ss : Sg) (zs : List Int) : Option Nat → Array Value
  | none => #[.int .i64 0, .int .i64 0, .bool false]
  | some a => #[.int .i64 (a : Int), .int .i64 ((a + (prt ss zs a).length : Nat) : Int), .bool true]
set_option maxRecDepth 100000 in
set_option maxHeartbeats 2000000 in
theorem locate_any (As At Ap : Option Addr) (ns cs nt ct np cp : Nat) (ss : Sg) (zs path : List Int) (w : World) (hs : SigAt w w.heap.size As ns ss) (ht : IntsAt w w.heap.size At nt zs) (hp : IntsAt w w.heap.size Ap np path) (hv : valOk ss zs = true) (hnp : np ≤ 1000) :
    Calls Try.prog 56 #[.slice As ns cs, .slice At nt ct, .slice Ap np cp] w fun e w' => e = .returned (.tuple (locV ss zs (locN ss zs path 0))) ∧ Below w.heap.size w w' := by
  have h0 := PartAt.zero hv
  obtain ⟨h1, h60, hnum, hscan⟩ := valOk_term hv
  have har := sigOk_ar (valOk_sig hv)
  have hsl := sigOk_len (valOk_sig hv)
  have hh : HeadsOk ss zs := fun z hz => (hnum z hz).2
  have hls := hs.len
  have hlt := ht.len
  have hlp := hp.len
  rw [← hls] at hsl
  rw [← hlt] at h1 h60
  have HE := Lib.hid (fun V (hb : Below w.heap.size w V) (i : Nat) (hi : i ≤ 1000000) => end_any ss zs har hh As At ns cs nt ct i V (hs.up hb) (ht.up hb) hsl.1 h1 (by omega) (by omega) hi)
  have HEP := Lib.hid (fun b (hb : PartAt ss zs b) i (hi : i < arOf ss (zs.getD b 0)) => show endI ss zs (psA ss zs b i) = ((psA ss zs b (i + 1) : Nat) : Int) ∧ psA ss zs b i ≤ 60 ∧ psA ss zs b (i + 1) ≤ 60 by
    have hi' := hi
    rw [hb.getD] at hi'
    obtain ⟨s1, s2, s3, _⟩ := prt_step hb.is hb.1 hi'
    exact ⟨endI_scan s1 s3, by omega, by omega⟩)
  have HEW := Lib.hid (fun b (hb : PartAt ss zs b) => show endI ss zs b = ((b + (prt ss zs b).length : Nat) : Int) ∧ b + (prt ss zs b).length ≤ 60 by
    have hle := hb.is.le
    exact ⟨endI_scan hb.is.whole hle, by omega⟩)
  have HP0 := Lib.hid (fun b (hb : PartAt ss zs b) => show psA ss zs b 0 = b + 1 ∧ b < nt by
    have := hb.1
    exact ⟨psA_zero hb.1, by omega⟩)
  have HPA := Lib.hid (fun b (hb : PartAt ss zs b) k (hk : k < arOf ss (zs.getD b 0)) => hb.arg hk)
  have HT := Lib.hid (fun V (hb : Below w.heap.size w V) => ht.up hb)
  have HPP := Lib.hid (fun V (hb : Below w.heap.size w V) => hp.up hb)
  obtain ⟨bs, offs, rfl, hbs, hsg⟩ := hs.mem (by omega)
  have HSG := Lib.hid hsg
  have HAR := Lib.hid har
  have HHH := Lib.hid hh
  have HLS := Lib.hid hls
  have HLT := Lib.hid hlt
  have HLP := Lib.hid hlp
  obtain ⟨R, hR⟩ : ∃ R, locN ss zs path 0 = R := ⟨_, rfl⟩
  rw [hR]
  have HR0 := Lib.hid (show locN ss zs (path.drop 0) 0 = R by simpa using hR)
  have HPT := Lib.hid h0
  clear hs ht hp hv h0 hnum hscan har hh hls hlt hlp hsg hR
  go_enter Try.func56, Try.ntmps56
  go_wp2
  go_loopw [6, 14] (fun f i wr => ∃ j b : Nat, j ≤ np ∧ i = .int .i64 j ∧ f = .int .i64 b ∧ Hid (PartAt ss zs b) ∧ Hid (locN ss zs (path.drop j) b = R) ∧ Below w.heap.size w wr) (fun _ i _ => np - (intOf i).toNat)
  case atStart => exact ⟨0, 0, Nat.zero_le _, rfl, rfl, HPT, HR0, Below.refl _ _⟩
  case round =>
    obtain ⟨j, b, hj, rfl, rfl, hPT, hLR, hB⟩ := hrel
    have HB := Lib.hid hB
    obtain ⟨hp0, hbn⟩ := HP0.out b hPT.out
    by_cases hlt : j < np
    · obtain ⟨bp, op, k, hAp, c1, k1, e1⟩ := (HPP.out wr hB).cellAt hlt
      obtain ⟨bt, ot, x, hAt, c2, k2, e2⟩ := (HT.out wr hB).cellAt hbn
      subst hAp hAt
      have hd := drop_at (l := path) (j := j) (k := k) (by rw [List.getElem?_eq_getElem k1, e1])
      have hLR2 := hLR.out
      rw [hd] at hLR2
      have hg : zs.getD b 0 = x := by rw [List.getD_eq_getElem?_getD, List.getElem?_eq_getElem k2, e2]; rfl
      have hxl := HHH.out _ (List.getElem_mem k2)
      rw [e2] at hxl
      have hbad := fun h => (locN_bad (ss := ss) (zs := zs) (p := path.drop (j + 1)) (a := b) (k := k) h).symm.trans hLR2
      have hstep := fun i (h : i < arOf ss (zs.getD b 0)) (e : k = (i : Int)) => (locN_step (ss := ss) (zs := zs) (p := path.drop (j + 1)) h).symm.trans (e ▸ hLR2)
      have hep := fun i (h : i < arOf ss (zs.getD b 0)) => HEP.out b hPT.out i h
      have hpa := fun i (h : i < arOf ss (zs.getD b 0)) => HPA.out b hPT.out i h
      rw [hg] at hbad hstep hep hpa
      have hj0 : (0 : Int) ≤ (j : Int) := by omega
      have hj1 : (j : Int) < (np : Int) := by omega
      have hb0 : (0 : Int) ≤ (b : Int) := by omega
      have hb1 : (b : Int) < (nt : Int) := by omega
      clear hd hLR hLR2 hg e1 e2 k1 k2 hB
      by_cases hx : x < 0
      · have ha : arOf ss x = 0 := by simp [arOf, hx]
        have H := Lib.hid (show none = R from hbad (by rw [ha]; omega))
        clear hbad hstep hep hpa ha hxl
        go_wp2
        go_ret3
        exact ⟨by rw [← H.out]; rfl, HB.out⟩
      · obtain ⟨q, rfl⟩ : ∃ q : Nat, x = (q : Int) := ⟨x.toNat, by omega⟩
        have hql : q < ss.length := by omega
        have har1 := arOf_at hql
        have hc3 := (HB.out.cell (p := ⟨bs, offs + q * 2 + 1, none⟩) hbs).trans (HSG.out.ar q hql)
        obtain ⟨ha0, ha3⟩ := HAR.out _ (List.getElem_mem hql)
        obtain ⟨r, hr⟩ : ∃ r : Nat, ss[q].2 = (r : Int) := ⟨ss[q].2.toNat, by omega⟩
        rw [hr] at hc3 har1 ha3
        rw [Int.toNat_natCast] at har1
        rw [har1] at hbad hstep hep hpa
        have hq0 : (0 : Int) ≤ (q : Int) := by omega
        have hq1 : (q : Int) < (ns : Int) := by have := HLS.out; omega
        clear hr ha0 har1
        by_cases hk0 : k < 0
        · have H := Lib.hid (show none = R from hbad (by omega))
          clear hbad hstep hep hpa
          go_wp2
          go_ret3
          exact ⟨by rw [← H.out]; rfl, HB.out⟩
        · by_cases hkr : (r : Int) ≤ k
          · have H := Lib.hid (show none = R from hbad (by omega))
            clear hbad hstep hep hpa
            go_wp2
            go_ret3
            exact ⟨by rw [← H.out]; rfl, HB.out⟩
          · obtain ⟨kk, rfl⟩ : ∃ kk : Nat, k = (kk : Int) := ⟨k.toNat, by omega⟩
            have hkk : kk < r := by omega
            have H := Lib.hid (hstep kk hkk rfl)
            have H2 := Lib.hid (hpa kk hkk)
            have HEPP := Lib.hid hep
            clear hbad hstep hep hpa
            have HP1 := Lib.hid hp0
            clear hp0
            go_wp2
            go_loopw [6, 40] (fun f c w2 => ∃ i : Nat, i ≤ kk ∧ c = .int .i64 i ∧ f = .int .i64 (psA ss zs b i : Nat) ∧ Below w.heap.size w w2) (fun _ c _ => kk - (intOf c).toNat)
            case atStart => exact ⟨0, Nat.zero_le _, rfl, by rw [HP1.out]; go_num, HB.out⟩
            case round =>
              obtain ⟨i, hi, rfl, rfl, hB5⟩ := hrel
              have HB5 := Lib.hid hB5
              by_cases hlt2 : i < kk
              · obtain ⟨f1, f2, f3⟩ := HEPP.out i (by omega)
                obtain ⟨s, hs⟩ : ∃ s, psA ss zs b i = s := ⟨_, rfl⟩
                obtain ⟨s', hs'⟩ : ∃ s', psA ss zs b (i + 1) = s' := ⟨_, rfl⟩
                have HS' := Lib.hid hs'
                rw [hs, hs'] at f1
                rw [hs] at f2
                rw [hs'] at f3
                rw [hs]
                have C := Lib.hid (HE.out _ hB5 s (by omega))
                rw [f1] at C
                clear f1 hs hs' hB5
                go_wp2_with (go_at_call 90; refine C.out.mono ?_; rintro e w6 ⟨rfl, hB6⟩; have HB6 := Lib.hid (below_then HB5.out hB6); clear hB6)
                go_roundw
                case rel => exact ⟨i + 1, by omega, by go_num, by rw [HS'.out], HB6.out⟩
                case measure => simp [intOf]; omega
              · obtain rfl : i = kk := by omega
                go_wp2
                go_roundw
                case rel => exact ⟨j + 1, psA ss zs b i, by omega, by go_num, rfl, H2, H, HB5.out⟩
                case measure => simp [intOf]; omega
    · obtain rfl : j = np := by omega
      have hd : path.drop j = [] := List.drop_of_length_le (by have := HLP.out; omega)
      have hLR2 := hLR.out
      rw [hd, locN_nil] at hLR2
      have H := Lib.hid hLR2
      obtain ⟨f1, f2⟩ := HEW.out b hPT.out
      have C := Lib.hid (HE.out wr hB b (by omega))
      rw [f1] at C
      obtain ⟨s, hs⟩ : ∃ s, b + (prt ss zs b).length = s := ⟨_, rfl⟩
      have HSS := Lib.hid hs
      rw [hs] at C f2
      clear f1 hd hLR2 hs hLR hB
      go_wp2_with (go_at_call 90; refine C.out.mono ?_; rintro e w6 ⟨rfl, hB6⟩; have HB6 := Lib.hid (below_then HB.out hB6); clear hB6)
      go_ret3
      exact ⟨by rw [← H.out, ← HSS.out]; rfl, HB6.out⟩

set_option maxHeartbeats 400000 in
theorem at_any (As At Ap : Option Addr) (ns cs nt ct np cp : Nat) (ss : Sg) (zs path : List Int) (w : World) (hs : SigAt w w.heap.size As ns ss) (ht : IntsAt w w.heap.size At nt zs) (hp : IntsAt w w.heap.size Ap np path) (hct : nt ≤ ct) (hct2 : ct ≤ 9223372036854775807) (hnp : np ≤ 1000) :
    Calls Try.prog 16 #[.slice As ns cs, .slice At nt ct, .slice Ap np cp] w (RetT w (atR ss zs path).1 (atR ss zs path).2) := by
  have C := Lib.hid (valid_any As At ns cs nt ct ss zs w hs ht)
  cases hv : valOk ss zs
  · have hr : atR ss zs path = ([], 1) := by unfold atR; rw [if_pos hv]
    rw [hr]
    rw [hv] at C
    clear hs ht hp hv hr
    go_enter Try.func16, Try.ntmps16
    go_wp2_with (go_at_call 55; refine C.out.mono ?_; rintro e w1 ⟨rfl, hB⟩; have HB := Lib.hid hB)
    go_ret2
    exact ⟨none, 0, 0, rfl, IntsAt.nil _ _ 0, HB.out⟩
  · have C2 := Lib.hid (fun V (hb : Below w.heap.size w V) => locate_any As At Ap ns cs nt ct np cp ss zs path V (hs.up hb) (ht.up hb) (hp.up hb) hv hnp)
    rw [hv] at C
    cases hl : locN ss zs path 0 with
    | none =>
      have hr : atR ss zs path = ([], 8) := by unfold atR; rw [if_neg (by simp [hv]), hl]
      rw [hr]
      simp only [hl, locV] at C2
      clear hs ht hp hv hr hl
      go_enter Try.func16, Try.ntmps16
      go_wp2_with (first
        | (go_at_call 55; refine C.out.mono ?_; rintro e w1 ⟨rfl, hB⟩; have HB := Lib.hid hB; clear hB)
        | (go_at_call 56; refine (C2.out _ HB.out).mono ?_; rintro e w2 ⟨rfl, hB2⟩; have HB2 := Lib.hid (below_then HB.out hB2); clear hB2))
      go_ret2
      exact ⟨none, 0, 0, rfl, IntsAt.nil _ _ 0, HB2.out⟩
    | some a =>
      have hr := atR_mk hv hl
      rw [hr]
      simp only [hl, locV] at C2
      have hpa := (locN_part path 0 a (PartAt.zero hv) hl).1
      have hP := hpa.is
      obtain ⟨h1, h60, _, _⟩ := valOk_term hv
      have hlt := ht.len
      obtain ⟨P, hPP⟩ : ∃ P, prt ss zs a = P := ⟨_, rfl⟩
      rw [hPP] at hP C2 ⊢
      have hl1 := hP.len
      have hl2 := hP.le
      have hal := hpa.1
      obtain ⟨bt, offt, rfl, hbt, htc⟩ := ht.mem (by omega)
      obtain ⟨m, hm⟩ : ∃ m, P.length = m := ⟨_, rfl⟩
      obtain ⟨e, he⟩ : ∃ e, a + m = e := ⟨_, rfl⟩
      have hcells : ∀ j (h : j < P.length), w.cell? ⟨bt, offt + a + j, none⟩ = some (.int .i64 P[j]) := by
        intro j hj
        have e1 : (zs.drop a)[j]? = some P[j] := by rw [hP.split, List.getElem?_append_left hj, List.getElem?_eq_getElem hj]
        rw [List.getElem?_drop] at e1
        obtain ⟨hj2, e2⟩ := List.getElem?_eq_some_iff.1 e1
        rw [Nat.add_assoc, ← e2]
        exact htc (a + j) hj2
      have C3 := Lib.hid (fun V (hb : Below w.heap.size w V) c => cloneT_any V bt (offt + a) m c P (by omega) (by omega) hm (fun j hj => (hb.cell (p := ⟨bt, offt + a + j, none⟩) hbt).trans (hcells j hj)) (Nat.lt_of_lt_of_le hbt hb.size))
      have HM := Lib.hid hm
      rw [hm, he] at C2
      have hea : e - a = m := by omega
      have g1 : a ≤ e := by omega
      have g2 : e ≤ ct := by omega
      have g3 : ct ≠ a := by omega
      have g4 : (0 : Int) ≤ (a : Int) := by omega
      have g5 : m ≤ 60 := by omega
      clear hs ht hp hv hr hl hpa hP h1 h60 hlt hPP hm htc hcells hl1 hl2 hal he
      go_enter Try.func16, Try.ntmps16
      go_wp2_with (first
        | (go_at_call 55; refine C.out.mono ?_; rintro e w1 ⟨rfl, hB⟩; have HB := Lib.hid hB; clear hB)
        | (go_at_call 56; refine (C2.out _ HB.out).mono ?_; rintro e w2 ⟨rfl, hB2⟩; have HB2 := Lib.hid (below_then HB.out hB2); clear hB2)
        | (go_at_call 57; refine (C3.out _ HB2.out _).mono ?_; rintro e w3 ⟨v3, rfl, hrow3, hB3⟩; simp only [List.length_map] at hrow3; obtain ⟨A3, c3, e3, hI3⟩ := row_ints hrow3 (by rw [HM.out]; omega); subst e3; have HI3 := Lib.hid hI3; have HB3 := Lib.hid (below_then HB2.out hB3); clear hrow3 hI3 hB3))
      go_ret2
      exact ⟨_, _, _, rfl, HI3.out, HB3.out⟩

end Go.Proofs.Ytlciaecclcckbaa

namespace Go.Proofs.Ytlciaecclcckbaa
open Go.RowKit

theorem ints_take {w : World} {B n b off a : Nat} {zs : List Int} (h : IntsAt w B (some ⟨b, off, none⟩) n zs) (ha : a ≤ n) : IntsAt w B (some ⟨b, off, none⟩) a (zs.take a) := by
  have hl := h.len
  have hm := h.max
  refine ⟨by rw [List.length_take]; omega, by omega, fun h0 => ?_⟩
  obtain ⟨b', off', e, hb, hc⟩ := h.mem (by omega)
  cases e
  exact ⟨b, off, rfl, hb, fun j hj => by rw [List.length_take] at hj; rw [hc j (by omega), List.getElem_take]⟩
theorem ints_drop {w : World} {B n b off e : Nat} {zs : List Int} (h : IntsAt w B (some ⟨b, off, none⟩) n zs) (he : e ≤ n) : IntsAt w B (some ⟨b, off + e, none⟩) (n - e) (zs.drop e) := by
  have hl := h.len
  have hm := h.max
  refine ⟨by rw [List.length_drop]; omega, by omega, fun h0 => ?_⟩
  obtain ⟨b', off', e', hb, hc⟩ := h.mem (by omega)
  cases e'
  exact ⟨b, off + e, rfl, hb, fun j hj => by rw [List.length_drop] at hj; rw [Nat.add_assoc, hc (e + j) (by omega), List.getElem_drop]⟩
theorem terms3 {V : World} {A1 A2 A3 : Option Addr} {n1 c1 n2 c2 n3 c3 : Nat} {x y z : List Int} (h1 : IntsAt V V.heap.size A1 n1 x) (h2 : IntsAt V V.heap.size A2 n2 y) (h3 : IntsAt V V.heap.size A3 n3 z) :
    TermsAt (V.alloc (.cells #[.slice A1 n1 c1, .slice A2 n2 c2, .slice A3 n3 c3] 25)) (V.alloc (.cells #[.slice A1 n1 c1, .slice A2 n2 c2, .slice A3 n3 c3] 25)).heap.size (some ⟨V.heap.size, 0, none⟩) 3 [(A1, n1, c1), (A2, n2, c2), (A3, n3, c3)] [x, y, z] := by
  refine ⟨HdsAt.of_blk _ (Blk.new V _ _) rfl rfl (by simp), rfl, fun j a b => ?_⟩
  match j, a, b with
  | 0, _, _ => exact h1.alloc _
  | 1, _, _ => exact h2.alloc _
  | 2, _, _ => exact h3.alloc _
theorem putL_flat (ss : Sg) (zs us : List Int) (a : Nat) : [zs.take a, us, zs.drop (a + (prt ss zs a).length)].flatten = putL ss zs us a := by
  unfold putL
  simp

/-- A slice of ints, with its capacity, and an error are returned. -/
def RetTc (w : World) (zs : List Int) (er : Int) (e : Ending) (w' : World) : Prop :=
  ∃ A n c, e = .returned (.tuple #[.slice A n c, .int .i64 er]) ∧ IntsAt w' w'.heap.size A n zs ∧ Below w.heap.size w w' ∧ n ≤ c ∧ c ≤ 9223372036854775807
set_option maxHeartbeats 400000 in
theorem put_bad (As At Ap Au : Option Addr) (ns cs nt ct np cp nu cu : Nat) (ss : Sg) (zs path us : List Int) (w : World) (hs : SigAt w w.heap.size As ns ss) (ht : IntsAt w w.heap.size At nt zs) (hu : IntsAt w w.heap.size Au nu us) (hv : (valOk ss zs && valOk ss us) = false) :
    Calls Try.prog 19 #[.slice As ns cs, .slice At nt ct, .slice Ap np cp, .slice Au nu cu] w (RetTc w (putR ss zs path us).1 (putR ss zs path us).2) := by
  have hr : putR ss zs path us = ([], 1) := by unfold putR; rw [if_pos hv]
  rw [hr]
  have C := Lib.hid (valid_any As At ns cs nt ct ss zs w hs ht)
  cases h1 : valOk ss zs
  · rw [h1] at C
    clear hs ht hu hv hr h1
    go_enter Try.func19, Try.ntmps19
    go_wp2_with (go_at_call 55; refine C.out.mono ?_; rintro e w1 ⟨rfl, hB⟩; have HB := Lib.hid hB)
    go_ret2
    exact ⟨none, 0, 0, rfl, IntsAt.nil _ _ 0, HB.out, by omega, by omega⟩
  · have hsl := sigOk_len (valOk_sig h1)
    rw [← hs.len] at hsl
    have htu : termOk ss us = false := by rw [h1] at hv; simpa [valOk, valOk_sig h1] using hv
    have C2 := Lib.hid (fun V (hb : Below w.heap.size w V) => validTerm_any As Au ns cs nu cu ss us V (hs.up hb) (hu.up hb) (sigOk_ar (valOk_sig h1)) hsl.1 hsl.2)
    rw [h1] at C
    simp only [htu] at C2
    clear hs ht hu hv hr h1 htu
    go_enter Try.func19, Try.ntmps19
    go_wp2_with (first
      | (go_at_call 55; refine C.out.mono ?_; rintro e w1 ⟨rfl, hB⟩; have HB := Lib.hid hB; clear hB)
      | (go_at_call 61; refine (C2.out _ HB.out).mono ?_; rintro e w2 ⟨rfl, hB2⟩; have HB2 := Lib.hid (below_then HB.out hB2); clear hB2))
    go_ret2
    exact ⟨none, 0, 0, rfl, IntsAt.nil _ _ 0, HB2.out, by omega, by omega⟩

set_option maxRecDepth 100000 in
set_option maxHeartbeats 1000000 in
theorem put_any (As At Ap Au : Option Addr) (ns cs nt ct np cp nu cu : Nat) (ss : Sg) (zs path us : List Int) (w : World) (hs : SigAt w w.heap.size As ns ss) (ht : IntsAt w w.heap.size At nt zs) (hp : IntsAt w w.heap.size Ap np path) (hu : IntsAt w w.heap.size Au nu us) (hct : nt ≤ ct) (hct2 : ct ≤ 9223372036854775807) (hnp : np ≤ 1000) :
    Calls Try.prog 19 #[.slice As ns cs, .slice At nt ct, .slice Ap np cp, .slice Au nu cu] w (RetTc w (putR ss zs path us).1 (putR ss zs path us).2) := by
  cases hvv : (valOk ss zs && valOk ss us)
  · exact put_bad As At Ap Au ns cs nt ct np cp nu cu ss zs path us w hs ht hu hvv
  obtain ⟨hv, hvu⟩ : valOk ss zs = true ∧ valOk ss us = true := by simpa using hvv
  have C := Lib.hid (valid_any As At ns cs nt ct ss zs w hs ht)
  rw [hv] at C
  have hsl := sigOk_len (valOk_sig hv)
  rw [← hs.len] at hsl
  have htu : termOk ss us = true := by simpa [valOk, valOk_sig hv] using hvu
  have C2 := Lib.hid (fun V (hb : Below w.heap.size w V) => validTerm_any As Au ns cs nu cu ss us V (hs.up hb) (hu.up hb) (sigOk_ar (valOk_sig hv)) hsl.1 hsl.2)
  simp only [htu] at C2
  have C3 := Lib.hid (fun V (hb : Below w.heap.size w V) => locate_any As At Ap ns cs nt ct np cp ss zs path V (hs.up hb) (ht.up hb) (hp.up hb) hv hnp)
  cases hl : locN ss zs path 0 with
  | none =>
    have hr : putR ss zs path us = ([], 8) := by unfold putR; rw [if_neg (by simp [hvv]), hl]
    rw [hr]
    simp only [hl, locV] at C3
    clear hs ht hp hu hv hvv hvu hr hl htu
    go_enter Try.func19, Try.ntmps19
    go_wp2_with (first
      | (go_at_call 55; refine C.out.mono ?_; rintro e w1 ⟨rfl, hB⟩; have HB := Lib.hid hB; clear hB)
      | (go_at_call 61; refine (C2.out _ HB.out).mono ?_; rintro e w2 ⟨rfl, hB2⟩; have HB2 := Lib.hid (below_then HB.out hB2); clear hB2)
      | (go_at_call 56; refine (C3.out _ HB2.out).mono ?_; rintro e w3 ⟨rfl, hB3⟩; have HB3 := Lib.hid (below_then HB2.out hB3); clear hB3))
    go_ret2
    exact ⟨none, 0, 0, rfl, IntsAt.nil _ _ 0, HB3.out, by omega, by omega⟩
  | some a =>
    have hr := putR_mk (p := path) hv hvu hl
    rw [hr]
    simp only [hl, locV] at C3
    have hpa := (locN_part path 0 a (PartAt.zero hv) hl).1
    have hfl := putL_flat ss zs us a
    have hPle := hpa.is.le
    have hal := hpa.1
    obtain ⟨h1, h60, _, _⟩ := valOk_term hv
    obtain ⟨u1, u60, _, _⟩ := valOk_term hvu
    have hlt := ht.len
    have hlu := hu.len
    obtain ⟨e, he⟩ : ∃ e, a + (prt ss zs a).length = e := ⟨_, rfl⟩
    have hln : (putL ss zs us a).length = a + nu + (nt - e) := by
      unfold putL
      simp only [List.length_append, List.length_take, List.length_drop, he]
      omega
    rw [he] at hPle C3 hfl
    obtain ⟨F, hF⟩ : ∃ F, putL ss zs us a = F := ⟨_, rfl⟩
    rw [hF] at hfl hln ⊢
    obtain ⟨bt, offt, rfl, hbt, _⟩ := ht.mem (by omega)
    obtain ⟨bu, offu, rfl, hbu, _⟩ := hu.mem (by omega)
    have ha60 : a ≤ 60 := by omega
    have he60 : e ≤ 60 := by omega
    have hent : e ≤ nt := by omega
    have hnt60 : nt ≤ 60 := by omega
    have hnu60 : nu ≤ 60 := by omega
    have hact : a ≤ ct := by omega
    have hect : e ≤ ct := by omega
    by_cases h60' : 60 < F.length
    · rw [if_pos h60']
      have hgt : (60 : Int) < (a : Int) + (nu : Int) + (nt : Int) - (e : Int) := by omega
      clear hs ht hp hu hv hvv hvu hr hl htu hpa hfl hlt hlu hal h1 h60 u1 u60 hF he hbt hbu hln h60'
      go_enter Try.func19, Try.ntmps19
      go_wp2_with (first
        | (go_at_call 55; refine C.out.mono ?_; rintro e w1 ⟨rfl, hB⟩; have HB := Lib.hid hB; clear hB)
        | (go_at_call 61; refine (C2.out _ HB.out).mono ?_; rintro e w2 ⟨rfl, hB2⟩; have HB2 := Lib.hid (below_then HB.out hB2); clear hB2)
        | (go_at_call 56; refine (C3.out _ HB2.out).mono ?_; rintro e w3 ⟨rfl, hB3⟩; have HB3 := Lib.hid (below_then HB2.out hB3); clear hB3))
      go_ret2
      exact ⟨none, 0, 0, rfl, IntsAt.nil _ _ 0, HB3.out, by omega, by omega⟩
    · rw [if_neg h60']
      have hgt : ¬ (60 : Int) < (a : Int) + (nu : Int) + (nt : Int) - (e : Int) := by omega
      have hF1 : 1 ≤ F.length := by omega
      have hF60 : F.length ≤ 60 := by omega
      have HT := Lib.hid (fun V (hb : Below w.heap.size w V) => ht.up hb)
      have HU := Lib.hid (fun V (hb : Below w.heap.size w V) => hu.up hb)
      have HFL := Lib.hid hfl
      have ha0 : (0 : Int) ≤ (a : Int) := by omega
      have he0 : (0 : Int) ≤ (e : Int) := by omega
      have hct0 : ct ≠ 0 := by omega
      have C4 := Lib.hid (fun V (hb : Below w.heap.size w V) off3 n3 c3 (h3 : IntsAt V V.heap.size (some ⟨bt, off3, none⟩) n3 (zs.drop e)) => by
        have T3 := (terms3 (c1 := ct) (c2 := cu) (c3 := c3) (ints_take (HT.out V hb) (a := a) (by omega)) (HU.out V hb) h3).keep (w' := (V.alloc (.cells #[.slice (some ⟨bt, offt, none⟩) a ct, .slice (some ⟨bu, offu, none⟩) nu cu, .slice (some ⟨bt, off3, none⟩) n3 c3] 25)).drew) (fun _ _ => rfl)
        have := concat_any _ 3 3 _ _ _ T3 (by simp) (by omega) (by rw [hfl]; exact hF1) (by rw [hfl]; omega)
        rw [hfl] at this
        refine this.mono (R' := fun e w' => ∃ A n c, e = .returned (.slice A n c) ∧ IntsAt w' w'.heap.size A n F ∧ Below w.heap.size w w' ∧ n ≤ c ∧ c ≤ 9223372036854775807) ?_
        rintro e' w' ⟨v, rfl, ho, hB⟩
        obtain ⟨A, c, rfl, hI, hc⟩ := row_ints_c ho (by omega)
        exact ⟨A, _, c, rfl, hI, (hb.alloc hb.size _).drew.trans (hB.mono (by have := hb.size; simp; omega)), hc⟩)
      have HD := Lib.hid (fun V (hb : Below w.heap.size w V) => ints_drop (HT.out V hb) hent)
      have HZ := Lib.hid (fun V (h : ct = e) => show IntsAt V V.heap.size (some ⟨bt, offt, none⟩) 0 (zs.drop e) by
        have hz2 : zs.drop e = [] := List.drop_of_length_le (by omega)
        rw [hz2]
        exact ⟨rfl, by omega, fun h => absurd h (by omega)⟩)
      clear hs ht hp hu hv hvv hvu hr hl htu hpa hfl hlt hlu hal h1 h60 u1 u60 hF he hbt hbu hln h60'
      by_cases hce : ct = e
      · have HI := Lib.hid (fun V => HZ.out V hce)
        clear HD HZ
        subst hce
        go_enter Try.func19, Try.ntmps19
        go_wp2_with (first
          | (go_at_call 55; refine C.out.mono ?_; rintro e w1 ⟨rfl, hB⟩; have HB := Lib.hid hB; clear hB)
          | (go_at_call 61; refine (C2.out _ HB.out).mono ?_; rintro e w2 ⟨rfl, hB2⟩; have HB2 := Lib.hid (below_then HB.out hB2); clear hB2)
          | (go_at_call 56; refine (C3.out _ HB2.out).mono ?_; rintro e w3 ⟨rfl, hB3⟩; have HB3 := Lib.hid (below_then HB2.out hB3); clear hB3))
        go_region_held3 (fun _ => True) (first | trivial | assumption)
          ((go_at_call 62; refine (C4.out _ HB3.out _ _ _ (HI.out _)).mono ?_; rintro e w4 ⟨A4, n4, c4, rfl, hI4, hB4, hc4⟩; have HC4 := Lib.hid hc4; have HI4 := Lib.hid hI4; have HB4 := Lib.hid hB4; clear hI4 hB4 hc4))
        all_goals
          go_wp2
          go_ret2
          exact ⟨_, _, _, rfl, HI4.out, HB4.out, HC4.out⟩
      · have HI := Lib.hid (fun V hb => HD.out V hb)
        clear HD HZ
        have hec : ct ≠ e := hce
        go_enter Try.func19, Try.ntmps19
        go_wp2_with (first
          | (go_at_call 55; refine C.out.mono ?_; rintro e w1 ⟨rfl, hB⟩; have HB := Lib.hid hB; clear hB)
          | (go_at_call 61; refine (C2.out _ HB.out).mono ?_; rintro e w2 ⟨rfl, hB2⟩; have HB2 := Lib.hid (below_then HB.out hB2); clear hB2)
          | (go_at_call 56; refine (C3.out _ HB2.out).mono ?_; rintro e w3 ⟨rfl, hB3⟩; have HB3 := Lib.hid (below_then HB2.out hB3); clear hB3))
        go_region_held3 (fun _ => True) (first | trivial | assumption)
          ((go_at_call 62; refine (C4.out _ HB3.out _ _ _ (HI.out _ HB3.out)).mono ?_; rintro e w4 ⟨A4, n4, c4, rfl, hI4, hB4, hc4⟩; have HC4 := Lib.hid hc4; have HI4 := Lib.hid hI4; have HB4 := Lib.hid hB4; clear hI4 hB4 hc4))
        all_goals
          go_wp2
          go_ret2
          exact ⟨_, _, _, rfl, HI4.out, HB4.out, HC4.out⟩

end Go.Proofs.Ytlciaecclcckbaa
