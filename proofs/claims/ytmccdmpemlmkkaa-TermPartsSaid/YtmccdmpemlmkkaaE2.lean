/- Contract: end. -/
import Derived.Test.YtmccdmpemlmkkaaE1
import Derived.Laws.EntriesVeiled
namespace Go.Proofs.Ytmccdmpemlmkkaa
open Go.RowKit

theorem cell_new0 (w : World) (v : Value) (t : TypeId) : (w.alloc (.cells #[v] t)).cell? ⟨w.heap.size, 0, none⟩ = some v := by
  rw [cell_of_row _ _ _ _ _ _ (heap_alloc_new w _)]; rfl
theorem below_alloc2 {B : Nat} {w w' : World} (h : Below B w w') (hB : B ≤ w.heap.size) (o : Obj) : Below B w (w'.alloc o) := h.alloc (Nat.le_trans hB h.size) o

theorem alloc_keep (w : World) (o : Obj) (p : Addr) (hp : p.block < w.heap.size) : (w.alloc o).cell? p = w.cell? p := World.cell?_alloc_lt w o p hp
theorem SigAt.alloc {w : World} {n : Nat} {A : Option Addr} {ss : Sg} (h : SigAt w w.heap.size A n ss) (o : Obj) : SigAt (w.alloc o) (w.alloc o).heap.size A n ss :=
  (h.keep fun p hp => alloc_keep w o p hp).more (by simp)
theorem IntsAt.alloc {w : World} {n : Nat} {A : Option Addr} {zs : List Int} (h : IntsAt w w.heap.size A n zs) (o : Obj) : IntsAt (w.alloc o) (w.alloc o).heap.size A n zs :=
  (h.keep fun p hp => alloc_keep w o p hp).more (by simp)

theorem below_drewN {B : Nat} {a w : World} (h : Below B a w) (n : Nat) : Below B a (w.drewN n) := ⟨h.os, h.tape, h.output, h.size, h.block⟩

set_option maxRecDepth 100000 in
set_option maxHeartbeats 1000000 in
theorem end_any (ss : Sg) (zs : List Int) (har : ArOk ss) (hz : HeadsOk ss zs) (As At : Option Addr) (ns cs nt ct i : Nat) (w : World) (hs : SigAt w w.heap.size As ns ss) (ht : IntsAt w w.heap.size At nt zs)
    (h1s : 1 ≤ ns) (h1t : 1 ≤ nt) (hnt2 : nt ≤ 1000000) (hns2 : ns ≤ 1000000) (hi : i ≤ 1000000) :
    Calls Try.prog 68 #[.slice As ns cs, .slice At nt ct, .int .i64 i] w fun e w' => e = .returned (.int .i64 (endI ss zs i)) ∧ Below w.heap.size w w' := by
  obtain ⟨bs, offs, rfl, hbs, hsg⟩ := hs.mem (by omega)
  obtain ⟨bt, offt, rfl, hbt, htc⟩ := ht.mem (by omega)
  have hns := hs.len
  have hnt := ht.len
  let cl : Value := .func (.func 79) #[] #[.pointer (some ⟨w.heap.size + 1, 0, none⟩), .pointer (some ⟨w.heap.size, 0, none⟩), .pointer (some ⟨w.heap.size + 1 + 1, 0, none⟩)]
  let w1 := w.alloc (.cells #[.slice (some ⟨bs, offs, none⟩) ns cs] 23)
  let w2 := w1.alloc (.cells #[.slice (some ⟨bt, offt, none⟩) nt ct] 25)
  let w3 := w2.alloc (.cells #[cl] 93)
  have hz1 : w1.heap.size = w.heap.size + 1 := by simp [w1]
  have hz2 : w2.heap.size = w.heap.size + 1 + 1 := by simp [w2, w1]
  have hB : Below w.heap.size w w3 := (((Below.refl _ w).alloc (Nat.le_refl _) _).alloc (by simp) _).alloc (by simp; omega) _
  have k1 : w3.cell? ⟨w.heap.size, 0, none⟩ = some (.slice (some ⟨bs, offs, none⟩) ns cs) := by
    rw [show w3 = w2.alloc _ from rfl, alloc_keep _ _ _ (by show w.heap.size < _; omega), show w2 = w1.alloc _ from rfl, alloc_keep _ _ _ (by show w.heap.size < _; omega)]
    exact cell_new0 _ _ _
  have k2 : w3.cell? ⟨w.heap.size + 1, 0, none⟩ = some (.slice (some ⟨bt, offt, none⟩) nt ct) := by
    rw [show w3 = w2.alloc _ from rfl, alloc_keep _ _ _ (by show w.heap.size + 1 < _; omega), ← hz1]
    exact cell_new0 _ _ _
  have k3 : w3.cell? ⟨w.heap.size + 1 + 1, 0, none⟩ = some cl := by
    rw [← hz2]
    exact cell_new0 _ _ _
  have HC := endC_any ss zs har hz bt offt nt ct bs offs ns cs (w.heap.size + 1) w.heap.size (w.heap.size + 1 + 1) hnt hns hnt2 hns2 (zs.length - i + 1) i (by omega) w3 k2 k1 k3
    (fun j hj => (hB.cell hbt).trans (htc j hj)) (hsg.keep fun o => hB.cell hbs) hi
  have HCH := Lib.hid HC
  have HBH := Lib.hid hB
  clear HC hB k1 k2 k3 hz1 hz2 hs ht htc hsg hns hnt har hz
  go_enter Try.func68, Try.ntmps68
  go_wp2_with (go_at_call 79; refine HCH.out.mono ?_; rintro e w' ⟨rfl, k1, rfl⟩)
  go_ret
  exact ⟨rfl, below_drewN HBH.out _⟩

end Go.Proofs.Ytmccdmpemlmkkaa
