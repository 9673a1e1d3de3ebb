/- Contracts: common, Meet. -/
import Derived.Test.YtojofbmpknpggaaY15g
import Derived.Test.YtojofbmpknpggaaN2g
/- Contracts: search, unite. -/
namespace Go.Proofs.Ytojofbmpknpggaa
open Go.RowKit

set_option maxHeartbeats 1000000 in
theorem search_any (As : Option Addr) (ns cs : Nat) (w : World) :
    Calls Try.prog 99 #[.slice As ns cs] w fun e w' =>
      e = .returned (.pointer (some ⟨w.heap.size + 1, 0, none⟩)) ∧ FAt w' (fun b => b < w.heap.size) (w.heap.size + 1) (.slice As ns cs) Fd.none ∧ Below w.heap.size w w' := by
  have hmm := @run_makeMap Try.prog
  go_enter Try.func99, Try.ntmps99
  go_wp2
  go_ret
  have hb1 : Below w.heap.size w (w.alloc (.map #[] 0)) := (Below.refl _ w).alloc (Nat.le_refl _) _
  have h2 : Blk ((w.alloc (.map #[] 0)).alloc (.cells #[.slice As ns cs, .slice none 0 0, .slice none 0 0, .slice none 0 0, .map (some w.heap.size)] 133)) (w.heap.size + 1) 133 #[.slice As ns cs, .slice none 0 0, .slice none 0 0, .slice none 0 0, .map (some w.heap.size)] := by
    have := Blk.new (w.alloc (.map #[] 0)) 133 #[.slice As ns cs, .slice none 0 0, .slice none 0 0, .slice none 0 0, .map (some w.heap.size)]
    rw [World.size_alloc] at this
    exact this
  refine ⟨rfl, ⟨w.heap.size, .slice none 0 0, .slice none 0 0, .slice none 0 0, [], ⟨h2, by omega, by omega, (fun g e => by cases e), ⟨fun j v us e => ?_, fun i j v us v' us' _ e _ => ?_, fun j v us e g hg => ?_⟩, ⟨rfl, .inl ⟨rfl, rfl⟩⟩, ?_⟩, rfl⟩, hb1.alloc (by simp) _⟩
  · match j, e with
    | 0, e => cases e; exact ⟨rfl, .inl ⟨rfl, rfl⟩⟩
    | 1, e => cases e; exact ⟨rfl, .inl ⟨rfl, rfl⟩⟩
    | j + 2, e => cases e
  · match i, e with
    | 0, e => cases e; exact .inl rfl
    | 1, e => cases e; exact .inl rfl
    | i + 2, e => cases e
  · match j, e with
    | 0, e => cases e; cases hg
    | 1, e => cases e; cases hg
    | j + 2, e => cases e
  · exact (VarMap.made w).grown (row := none) (grown_none ((Below.refl _ _).alloc (Nat.le_refl _) _)) (by simp)

/-- Two terms, the second one shifted: their nodes, and what has been found of them. -/
def uniteF (ss : Sg) (sh : Int) (m : Nat) (za zb : List Int) (F : Fd) : Option (Nat × Bool × Fd) :=
  match solveF m [((addT ss 0 za F).1, (addT ss sh zb (addT ss 0 za F).2.2).1)] (addT ss sh zb (addT ss 0 za F).2.2).2.2 with
  | .none => .none
  | some (false, G) => some ((addT ss 0 za F).1, false, G)
  | some (true, G) => match endlessF G m (addT ss 0 za F).1 with
    | .none => .none
    | some en => some ((addT ss 0 za F).1, !en, G)

set_option maxRecDepth 100000 in
set_option maxHeartbeats 1000000 in
theorem unite_any (E : Nat → Prop) (B fb na ca nb cb ns cs : Nat) (As Aa Ab : Option Addr) (sh : Int) (ss : Sg) (za zb : List Int) (F G : Fd) (m k : Nat) (ok : Bool) (w : World) (hva : valOk ss za = true) (hvb : valOk ss zb = true) (hsh : 0 ≤ sh ∧ sh ≤ 1000) (hlow : ∀ b, b < B → E b) (hE : ∀ b, E b → b < w.heap.size)
    (hs : SigAt w B As ns ss) (ha : IntsAt w B Aa na za) (hb : IntsAt w B Ab nb zb) (hB : B ≤ w.heap.size) (hA : FAt w E fb (.slice As ns cs) F) (hF : F.Ok) (hN : F.tops.length ≤ 1000) (hm : m ≤ 1000000)
    (har : ∀ l ∈ (addT ss sh zb (addT ss 0 za F).2.2).2.2.args, l.length ≤ 3) (hu : uniteF ss sh m za zb F = some (k, ok, G)) :
    Calls Try.prog 100 #[.pointer (some ⟨fb, 0, none⟩), .slice Aa na ca, .slice Ab nb cb, .int .i64 sh] w fun e w' => e = .returned (.tuple #[.int .i64 (k : Int), .bool ok]) ∧ FAt w' E fb (.slice As ns cs) G ∧ KeepE E w w' := by
  obtain ⟨a1, a60, _, hsca⟩ := valOk_term hva
  obtain ⟨b1, b60, _, hscb⟩ := valOk_term hvb
  have A1 := addF_ok ss 0 (za.length + 1) za [] F (by omega) hsca hF
  have A2 := addF_ok ss sh (zb.length + 1) zb [] (addT ss 0 za F).2.2 (by omega) hscb A1.ok
  have l1 := A1.le
  have l2 := A2.le
  unfold uniteF at hu
  obtain ⟨k1, hk1⟩ : ∃ k1, (addT ss 0 za F).1 = k1 := ⟨_, rfl⟩
  obtain ⟨F1, hF1⟩ : ∃ F1, (addT ss 0 za F).2.2 = F1 := ⟨_, rfl⟩
  have o1 : F1.Ok := by rw [← hF1]; exact A1.ok
  have n1 : F1.tops.length ≤ 2000 := by rw [← hF1]; simp at l1; show (addF _ _ _ _ _).2.2.tops.length ≤ _; omega
  have C1 := Lib.hid (add_any E B fb na ca ns cs As Aa 0 ss za F w hva (by omega) hlow hE hs ha hB hA hF (by omega))
  rw [hk1, hF1] at C1 hu
  rw [hF1] at har A2 l2
  obtain ⟨k2, hk2⟩ : ∃ k2, (addT ss sh zb F1).1 = k2 := ⟨_, rfl⟩
  obtain ⟨F2, hF2⟩ : ∃ F2, (addT ss sh zb F1).2.2 = F2 := ⟨_, rfl⟩
  have o2 : F2.Ok := by rw [← hF2]; exact A2.ok
  have n2 : F2.tops.length ≤ 3000 := by rw [← hF2]; simp at l2; show (addF _ _ _ _ _).2.2.tops.length ≤ _; omega
  have C2 := Lib.hid (fun w1 (hA1 : FAt w1 E fb (.slice As ns cs) F1) (hk : KeepE E w w1) => add_any E B fb nb cb ns cs As Ab sh ss zb F1 w1 hvb hsh hlow (hk.lt hE) (hs.below (hk.below hlow)) (hb.below (hk.below hlow)) (Nat.le_trans hB hk.size) hA1 o1 (by omega))
  rw [hk2, hF2] at C2 hu
  rw [hF2] at har
  obtain ⟨okS, G', hsol⟩ : ∃ okS G', solveF m [(k1, k2)] F2 = some (okS, G') := by
    cases e : solveF m [(k1, k2)] F2 with
    | none => rw [e] at hu; cases hu
    | some x => exact ⟨x.1, x.2, rfl⟩
  rw [hsol] at hu
  obtain ⟨en, hen, hre⟩ : ∃ en, (okS = true → endlessF G' m k1 = some en) ∧ k = k1 ∧ ok = (okS && !en) ∧ G = G' := by
    cases okS with
    | false =>
      simp only at hu
      have := Option.some.inj hu
      simp only [Prod.mk.injEq] at this
      exact ⟨true, fun e => (by cases e), this.1.symm, this.2.1.symm, this.2.2.symm⟩
    | true =>
      simp only at hu
      cases e : endlessF G' m k1 with
      | none => rw [e] at hu; cases hu
      | some en =>
        rw [e] at hu
        have := Option.some.inj hu
        simp only [Prod.mk.injEq] at this
        exact ⟨en, fun _ => rfl, this.1.symm, this.2.1.symm, this.2.2.symm⟩
  obtain ⟨rfl, rfl, rfl⟩ := hre
  have C3 := Lib.hid (fun w2 (hA2 : FAt w2 E fb (.slice As ns cs) F2) (hk : KeepE E w w2) => solve_any E fb (.slice As ns cs) F2 G m k k2 okS m en w2 hA2 o2 (hk.lt hE) (by omega) har hm hsol hen)
  clear A1 A2 l1 l2 hu hsol hen har hva hvb hlow hE hs ha hb hA hF hsca hscb hk1 hF1 hk2 hF2 o1 o2 n1 n2
  go_enter Try.func100, Try.ntmps100
  go_wp2_with (first
    | (go_at_call 101; refine C1.out.mono ?_; rintro e w1 ⟨rfl, hA1, hK1⟩; have HA1 := Lib.hid hA1; have HK1 := Lib.hid hK1; have C2' := Lib.hid (C2.out w1 hA1 hK1); clear hA1 hK1 C1)
    | (go_at_call 101; refine C2'.out.mono ?_; rintro e w2 ⟨rfl, hA2, hK2⟩; have HK2 := Lib.hid (HK1.out.trans hK2); have C3' := Lib.hid (C3.out w2 hA2 HK2.out); clear hA2 hK2)
    | (go_at_call 102; refine C3'.out.mono ?_; rintro e w3 ⟨rfl, hA3, hK3⟩))
  go_ret2
  exact ⟨rfl, hA3, HK2.out.trans hK3⟩

end Go.Proofs.Ytojofbmpknpggaa

namespace Go.Proofs.Ytojofbmpknpggaa
open Go.RowKit

def inB (t : List Int) : Bool := t.all fun z => decide (-1000000 ≤ z) && decide (z ≤ 1000000)
/-- The form of what two terms, the second one shifted, both become, and the error; 'none' where m rounds are too few. -/
def commonF (ss : Sg) (sh : Int) (m : Nat) (za zb : List Int) : Option (List Int × Int) :=
  if ((addT ss sh zb (addT ss 0 za Fd.none).2.2).2.2.args.all fun l => decide (l.length ≤ 3)) = true then
    match uniteF ss sh m za zb Fd.none with
    | .none => .none
    | some (_, false, _) => some ([], 8)
    | some (k, true, G) => match writeF G m k [] with
      | .none => .none
      | some (ok, t) => if inB t = true then some (formZ ok t) else .none
  else .none

theorem TermsAt.two {w : World} {Aa Ab : Option Addr} {na nb ca cb : Nat} {za zb : List Int} (ha : IntsAt w w.heap.size Aa na za) (hb : IntsAt w w.heap.size Ab nb zb) :
    TermsAt (w.alloc (.cells #[.slice Aa na ca, .slice Ab nb cb] 45)) (w.alloc (.cells #[.slice Aa na ca, .slice Ab nb cb] 45)).heap.size (some ⟨w.heap.size, 0, none⟩) 2 [(Aa, na, ca), (Ab, nb, cb)] [za, zb] := by
  have hB := Blk.new w 45 #[.slice Aa na ca, .slice Ab nb cb]
  refine ⟨⟨rfl, by omega, fun _ => ⟨w.heap.size, 0, rfl, hB.lt, ?_⟩⟩, rfl, ?_⟩
  · intro j hj
    rw [hB.cell]
    match j, hj with
    | 0, _ => rfl
    | 1, _ => rfl
  · intro j h1 h2
    match j, h1, h2 with
    | 0, _, _ => exact ha.alloc _
    | 1, _, _ => exact hb.alloc _

end Go.Proofs.Ytojofbmpknpggaa
