/- The kernel's form: what it writes, and words for its boxes. -/
import Derived.Test.YtojofbmpknpggaaY8g
import Derived.BigQuiet
import Derived.Test.YtojofbmpknpggaaG1g
import Derived.Test.YtojofbmpknpggaaL0g
/- The kernel's fit: words for it in memory; arity, root. -/
namespace Go.Proofs.Ytojofbmpknpggaa
open Go.RowKit

/-- Indexes as values. -/
def natV (l : List Nat) : List Value := l.map fun k : Nat => .int .i64 (k : Int)
theorem natV_get {l : List Nat} {i x : Nat} (h : l[i]? = some x) : (natV l)[i]? = some (.int .i64 (x : Int)) := by simp [natV, h]
/-- The fit in block fb: the sign, the numbers, behind each part, what becomes the same; the blocks of the numbers, of what lies behind and of the proxies. -/
structure FitAt (w : World) (fb gn gb gp : Nat) (As : Option Addr) (ns cs cn cb cp : Nat) (ss : Sg) (nums : List Int) (kb kp : List Nat) : Prop where
  blk : Blk w fb 111 #[.slice As ns cs, .slice (some ⟨gn, 0, none⟩) nums.length cn, .slice (some ⟨gb, 0, none⟩) nums.length cb, .slice (some ⟨gp, 0, none⟩) nums.length cp]
  sign : SigAt w gp As ns ss
  num : ∀ (i : Nat) (x : Int), nums[i]? = some x → w.cell? ⟨gn, i, none⟩ = some (.int .i64 x)
  beh : ∀ (i x : Nat), kb[i]? = some x → w.cell? ⟨gb, i, none⟩ = some (.int .i64 (x : Int))
  prox : Blk w gp 3 (natV kp).toArray
  bl : kb.length = nums.length
  pl : kp.length = nums.length
  lt : fb < gp ∧ gn < gp ∧ gb < gp
  max : nums.length ≤ 1000
section
variable {w w' : World} {fb gn gb gp ns cs cn cb cp : Nat} {As : Option Addr} {ss : Sg} {nums : List Int} {kb kp : List Nat}
theorem FitAt.c (h : FitAt w fb gn gb gp As ns cs cn cb cp ss nums kb kp) : w.cell? ⟨fb, 0, none⟩ = some (.slice As ns cs) ∧ w.cell? ⟨fb, 1, none⟩ = some (.slice (some ⟨gn, 0, none⟩) nums.length cn) ∧ w.cell? ⟨fb, 2, none⟩ = some (.slice (some ⟨gb, 0, none⟩) nums.length cb) ∧ w.cell? ⟨fb, 3, none⟩ = some (.slice (some ⟨gp, 0, none⟩) nums.length cp) :=
  ⟨h.blk.cell 0, h.blk.cell 1, h.blk.cell 2, h.blk.cell 3⟩
theorem FitAt.p (h : FitAt w fb gn gb gp As ns cs cn cb cp ss nums kb kp) {i x : Nat} (hi : kp[i]? = some x) : w.cell? ⟨gp, i, none⟩ = some (.int .i64 (x : Int)) := by
  rw [h.prox.cell, List.getElem?_toArray, natV_get hi]
/-- What a call that writes proxies keeps. -/
def FitK (gp : Nat) (w w' : World) : Prop := KeepE (fun b => b < w.heap.size ∧ b ≠ gp) w w'
theorem FitK.next {gp : Nat} {w w' w'' : World} (h : FitK gp w w') (k : FitK gp w' w'') : FitK gp w w'' :=
  KeepE.trans h (KeepE.mono k fun _ hb => ⟨Nat.lt_of_lt_of_le hb.1 h.size, hb.2⟩)
theorem FitK.of_below {gp : Nat} {w w' : World} (h : Below w.heap.size w w') : FitK gp w w' := KeepE.of_below h fun _ hb => hb.1
theorem FitK.below {gp : Nat} {w w' : World} (h : FitK gp w w') (hl : gp ≤ w.heap.size) : Below gp w w' := KeepE.below h fun b hb => ⟨by omega, by omega⟩
theorem FitK.refl (gp : Nat) (w : World) : FitK gp w w := KeepE.refl _ w
theorem FitAt.keep (h : FitAt w fb gn gb gp As ns cs cn cb cp ss nums kb kp) (hb : Below gp w w') {kq : List Nat} (hp : Blk w' gp 3 (natV kq).toArray) (hl : kq.length = kp.length) : FitAt w' fb gn gb gp As ns cs cn cb cp ss nums kb kq :=
  ⟨h.blk.below hb h.lt.1, h.sign.below hb, fun i x hi => (hb.cell (p := ⟨gn, i, none⟩) h.lt.2.1).trans (h.num i x hi), fun i x hi => (hb.cell (p := ⟨gb, i, none⟩) h.lt.2.2).trans (h.beh i x hi), hp, h.bl, hl.trans h.pl, h.lt, h.max⟩
theorem FitAt.up (h : FitAt w fb gn gb gp As ns cs cn cb cp ss nums kb kp) (hb : Below w.heap.size w w') : FitAt w' fb gn gb gp As ns cs cn cb cp ss nums kb kp :=
  h.keep (hb.mono (Nat.le_of_lt h.prox.lt)) (h.prox.below hb h.prox.lt) rfl
end
theorem arOf_neg' {ss : Sg} {x : Int} (h : x < 0) : arOf ss x = 0 := by rw [arOf, if_pos h]

set_option maxRecDepth 100000 in
set_option maxHeartbeats 1000000 in
/-- A part's arity, as soon as the sign and the numbers lie there. -/
theorem karity_any (fb gn N cn p ns cs B : Nat) (As : Option Addr) (ss : Sg) (x : Int) (w : World) (h0 : w.cell? ⟨fb, 0, none⟩ = some (.slice As ns cs)) (h1 : w.cell? ⟨fb, 1, none⟩ = some (.slice (some ⟨gn, 0, none⟩) N cn)) (hx : w.cell? ⟨gn, p, none⟩ = some (.int .i64 x)) (hp : p < N) (_hN : N ≤ 1000000) (hs : SigAt w B As ns ss) (hxn : x < (ns : Int)) (har : ArOk ss) :
    Calls Try.prog 89 #[.pointer (some ⟨fb, 0, none⟩), .int .i64 (p : Int)] w fun e w' => e = .returned (.int .i64 (arOf ss x : Int)) ∧ ∃ j, w' = w.drewN j := by
  have hp0 : (0 : Int) ≤ (p : Int) := by omega
  have hp1 : (p : Int) < (N : Int) := by omega
  by_cases hneg : x < 0
  · have H := Lib.hid (arOf_neg' (ss := ss) hneg)
    clear hs har hxn
    go_enter Try.func89, Try.ntmps89
    go_wp2
    go_ret
    exact ⟨by rw [H.out]; rfl, 0, rfl⟩
  · obtain ⟨k, rfl⟩ : ∃ k : Nat, x = (k : Int) := ⟨x.toNat, by omega⟩
    have hk : k < ss.length := by have := hs.len; omega
    have H := Lib.hid (arOf_at (ss := ss) hk)
    obtain ⟨b, off, rfl, hb, hsi⟩ := hs.mem (by omega)
    have c1 := hsi.ar k hk
    obtain ⟨a0, a3⟩ := har _ (List.getElem_mem hk)
    obtain ⟨r, hr⟩ : ∃ r : Nat, ss[k].2 = (r : Int) := ⟨ss[k].2.toNat, by omega⟩
    rw [hr] at c1 H
    rw [Int.toNat_natCast] at H
    have hk0 : (0 : Int) ≤ (k : Int) := by omega
    clear hs hsi hr a0 a3 hb hneg hk har
    go_enter Try.func89, Try.ntmps89
    go_wp2_with fail
    go_quiet (fail)
    go_wp2
    go_ret
    exact ⟨by rw [H.out]; rfl, _, rfl⟩

set_option maxRecDepth 100000 in
set_option maxHeartbeats 1000000 in
theorem kroot_any (fb gn gb gp : Nat) (As : Option Addr) (ns cs cn cb cp : Nat) (ss : Sg) (nums : List Int) (kb kp : List Nat) (m k r : Nat) (w : World) (h : FitAt w fb gn gb gp As ns cs cn cb cp ss nums kb kp) (hr : rootS kp m k = some r) :
    Calls Try.prog 92 #[.pointer (some ⟨fb, 0, none⟩), .int .i64 (k : Int)] w fun e w' => e = .returned (.int .i64 (r : Int)) ∧ w = w' := by
  have HH := Lib.hid h
  have HR := Lib.hid hr
  clear h hr
  go_enter Try.func92, Try.ntmps92
  go_wp2
  go_loopg [1] m (fun g s1 wr => ∃ k' : Nat, s1 = .int .i64 (k' : Int) ∧ rootS kp g k' = some r ∧ wr = w)
  case atStart => exact ⟨k, rfl, HR.out, rfl⟩
  case round =>
    obtain ⟨k', rfl, hs, rfl⟩ := hrel
    cases gk with
    | zero => cases hs
    | succ gk =>
      unfold rootS at hs
      cases e : kp[k']? with
      | none => rw [e] at hs; cases hs
      | some p =>
        rw [e] at hs
        simp only at hs
        have cg := HH.out.p e
        have c3 := HH.out.c.2.2.2
        have hkl := (List.getElem?_eq_some_iff.1 e).1
        have hpl := HH.out.pl
        obtain ⟨N, hN⟩ : ∃ N, nums.length = N := ⟨_, rfl⟩
        rw [hN] at c3 hpl
        have hk0 : (0 : Int) ≤ (k' : Int) := by omega
        have hk1 : (k' : Int) < (N : Int) := by omega
        clear hkl hpl hN
        by_cases hp : p = k'
        · rw [if_pos hp] at hs
          have hre : k' = r := Option.some.inj hs
          have HRE := Lib.hid hre
          have hb : ((p : Int) != (k' : Int)) = false := by simp [hp]
          have hb2 : (p != k') = false := by simp [hp]
          clear hs hp hre e
          go_wp2
          go_ret
          exact ⟨by rw [HRE.out]; rfl, rfl⟩
        · rw [if_neg hp] at hs
          have HS := Lib.hid hs
          have hb : ((p : Int) != (k' : Int)) = true := by simp; omega
          have hb2 : (p != k') = true := by simp [hp]
          clear hs hp e
          go_wp2
          go_roundg gk
          case measure => omega
          case rel => exact ⟨p, rfl, HS.out, rfl⟩

end Go.Proofs.Ytojofbmpknpggaa

/- The kernel's fit: args. -/
namespace Go.Proofs.Ytojofbmpknpggaa
open Go.RowKit

/-- The indexes of arguments: so many, the first at q. -/
def argK (kb : List Nat) : Nat → Nat → List Nat
  | 0, _ => []
  | c + 1, q => q :: argK kb c (kb.getD q 0)
theorem argK_len (kb : List Nat) : ∀ (c q : Nat), (argK kb c q).length = c
  | 0, _ => rfl
  | c + 1, q => by unfold argK; rw [List.length_cons, argK_len]
/-- The arguments of a part. -/
def argsK (ss : Sg) (nums : List Int) (kb : List Nat) (p : Nat) : List Nat := argK kb (arOf ss (nums.getD p 0)) (p + 1)
/-- What the numbers keep: symbols of the sign, arguments within. -/
structure KOk (ss : Sg) (nums : List Int) (kb : List Nat) : Prop where
  sym : ∀ x ∈ nums, x < (ss.length : Int)
  ar : ArOk ss
  arg : ∀ p, p < nums.length → ∀ q ∈ argsK ss nums kb p, q < nums.length
  low : ∀ x ∈ nums, -1000 ≤ x
  few : ss.length ≤ 1000
/-- A row that is filled from its front. -/
def fillV (L : List Nat) (j : Nat) : Array Value := (natV (L.take j) ++ List.replicate (L.length - j) (Value.int .i64 0)).toArray
theorem fillV_zero (L : List Nat) : fillV L 0 = madeCells #[.int .i64 0] (L.length * 1) := by
  unfold fillV madeCells natV
  apply Array.ext
  · simp
  · intro i h1 h2
    simp [Nat.mod_one]
theorem fillV_all (L : List Nat) : fillV L L.length = (natV L).toArray := by simp [fillV]
theorem fillV_set {L : List Nat} {j q : Nat} (h : L[j]? = some q) : (fillV L j).setIfInBounds j (.int .i64 (q : Int)) = fillV L (j + 1) := by
  obtain ⟨hj, rfl⟩ := List.getElem?_eq_some_iff.1 h
  unfold fillV natV
  rw [List.setIfInBounds_toArray]
  congr 1
  have h1 : (List.map (fun k : Nat => Value.int IntKind.i64 (k : Int)) (List.take j L)).length = j := by simp; omega
  rw [List.set_append_right _ _ (by omega), h1, Nat.sub_self, show L.length - j = (L.length - (j + 1)) + 1 by omega, List.replicate_succ, List.set_cons_zero, ← List.take_append_getElem hj, List.map_append, List.append_assoc]
  rfl
theorem fillV_at {L : List Nat} {j : Nat} (h : j < L.length) : (fillV L j)[j]? = some (.int .i64 0) := by
  unfold fillV natV
  have h1 : (List.map (fun k : Nat => Value.int IntKind.i64 (k : Int)) (List.take j L)).length = j := by simp; omega
  rw [List.getElem?_toArray, List.getElem?_append_right (by omega), h1, Nat.sub_self, show L.length - j = (L.length - (j + 1)) + 1 by omega, List.replicate_succ]
  rfl
/-- What args hands back: a row of its own. -/
def RetArgs (w : World) (L : List Nat) (e : Ending) (w' : World) : Prop :=
  ∃ g, e = .returned (.slice (some ⟨g, 0, none⟩) L.length L.length) ∧ Blk w' g 3 (natV L).toArray ∧ w.heap.size ≤ g ∧ Below w.heap.size w w'

set_option maxRecDepth 100000 in
set_option maxHeartbeats 2000000 in
theorem kargs_any (fb gn gb gp : Nat) (As : Option Addr) (ns cs cn cb cp : Nat) (ss : Sg) (nums : List Int) (kb kp : List Nat) (p : Nat) (w : World) (h : FitAt w fb gn gb gp As ns cs cn cb cp ss nums kb kp) (ho : KOk ss nums kb) (hp : p < nums.length) :
    Calls Try.prog 93 #[.pointer (some ⟨fb, 0, none⟩), .int .i64 (p : Int)] w (RetArgs w (argsK ss nums kb p)) := by
  obtain ⟨i0, hi, hz0, hz1, hz2⟩ := info_parts info_int
  have hx : nums[p]? = some nums[p] := List.getElem?_eq_getElem hp
  have hxs := ho.sym _ (List.getElem_mem hp)
  rw [← h.sign.len] at hxs
  have C := Lib.hid (karity_any fb gn nums.length cn p ns cs gp As ss nums[p] w h.c.1 h.c.2.1 (h.num p _ hx) hp (by have := h.max; omega) h.sign hxs ho.ar)
  obtain ⟨L, hL⟩ : ∃ L, argsK ss nums kb p = L := ⟨_, rfl⟩
  have hLa : argK kb (arOf ss nums[p]) (p + 1) = L := by rw [← hL]; unfold argsK; rw [List.getD_eq_getElem?_getD, hx]; rfl
  have hll : L.length = arOf ss nums[p] := by rw [← hLa, argK_len]
  have hlt := ho.arg p hp
  rw [hL] at hlt ⊢
  have har3 : arOf ss nums[p] ≤ 3 := arOf_le ho.ar _
  obtain ⟨c, hc⟩ : ∃ c, arOf ss nums[p] = c := ⟨_, rfl⟩
  rw [hc] at C hLa hll har3
  have hmk : ∀ W : World, (Instr.makeSlice 24 (.int .i64 (c : Int)) (.int .i64 (c : Int))).run Try.prog W = .ok (.slice (some ⟨W.heap.size, 0, none⟩) c c) (W.alloc (.cells (fillV L 0) 3)) := by
    intro W
    rw [fillV_zero, hll]
    have := run_make_rowN (P := Try.prog) 24 3 i0 _ Try.underlying24 hi hz0 .i64 .i64 c c (Nat.le_refl _) (by rw [hz2]; omega) (by omega) W
    rw [hz1] at this
    exact this
  have HH := Lib.hid h
  have HLA := Lib.hid hLa
  have HLL := Lib.hid hll
  have HLT := Lib.hid hlt
  have hmax := h.max
  have hp0 : (p : Int) ≤ 1000 := by omega
  clear h ho hx hxs hL hLa hll hlt hi hz0 hz1 hz2 hmax
  go_enter Try.func93, Try.ntmps93
  go_wp2_with (go_at_call 89; refine C.out.mono ?_; rintro e w1 ⟨rfl, j1, hw1⟩; have HW1 := Lib.hid (show Below w.heap.size w w1 from by rw [hw1]; exact below_drewN (Below.refl _ w) j1); clear hw1)
  go_loopw [6, 16] (fun nx kv wr => ∃ (j q : Nat), j ≤ c ∧ kv = .int .i64 j ∧ nx = .int .i64 (q : Int) ∧ Hid (argK kb (c - j) q = L.drop j) ∧ Blk wr w1.heap.size 3 (fillV L j) ∧ Below w1.heap.size w1 wr) (fun _ kv _ => c - (intOf kv).toNat)
  case atStart => exact ⟨0, p + 1, Nat.zero_le _, rfl, by go_num, Lib.hid (by rw [Nat.sub_zero, List.drop_zero]; exact HLA.out), Blk.new _ _ _, (Below.refl _ w1).alloc (Nat.le_refl _) _⟩
  case round =>
    obtain ⟨j, q, hj, rfl, rfl, hq, hG, hB⟩ := hrel
    by_cases hlt : j < c
    · have hjl : j < L.length := by have := HLL.out; omega
      have hdrop : L.drop j = L[j] :: L.drop (j + 1) := List.drop_eq_getElem_cons hjl
      have hq' := hq.out
      rw [hdrop, show c - j = (c - (j + 1)) + 1 by omega] at hq'
      unfold argK at hq'
      obtain ⟨e1, e2⟩ := List.cons.inj hq'
      have hqn : q < nums.length := by rw [e1]; exact HLT.out _ (List.getElem_mem hjl)
      have hkq : kb[q]? = some (kb.getD q 0) := by
        have : q < kb.length := by rw [HH.out.bl]; exact hqn
        rw [List.getD_eq_getElem?_getD, List.getElem?_eq_getElem this]; rfl
      obtain ⟨q2, hq2⟩ : ∃ q2, kb.getD q 0 = q2 := ⟨_, rfl⟩
      rw [hq2] at hkq e2
      have hF := HH.out.up HW1.out
      have hF := hF.up hB
      have hG2 : Blk (wr.setCell ⟨w1.heap.size, j, none⟩ (.int .i64 (q : Int))) w1.heap.size 3 (fillV L (j + 1)) := by
        have := hG.set_ j (.int .i64 (q : Int))
        rw [fillV_set (by rw [e1]; exact List.getElem?_eq_getElem hjl)] at this
        exact this
      have c0 : wr.cell? ⟨w1.heap.size, j, none⟩ = some (.int .i64 0) := by rw [hG.cell]; exact fillV_at hjl
      have f0 := hG.frozen j
      have hBs : Below w1.heap.size w1 (wr.setCell ⟨w1.heap.size, j, none⟩ (.int .i64 (q : Int))) := hB.trans ((KeepE.set (E := fun b => b < w1.heap.size) (by simp) _).below fun b hb => hb)
      have hFs := HH.out.up (below_then HW1.out hBs)
      have d2 := hFs.c.2.2.1
      have d3 := hFs.beh q _ hkq
      have hN : nums.length ≤ 1000 := HH.out.max
      have H2 := Lib.hid e2
      have HG2 := Lib.hid hG2
      have HBs := Lib.hid hBs
      obtain ⟨N, hNN⟩ : ∃ N, nums.length = N := ⟨_, rfl⟩
      rw [hNN] at d2 hN hqn
      have hq0 : (0 : Int) ≤ (q : Int) := by omega
      have hq1 : (q : Int) < (N : Int) := by omega
      have hj0 : (0 : Int) ≤ (j : Int) := by omega
      have hj1 : (j : Int) < (c : Int) := by omega
      clear hG hG2 hF hFs hBs hB hq' hdrop e1 e2 hkq hq2 hNN hjl hq
      go_wp2
      go_roundw
      case rel => exact ⟨j + 1, q2, by omega, by go_num, rfl, H2, HG2.out, HBs.out⟩
      case measure => simp [intOf]; omega
    · obtain rfl : j = c := by omega
      have hE := hG
      rw [← HLL.out, fillV_all] at hE
      have HE := Lib.hid hE
      have HB := Lib.hid hB
      clear hG hB hE hq
      go_wp2
      go_ret
      exact ⟨_, by rw [HLL.out]; rfl, HE.out, HW1.out.size, below_then HW1.out HB.out⟩

end Go.Proofs.Ytojofbmpknpggaa

/- The kernel's fit: unite. -/
namespace Go.Proofs.Ytojofbmpknpggaa
open Go.RowKit

/-- Pairs of parts become the same, one pair behind the other. -/
def uniL (g : List Nat → Nat → Nat → Option (List Nat)) : List (Nat × Nat) → List Nat → Option (List Nat)
  | [], kp => some kp
  | e :: t, kp => match g kp e.1 e.2 with
    | none => none
    | some kq => uniL g t kq
/-- Two parts become the same: what stands for what then; none where f rounds are too few. -/
def uniK (ss : Sg) (nums : List Int) (kb : List Nat) : Nat → List Nat → Nat → Nat → Option (List Nat)
  | 0, _, _, _ => none
  | f + 1, kp, a, b => match rootS kp f a, rootS kp f b with
    | some x, some y => if x = y then some kp
      else if nums.getD y 0 < 0 then (if (argsK ss nums kb y).length ≤ (argsK ss nums kb x).length then uniL (uniK ss nums kb f) ((argsK ss nums kb y).zip (argsK ss nums kb x)) (kp.set y x) else none)
      else (if (argsK ss nums kb x).length ≤ (argsK ss nums kb y).length then uniL (uniK ss nums kb f) ((argsK ss nums kb x).zip (argsK ss nums kb y)) (kp.set x y) else none)
    | _, _ => none
theorem FitAt.put {w : World} {fb gn gb gp ns cs cn cb cp : Nat} {As : Option Addr} {ss : Sg} {nums : List Int} {kb kp : List Nat} (h : FitAt w fb gn gb gp As ns cs cn cb cp ss nums kb kp) (x y : Nat) :
    FitAt (w.setCell ⟨gp, x, none⟩ (.int .i64 (y : Int))) fb gn gb gp As ns cs cn cb cp ss nums kb (kp.set x y) ∧ FitK gp w (w.setCell ⟨gp, x, none⟩ (.int .i64 (y : Int))) := by
  have hk : FitK gp w (w.setCell ⟨gp, x, none⟩ (.int .i64 (y : Int))) := KeepE.set (fun h => h.2 rfl) _
  refine ⟨h.keep (hk.below (Nat.le_of_lt h.prox.lt)) ?_ (by simp), hk⟩
  have := h.prox.set_ x (.int .i64 (y : Int))
  have e : (natV kp).toArray.setIfInBounds x (.int .i64 (y : Int)) = (natV (kp.set x y)).toArray := by
    unfold natV
    rw [List.setIfInBounds_toArray, List.map_set]
  rw [e] at this
  exact this
theorem zip_at {α β : Type} {a : List α} {b : List β} {i : Nat} (h : i < a.length) (hb : a.length ≤ b.length) : (a.zip b).drop i = (a[i], b[i]'(by omega)) :: (a.zip b).drop (i + 1) := by
  have hl : i < (a.zip b).length := by rw [List.length_zip]; omega
  rw [List.drop_eq_getElem_cons hl, List.getElem_zip]

set_option maxRecDepth 100000 in
set_option maxHeartbeats 4000000 in
theorem kunite_any (fb gn gb gp : Nat) (As : Option Addr) (ns cs cn cb cp : Nat) (ss : Sg) (nums : List Int) (kb : List Nat) (ho : KOk ss nums kb) :
    ∀ (f : Nat) (kp : List Nat) (a b : Nat) (kp' : List Nat) (w : World), FitAt w fb gn gb gp As ns cs cn cb cp ss nums kb kp → uniK ss nums kb f kp a b = some kp' →
    Calls Try.prog 90 #[.pointer (some ⟨fb, 0, none⟩), .int .i64 (a : Int), .int .i64 (b : Int)] w fun e w' => (∃ v, e = .returned v) ∧ FitK gp w w' ∧ FitAt w' fb gn gb gp As ns cs cn cb cp ss nums kb kp' := by
  intro f
  induction f with
  | zero => intro kp a b kp' w _ h; cases h
  | succ f ih =>
    intro kp a b kp' w h hu
    unfold uniK at hu
    cases hra : rootS kp f a with
    | none => rw [hra] at hu; cases hu
    | some x =>
    cases hrb : rootS kp f b with
    | none => rw [hra, hrb] at hu; cases hu
    | some y =>
    rw [hra, hrb] at hu
    simp only at hu
    have CR1 := Lib.hid (kroot_any fb gn gb gp As ns cs cn cb cp ss nums kb kp f a x w h hra)
    have CR2 := Lib.hid (kroot_any fb gn gb gp As ns cs cn cb cp ss nums kb kp f b y w h hrb)
    obtain ⟨_, hxl, hpx⟩ := rootS_lt hra
    obtain ⟨_, hyl, hpy⟩ := rootS_lt hrb
    rw [h.pl] at hxl hyl
    have hxn := hxl
    have hyn := hyl
    have HH := Lib.hid h
    have HO := Lib.hid ho
    have HIH := Lib.hid ih
    have hxp := hpx
    have hyp := hpy
    clear hra hrb ih ho hxl hyl
    by_cases hxy : x = y
    · rw [if_pos hxy] at hu
      have HE := Lib.hid (Option.some.inj hu)
      have hb : ((x : Int) == (y : Int)) = true := by simp [hxy]
      have hb2 : (x == y) = true := by simp [hxy]
      clear hu hxy h hpx hpy hxp hyp
      go_enter Try.func90, Try.ntmps90
      go_wp2_with (first
        | (go_at_call 92; ((with_reducible refine CR1.out.mono ?_); rintro e V ⟨rfl, rfl⟩))
        | (go_at_call 92; ((with_reducible refine CR2.out.mono ?_); rintro e V ⟨rfl, rfl⟩)))
      refine bodyPost_ret (results_none rfl _ _ _) rfl ?_
      exact ⟨⟨_, rfl⟩, FitK.refl _ _, by rw [← HE.out]; exact HH.out⟩
    · rw [if_neg hxy] at hu
      have hb : ((x : Int) == (y : Int)) = false := by simp; omega
      have hb2 : (x == y) = false := by simp [hxy]
      have gy : nums[y]? = some (nums.getD y 0) := by rw [List.getD_eq_getElem?_getD, List.getElem?_eq_getElem hyn]; rfl
      have cy := h.num y _ gy
      clear h
      obtain ⟨ty, hty⟩ : ∃ ty, nums.getD y 0 = ty := ⟨_, rfl⟩
      rw [hty] at cy hu
      clear gy hty hxy
      by_cases hneg : ty < 0
      · rw [if_pos hneg] at hu
        by_cases hle : (argsK ss nums kb y).length ≤ (argsK ss nums kb x).length
        · rw [if_pos hle] at hu
          obtain ⟨HP, HK1⟩ := HH.out.put y x
          have HF1 := Lib.hid HP
          have HK1 := Lib.hid HK1
          have C2 := Lib.hid (kargs_any fb gn gb gp As ns cs cn cb cp ss nums kb _ x _ HP HO.out hxn)
          have CX := Lib.hid (fun V (h : FitAt V fb gn gb gp As ns cs cn cb cp ss nums kb (kp.set y x)) => kargs_any fb gn gb gp As ns cs cn cb cp ss nums kb _ y V h HO.out hyn)
          have hAl := HO.out.arg y hyn
          have hOl := HO.out.arg x hxn
          have c3 := HH.out.c.2.2.2
          have c1 := HH.out.c.2.1
          have f3 := HH.out.prox.frozen y
          have cp0 := HH.out.p hyp
          have hN : nums.length ≤ 1000 := HH.out.max
          obtain ⟨A, hA⟩ : ∃ A, argsK ss nums kb y = A := ⟨_, rfl⟩
          obtain ⟨O, hO⟩ : ∃ O, argsK ss nums kb x = O := ⟨_, rfl⟩
          rw [hA] at hu hle hAl
          rw [hO] at hu hle hOl
          simp only [hO] at C2
          simp only [hA] at CX
          have HU := Lib.hid hu
          have HLE := Lib.hid hle
          obtain ⟨c, hc⟩ : ∃ c, A.length = c := ⟨_, rfl⟩
          obtain ⟨d, hd⟩ : ∃ d, O.length = d := ⟨_, rfl⟩
          have HC := Lib.hid hc
          have HD := Lib.hid hd
          have hcd : c ≤ d := by omega
          have hc1000 : c ≤ 3 := by rw [← hc, ← hA]; unfold argsK; rw [argK_len]; exact arOf_le HO.out.ar _
          have hd1000 : d ≤ 3 := by rw [← hd, ← hO]; unfold argsK; rw [argK_len]; exact arOf_le HO.out.ar _
          obtain ⟨N, hNN⟩ : ∃ N, nums.length = N := ⟨_, rfl⟩
          rw [hNN] at c3 c1 hN
          have hx0 : (0 : Int) ≤ (x : Int) := by omega
          have hx1 : (x : Int) < (N : Int) := by omega
          have hy0 : (0 : Int) ≤ (y : Int) := by omega
          have hy1 : (y : Int) < (N : Int) := by omega
          have hszp := HH.out.prox.lt
          clear HP hle hu hA hO hc hd hNN hAl hOl hyn hxn hyp hpx hpy
          go_enter Try.func90, Try.ntmps90
          go_wp2_with (first
            | (go_at_call 92; ((with_reducible refine CR1.out.mono ?_); rintro e V ⟨rfl, rfl⟩))
            | (go_at_call 92; ((with_reducible refine CR2.out.mono ?_); rintro e V ⟨rfl, rfl⟩))
            | (go_at_call 93; ((with_reducible refine C2.out.mono ?_); rintro e w2 ⟨gO, rfl, hGO, hgO, hB2⟩; have HGO := Lib.hid hGO; have HgO := Lib.hid hgO; have HB2 := Lib.hid hB2; have HF2 := Lib.hid (HF1.out.up hB2); clear hGO hgO hB2; rw [HD.out]))
            | (go_at_call 93; ((with_reducible refine (CX.out _ HF2.out).mono ?_); rintro e w3 ⟨gA, rfl, hGA, hgA, hB3⟩; have HGA := Lib.hid hGA; have HgA := Lib.hid hgA; have HGO3 := Lib.hid (HGO.out.below hB3 HGO.out.lt); have HF3 := Lib.hid (HF2.out.up hB3); have HK3 := Lib.hid ((HK1.out.next (FitK.of_below HB2.out)).next (FitK.of_below hB3)); have HGP := Lib.hid (show gO ≠ gp ∧ gA ≠ gp from by have h1 := HB2.out.size; have h2 := HgO.out; rw [World.size_setCell] at h1 h2; omega); have HB3 := Lib.hid hB3; clear hGA hgA hB3; rw [HC.out])))
          go_loopw [42] (fun kv wr => ∃ (i : Nat) (ki : List Nat), i ≤ c ∧ kv = .int .i64 i ∧ Hid (uniL (uniK ss nums kb f) ((A.zip O).drop i) ki = some kp') ∧ Hid (FitAt wr fb gn gb gp As ns cs cn cb cp ss nums kb ki) ∧ Hid (FitK gp w3 wr)) (fun kv _ => c - (intOf kv).toNat)
          case atStart => exact ⟨0, kp.set y x, Nat.zero_le _, rfl, Lib.hid (by rw [List.drop_zero]; exact HU.out), HF3, Lib.hid (FitK.refl _ _)⟩
          case round =>
            obtain ⟨i, ki, hi, rfl, hL, hF, hK⟩ := hrel
            by_cases hlt : i < c
            · have hiA : i < A.length := by have := HC.out; omega
              have hiO : i < O.length := by have := HD.out; omega
              have hl := hL.out
              rw [zip_at hiA HLE.out] at hl
              unfold uniL at hl
              have a0 : wr.cell? ⟨gA, i, none⟩ = some (.int .i64 (A[i] : Int)) := by
                rw [KeepE.cell hK.out (p := ⟨gA, i, none⟩) ⟨HGA.out.lt, HGP.out.2⟩, HGA.out.cell, List.getElem?_toArray, natV_get (List.getElem?_eq_getElem hiA)]
              have o0 : wr.cell? ⟨gO, i, none⟩ = some (.int .i64 (O[i] : Int)) := by
                rw [KeepE.cell hK.out (p := ⟨gO, i, none⟩) ⟨HGO3.out.lt, HGP.out.1⟩, HGO3.out.cell, List.getElem?_toArray, natV_get (List.getElem?_eq_getElem hiO)]
              obtain ⟨p, hp⟩ : ∃ p, A[i] = p := ⟨_, rfl⟩
              obtain ⟨q, hq⟩ : ∃ q, O[i] = q := ⟨_, rfl⟩
              rw [hp] at hl a0
              rw [hq] at hl o0
              cases hr : uniK ss nums kb f ki p q with
              | none => rw [hr] at hl; cases hl
              | some kq =>
                rw [hr] at hl
                have HL' := Lib.hid hl
                have CU := Lib.hid (HIH.out ki p q kq wr hF.out hr)
                have hi0 : (0 : Int) ≤ (i : Int) := by omega
                have hi1 : (i : Int) < (c : Int) := by omega
                have hi2 : (i : Int) < (d : Int) := by omega
                clear hl hr hp hq hiA hiO hL
                go_wp2_with (go_at_call 90; refine CU.out.mono ?_; rintro e w5 ⟨⟨v5, rfl⟩, hK5, hF5⟩; have HK5 := Lib.hid (hK.out.next hK5); have HF5 := Lib.hid hF5; clear hK5 hF5)
                go_roundw
                case rel => exact ⟨i + 1, kq, by omega, by go_num, HL', HF5, HK5⟩
                case measure => simp [intOf]; omega
            · obtain rfl : i = c := by omega
              have hl := hL.out
              rw [List.drop_eq_nil_of_le (by rw [List.length_zip]; have := HC.out; omega)] at hl
              unfold uniL at hl
              have HE := Lib.hid (Option.some.inj hl)
              clear hl hL
              go_wp2
              go_end0
              exact ⟨⟨_, rfl⟩, HK3.out.next hK.out, by rw [← HE.out]; exact hF.out⟩
        · rw [if_neg hle] at hu
          cases hu
      · rw [if_neg hneg] at hu
        by_cases hle : (argsK ss nums kb x).length ≤ (argsK ss nums kb y).length
        · rw [if_pos hle] at hu
          obtain ⟨HP, HK1⟩ := HH.out.put x y
          have HF1 := Lib.hid HP
          have HK1 := Lib.hid HK1
          have C2 := Lib.hid (kargs_any fb gn gb gp As ns cs cn cb cp ss nums kb _ y _ HP HO.out hyn)
          have CX := Lib.hid (fun V (h : FitAt V fb gn gb gp As ns cs cn cb cp ss nums kb (kp.set x y)) => kargs_any fb gn gb gp As ns cs cn cb cp ss nums kb _ x V h HO.out hxn)
          have hAl := HO.out.arg x hxn
          have hOl := HO.out.arg y hyn
          have c3 := HH.out.c.2.2.2
          have c1 := HH.out.c.2.1
          have f3 := HH.out.prox.frozen x
          have cp0 := HH.out.p hxp
          have hN : nums.length ≤ 1000 := HH.out.max
          obtain ⟨A, hA⟩ : ∃ A, argsK ss nums kb x = A := ⟨_, rfl⟩
          obtain ⟨O, hO⟩ : ∃ O, argsK ss nums kb y = O := ⟨_, rfl⟩
          rw [hA] at hu hle hAl
          rw [hO] at hu hle hOl
          simp only [hO] at C2
          simp only [hA] at CX
          have HU := Lib.hid hu
          have HLE := Lib.hid hle
          obtain ⟨c, hc⟩ : ∃ c, A.length = c := ⟨_, rfl⟩
          obtain ⟨d, hd⟩ : ∃ d, O.length = d := ⟨_, rfl⟩
          have HC := Lib.hid hc
          have HD := Lib.hid hd
          have hcd : c ≤ d := by omega
          have hc1000 : c ≤ 3 := by rw [← hc, ← hA]; unfold argsK; rw [argK_len]; exact arOf_le HO.out.ar _
          have hd1000 : d ≤ 3 := by rw [← hd, ← hO]; unfold argsK; rw [argK_len]; exact arOf_le HO.out.ar _
          obtain ⟨N, hNN⟩ : ∃ N, nums.length = N := ⟨_, rfl⟩
          rw [hNN] at c3 c1 hN
          have hx0 : (0 : Int) ≤ (x : Int) := by omega
          have hx1 : (x : Int) < (N : Int) := by omega
          have hy0 : (0 : Int) ≤ (y : Int) := by omega
          have hy1 : (y : Int) < (N : Int) := by omega
          have hszp := HH.out.prox.lt
          clear HP hle hu hA hO hc hd hNN hAl hOl hxn hyn hxp hpx hpy
          go_enter Try.func90, Try.ntmps90
          go_wp2_with (first
            | (go_at_call 92; ((with_reducible refine CR1.out.mono ?_); rintro e V ⟨rfl, rfl⟩))
            | (go_at_call 92; ((with_reducible refine CR2.out.mono ?_); rintro e V ⟨rfl, rfl⟩))
            | (go_at_call 93; ((with_reducible refine C2.out.mono ?_); rintro e w2 ⟨gO, rfl, hGO, hgO, hB2⟩; have HGO := Lib.hid hGO; have HgO := Lib.hid hgO; have HB2 := Lib.hid hB2; have HF2 := Lib.hid (HF1.out.up hB2); clear hGO hgO hB2; rw [HD.out]))
            | (go_at_call 93; ((with_reducible refine (CX.out _ HF2.out).mono ?_); rintro e w3 ⟨gA, rfl, hGA, hgA, hB3⟩; have HGA := Lib.hid hGA; have HgA := Lib.hid hgA; have HGO3 := Lib.hid (HGO.out.below hB3 HGO.out.lt); have HF3 := Lib.hid (HF2.out.up hB3); have HK3 := Lib.hid ((HK1.out.next (FitK.of_below HB2.out)).next (FitK.of_below hB3)); have HGP := Lib.hid (show gO ≠ gp ∧ gA ≠ gp from by have h1 := HB2.out.size; have h2 := HgO.out; rw [World.size_setCell] at h1 h2; omega); have HB3 := Lib.hid hB3; clear hGA hgA hB3; rw [HC.out])))
          go_loopw [42] (fun kv wr => ∃ (i : Nat) (ki : List Nat), i ≤ c ∧ kv = .int .i64 i ∧ Hid (uniL (uniK ss nums kb f) ((A.zip O).drop i) ki = some kp') ∧ Hid (FitAt wr fb gn gb gp As ns cs cn cb cp ss nums kb ki) ∧ Hid (FitK gp w3 wr)) (fun kv _ => c - (intOf kv).toNat)
          case atStart => exact ⟨0, kp.set x y, Nat.zero_le _, rfl, Lib.hid (by rw [List.drop_zero]; exact HU.out), HF3, Lib.hid (FitK.refl _ _)⟩
          case round =>
            obtain ⟨i, ki, hi, rfl, hL, hF, hK⟩ := hrel
            by_cases hlt : i < c
            · have hiA : i < A.length := by have := HC.out; omega
              have hiO : i < O.length := by have := HD.out; omega
              have hl := hL.out
              rw [zip_at hiA HLE.out] at hl
              unfold uniL at hl
              have a0 : wr.cell? ⟨gA, i, none⟩ = some (.int .i64 (A[i] : Int)) := by
                rw [KeepE.cell hK.out (p := ⟨gA, i, none⟩) ⟨HGA.out.lt, HGP.out.2⟩, HGA.out.cell, List.getElem?_toArray, natV_get (List.getElem?_eq_getElem hiA)]
              have o0 : wr.cell? ⟨gO, i, none⟩ = some (.int .i64 (O[i] : Int)) := by
                rw [KeepE.cell hK.out (p := ⟨gO, i, none⟩) ⟨HGO3.out.lt, HGP.out.1⟩, HGO3.out.cell, List.getElem?_toArray, natV_get (List.getElem?_eq_getElem hiO)]
              obtain ⟨p, hp⟩ : ∃ p, A[i] = p := ⟨_, rfl⟩
              obtain ⟨q, hq⟩ : ∃ q, O[i] = q := ⟨_, rfl⟩
              rw [hp] at hl a0
              rw [hq] at hl o0
              cases hr : uniK ss nums kb f ki p q with
              | none => rw [hr] at hl; cases hl
              | some kq =>
                rw [hr] at hl
                have HL' := Lib.hid hl
                have CU := Lib.hid (HIH.out ki p q kq wr hF.out hr)
                have hi0 : (0 : Int) ≤ (i : Int) := by omega
                have hi1 : (i : Int) < (c : Int) := by omega
                have hi2 : (i : Int) < (d : Int) := by omega
                clear hl hr hp hq hiA hiO hL
                go_wp2_with (go_at_call 90; refine CU.out.mono ?_; rintro e w5 ⟨⟨v5, rfl⟩, hK5, hF5⟩; have HK5 := Lib.hid (hK.out.next hK5); have HF5 := Lib.hid hF5; clear hK5 hF5)
                go_roundw
                case rel => exact ⟨i + 1, kq, by omega, by go_num, HL', HF5, HK5⟩
                case measure => simp [intOf]; omega
            · obtain rfl : i = c := by omega
              have hl := hL.out
              rw [List.drop_eq_nil_of_le (by rw [List.length_zip]; have := HC.out; omega)] at hl
              unfold uniL at hl
              have HE := Lib.hid (Option.some.inj hl)
              clear hl hL
              go_wp2
              go_end0
              exact ⟨⟨_, rfl⟩, HK3.out.next hK.out, by rw [← HE.out]; exact hF.out⟩
        · rw [if_neg hle] at hu
          cases hu

end Go.Proofs.Ytojofbmpknpggaa

namespace Go.Proofs.Ytojofbmpknpggaa
open Go.RowKit

/-- The variables of a list, in the order in which they come first. -/
def seenA (raw : List Int) : List Int := raw.foldl addSeen []
theorem seenA_add (raw : List Int) (x : Int) : seenA (raw ++ [x]) = addSeen (seenA raw) x := by simp [seenA]
theorem canonL_add : ∀ (zs seen : List Int) (x : Int), canonL seen (zs ++ [x]) = canonL seen zs ++ [ren1 (zs.foldl addSeen seen) x]
  | [], seen, x => rfl
  | z :: zs, seen, x => by
    show ren1 seen z :: canonL (addSeen seen z) (zs ++ [x]) = _
    rw [canonL_add zs (addSeen seen z) x]
    rfl
theorem canon_add (raw : List Int) (x : Int) : canon (raw ++ [x]) = canon raw ++ [ren1 (seenA raw) x] := canonL_add raw [] x
/-- Parts are written, one behind the other. -/
def wrL (g : Nat → List Int → Option (Bool × List Int)) : List Nat → List Int → Option (Bool × List Int)
  | [], raw => some (true, raw)
  | p :: l, raw => match g p raw with
    | none => none
    | some (false, r) => some (false, r)
    | some (true, r) => wrL g l r
/-- What a part becomes, its variables as they are, written behind raw; whether it is a term's. -/
def wrK (ss : Sg) (nums : List Int) (kb kp : List Nat) : Nat → Nat → List Int → Option (Bool × List Int)
  | 0, _, _ => none
  | f + 1, p, raw => match rootS kp f p with
    | none => none
    | some r => if 60 < raw.length + 1 then some (false, raw ++ [nums.getD r 0])
      else if 12 < (addSeen (seenA raw) (nums.getD r 0)).length then some (false, raw ++ [nums.getD r 0])
      else wrL (wrK ss nums kb kp f) (argsK ss nums kb r) (raw ++ [nums.getD r 0])
/-- Not too long. -/
def RawOk (raw : List Int) : Prop := raw.length ≤ 60 ∧ (seenA raw).length ≤ 12
theorem wrL_ok {g : Nat → List Int → Option (Bool × List Int)} (hg : ∀ p raw r, g p raw = some (true, r) → RawOk raw → RawOk r) : ∀ l raw r, wrL g l raw = some (true, r) → RawOk raw → RawOk r
  | [], raw, r, h, ho => by cases h; exact ho
  | p :: l, raw, r, h, ho => by
    unfold wrL at h
    cases e : g p raw with
    | none => rw [e] at h; cases h
    | some y =>
      obtain ⟨b, r1⟩ := y
      rw [e] at h
      cases b
      · cases h
      · exact wrL_ok hg l r1 r h (hg _ _ _ e ho)
theorem wrK_ok {ss : Sg} {nums : List Int} {kb kp : List Nat} : ∀ f p raw r, wrK ss nums kb kp f p raw = some (true, r) → RawOk raw → RawOk r
  | 0, p, raw, r, h, _ => by cases h
  | f + 1, p, raw, r, h, ho => by
    unfold wrK at h
    cases e : rootS kp f p with
    | none => rw [e] at h; cases h
    | some q =>
      rw [e] at h
      simp only at h
      split at h
      · cases h
      · rename_i h1
        split at h
        · cases h
        · rename_i h2
          refine wrL_ok (fun p raw r => wrK_ok f p raw r) _ _ _ h ⟨by rw [List.length_append, List.length_singleton]; omega, by rw [seenA_add]; omega⟩

/-- The boxes of form: the fit's, the map's, the term's, the function's; the map; the term so far. -/
structure FormAt (w : World) (Bf Bm Bt Bn bm fb N0 : Nat) (v : Value) (xs seen : List Int) (k : Nat) : Prop where
  cf : w.cell? ⟨Bf, 0, none⟩ = some (.pointer (some ⟨fb, 0, none⟩))
  cm : w.cell? ⟨Bm, 0, none⟩ = some (.map (some bm))
  cn : w.cell? ⟨Bn, 0, none⟩ = some (.func (.func 91) #[] #[.pointer (some ⟨Bf, 0, none⟩), .pointer (some ⟨Bm, 0, none⟩), .pointer (some ⟨Bt, 0, none⟩), .pointer (some ⟨Bn, 0, none⟩)])
  cv : w.cell? ⟨Bt, 0, none⟩ = some v
  fv : w.frozen? ⟨Bt, 0, none⟩ = false
  numb : Numb w bm k seen
  row : w.ownsRow N0 3 1 v xs.length (xs.map (Value.int .i64))
  out : ∀ g, v.ownBlock = some g → g ≠ Bf ∧ g ≠ Bm ∧ g ≠ Bt ∧ g ≠ Bn ∧ g ≠ bm
/-- Which boxes are apart, all above what was there before. -/
structure BoxOk (Bf Bm Bt Bn bm N0 : Nat) : Prop where
  lf : N0 ≤ Bf ∧ N0 ≤ Bm ∧ N0 ≤ Bt ∧ N0 ≤ Bn ∧ N0 ≤ bm
  nt : Bf ≠ Bt ∧ Bm ≠ Bt ∧ Bn ≠ Bt ∧ bm ≠ Bt
  nm : Bf ≠ bm ∧ Bm ≠ bm ∧ Bn ≠ bm
/-- What writing keeps. -/
structure FormK (Bt bm : Nat) (v v' : Value) (w w' : World) : Prop where
  keep : KeepE (fun b => b < w.heap.size ∧ b ≠ Bt ∧ b ≠ bm ∧ v.ownBlock ≠ some b) w w'
  own : ∀ g, v'.ownBlock = some g → v.ownBlock = some g ∨ w.heap.size ≤ g
section
variable {Bf Bm Bt Bn bm fb N0 k : Nat} {v v' v'' : Value} {w w' w'' : World} {xs seen : List Int}
theorem FormK.refl (Bt bm : Nat) (v : Value) (w : World) : FormK Bt bm v v w w := ⟨KeepE.refl _ _, fun _ h => .inl h⟩
theorem FormK.next (h : FormK Bt bm v v' w w') (h2 : FormK Bt bm v' v'' w' w'') : FormK Bt bm v v'' w w'' := by
  refine ⟨h.keep.trans (h2.keep.mono fun b hb => ⟨Nat.lt_of_lt_of_le hb.1 h.keep.size, hb.2.1, hb.2.2.1, fun e => ?_⟩), fun g hg => ?_⟩
  · rcases h.own b e with h3 | h3
    · exact hb.2.2.2 h3
    · have := hb.1; omega
  · rcases h2.own g hg with h3 | h3
    · exact h.own g h3
    · exact .inr (Nat.le_trans h.keep.size h3)
theorem FormK.of_below (h : Below w.heap.size w w') : FormK Bt bm v v w w' := ⟨KeepE.of_below h fun _ hb => hb.1, fun _ h => .inl h⟩
theorem FormK.below (h : FormK Bt bm v v' w w') (hb : BoxOk Bf Bm Bt Bn bm N0) (hn : N0 ≤ w.heap.size) (hr : ∀ g, v.ownBlock = some g → N0 ≤ g) : Below N0 w w' :=
  h.keep.below fun b hb' => ⟨by omega, by have := hb.lf; omega, by have := hb.lf; omega, fun e => by have := hr b e; omega⟩
theorem FormAt.lts (h : FormAt w Bf Bm Bt Bn bm fb N0 v xs seen k) : Bf < w.heap.size ∧ Bm < w.heap.size ∧ Bn < w.heap.size ∧ Bt < w.heap.size ∧ bm < w.heap.size ∧ ∀ g, v.ownBlock = some g → N0 ≤ g ∧ g < w.heap.size :=
  ⟨World.block_lt_of_cell? w _ h.cf, World.block_lt_of_cell? w _ h.cm, World.block_lt_of_cell? w _ h.cn, World.block_lt_of_cell? w _ h.cv, h.numb.lt, fun g hg => h.row.lt g hg⟩
theorem Numb.grown' {w w' : World} {b n : Nat} {l : List Int} {row : Option Nat} (h : Numb w b n l) (hg : w.grownBy w' row) (hr : some b ≠ row) : Numb w' b n l := by
  obtain ⟨D, h1, h2⟩ := h
  exact ⟨D, h1.kept hg hr, h2⟩
/-- A call that keeps all blocks keeps the boxes. -/
theorem FormAt.up (h : FormAt w Bf Bm Bt Bn bm fb N0 v xs seen k) (hb : Below w.heap.size w w') : FormAt w' Bf Bm Bt Bn bm fb N0 v xs seen k := by
  obtain ⟨l1, l2, l3, l4, l5, l6⟩ := h.lts
  have hg : w.grownBy w' none := grown_none hb
  refine ⟨(hb.cell (p := ⟨Bf, 0, none⟩) l1).trans h.cf, (hb.cell (p := ⟨Bm, 0, none⟩) l2).trans h.cm, (hb.cell (p := ⟨Bn, 0, none⟩) l3).trans h.cn, (hb.cell (p := ⟨Bt, 0, none⟩) l4).trans h.cv, ?_, h.numb.grown' hg (by simp), h.row.kept hg ?_, h.out⟩
  · exact (World.frozen?_of_block (hb.block _ l4)).trans h.fv
  · cases e : v.ownBlock <;> simp
end

end Go.Proofs.Ytojofbmpknpggaa
