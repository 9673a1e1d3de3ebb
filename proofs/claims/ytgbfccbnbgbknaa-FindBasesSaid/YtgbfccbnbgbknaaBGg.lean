/- Contract: IsBase. -/
import Derived.Test.YtgbfccbnbgbknaaFCg
import Derived.Test.YtgbfccbnbgbknaaBCg
import Derived.Lib.SliceRun
/- Contracts: what is over a statement; slices.IndexFunc, ContainsFunc and DeleteFunc at []int by any function. -/
namespace Go.Proofs.Ytgbfccbnbgbknaa
open Go.RowKit

/-- What is asked of numbers answers p, and leaves the memory as it was. -/
def AsksI (g : Nat) (lb : Array Value) (xs : List Int) (p : Int → Bool) (B : Nat) (w : World) : Prop :=
  ∀ (W : World) (z : Int), Below B w W → B ≤ W.heap.size → z ∈ xs → Calls Try.prog g (#[.int .i64 z] ++ lb) W fun e w' => e = .returned (.bool (p z)) ∧ Below W.heap.size W w'

/-- The first place where p is so, or -1. -/
def FstP (p : Int → Bool) (xs : List Int) (r : Int) : Prop := (r = -1 ∧ xs.any p = false) ∨ ∃ k : Nat, r = (k : Int) ∧ k < xs.length ∧ p (xs.getD k 0) = true ∧ (xs.take k).any p = false
/-- Nowhere before k. -/
def NoP (p : Int → Bool) (xs : List Int) (k : Nat) : Prop := (xs.take k).any p = false

set_option maxRecDepth 100000 in
set_option maxHeartbeats 1000000 in
theorem indexFuncI_any (g : Nat) (lb : Array Value) (eg : ∀ args w, (callFunc g args).run Try.prog w = .ok (.enter g args) w) (A : Option Addr) (n c B : Nat) (xs : List Int) (p : Int → Bool) (w w0 : World)
    (hx : IntsAt w w.heap.size A n xs) (hB0 : Below B w0 w) (hB : B ≤ w.heap.size) (hp : AsksI g lb xs p B w0) :
    Calls Try.prog 204 #[.slice A n c, .func (.func g) #[] lb] w fun e w' => (∃ r : Int, e = .returned (.int .i64 r) ∧ FstP p xs r) ∧ Below w.heap.size w w' := by
  have HX := Lib.hid hx
  have HLX := Lib.hid hx.len
  have hmx := hx.max
  have hpk : ∀ (W : World) (k : Nat) (hk : k < xs.length), Below w.heap.size w W → Calls Try.prog g (#[.int .i64 xs[k]] ++ lb) W fun e w' => e = .returned (.bool (p xs[k])) ∧ Below W.heap.size W w' := by
    intro W k hk hW
    have h1 : Below B w0 W := hB0.trans (hW.mono hB)
    have h2 := Nat.le_trans hB hW.size
    exact hp W xs[k] h1 h2 (List.getElem_mem hk)
  have HP := Lib.hid hpk
  clear hx hB0 hB hp hpk
  go_enter Try.func204, Try.ntmps204
  go_wp2
  go_loopw [8] (fun i wr => ∃ k : Nat, k ≤ n ∧ i = .int .i64 k ∧ NoP p xs k ∧ Below w.heap.size w wr) (fun i _ => n - (intOf i).toNat)
  case atStart => exact ⟨0, Nat.zero_le _, rfl, rfl, Below.refl _ _⟩
  case round =>
    obtain ⟨k, hk, rfl, hA, hB⟩ := hrel
    by_cases hlt : k < n
    · obtain ⟨b, off, z, rfl, c1, k1, e1⟩ := HX.out.cellAt hlt
      have hb : b < w.heap.size := by
        obtain ⟨b', off', e', hb', _⟩ := HX.out.mem (by omega)
        cases e'
        exact hb'
      have c2 := (hB.cell (p := ⟨b, off + k, none⟩) hb).trans c1
      have hk0 : (0 : Int) ≤ (k : Int) := by omega
      have hk1 : (k : Int) < (n : Int) := by omega
      have C := Lib.hid (HP.out wr k k1 hB)
      have hget : xs.getD k 0 = z := by rw [List.getD_eq_getElem?_getD, List.getElem?_eq_getElem k1]; exact e1
      have HSUC := Lib.hid (show (xs.take (k + 1)).any p = ((xs.take k).any p || p z) by rw [List.take_succ_eq_append_getElem k1, List.any_append, e1]; simp)
      rw [e1] at C
      have HK1 := Lib.hid k1
      have HG := Lib.hid hget
      have HA := Lib.hid (show (xs.take k).any p = false from hA)
      have HB := Lib.hid hB
      clear hA hB c1 k1 e1 hget
      cases hq : p z
      · rw [hq] at C HSUC
        clear hq
        go_wp2_with (go_at_fn g; refine C.out.mono ?_; rintro e w1 ⟨rfl, hB1⟩; have HB1 := Lib.hid (below_then HB.out hB1); clear hB1)
        go_roundw
        case rel => exact ⟨k + 1, by omega, by go_num, by unfold NoP; rw [HSUC.out, HA.out]; rfl, HB1.out⟩
        case measure => simp [intOf]; omega
      · have HQ := Lib.hid hq
        rw [hq] at C
        clear hq
        go_wp2_with (go_at_fn g; refine C.out.mono ?_; rintro e w1 ⟨rfl, hB1⟩; have HB1 := Lib.hid (below_then HB.out hB1); clear hB1)
        go_ret
        exact ⟨⟨_, rfl, .inr ⟨k, rfl, HK1.out, by rw [HG.out]; exact HQ.out, HA.out⟩⟩, HB1.out⟩
    · obtain rfl : k = n := by omega
      have HA := Lib.hid (show xs.any p = false by unfold NoP at hA; rw [← List.take_of_length_le (l := xs) (i := k) (by rw [HLX.out]; exact Nat.le_refl _)]; exact hA)
      have HB := Lib.hid hB
      clear hA hB
      go_wp2
      go_ret
      exact ⟨⟨-1, rfl, .inl ⟨rfl, HA.out⟩⟩, HB.out⟩

set_option maxHeartbeats 400000 in
theorem containsFuncI_any (g : Nat) (lb : Array Value) (eg : ∀ args w, (callFunc g args).run Try.prog w = .ok (.enter g args) w) (A : Option Addr) (n c B : Nat) (xs : List Int) (p : Int → Bool) (w w0 : World)
    (hx : IntsAt w w.heap.size A n xs) (hB0 : Below B w0 w) (hB : B ≤ w.heap.size) (hp : AsksI g lb xs p B w0) :
    Calls Try.prog 165 #[.slice A n c, .func (.func g) #[] lb] w fun e w' => e = .returned (.bool (xs.any p)) ∧ Below w.heap.size w w' := by
  have C := Lib.hid (indexFuncI_any g lb eg A n c B xs p w w0 hx hB0 hB hp)
  have H : Hid (∀ r : Int, FstP p xs r → decide ((0 : Int) ≤ r) = xs.any p) := Lib.hid (by
    rintro r (⟨rfl, h⟩ | ⟨k, rfl, hk, h, _⟩)
    · rw [h]; rfl
    · rw [decide_eq_true (by omega)]
      symm
      rw [List.any_eq_true]
      refine ⟨_, ?_, h⟩
      rw [List.getD_eq_getElem?_getD, List.getElem?_eq_getElem hk]
      exact List.getElem_mem hk)
  obtain ⟨qb, hqb⟩ : ∃ qb, xs.any p = qb := ⟨_, rfl⟩
  rw [hqb] at H ⊢
  clear hx hB0 hB hp hqb
  go_enter Try.func165, Try.ntmps165
  go_wp2_with (go_at_call 204; refine C.out.mono ?_; rintro e w' ⟨⟨r, rfl, hr⟩, hB1⟩; have HR := Lib.hid (H.out r hr); have HB1 := Lib.hid hB1; clear hr hB1)
  go_ret
  exact ⟨ret_b HR.out, HB1.out⟩

end Go.Proofs.Ytgbfccbnbgbknaa

/- Contract: slices.DeleteFunc at []int, of a list in a block of its own, by any function that leaves the memory as it was. -/
namespace Go.Proofs.Ytgbfccbnbgbknaa
open Go.RowKit

/-- Of the numbers before j those that stay lie in front of the row; those from j on are as they were. -/
structure DelI (p : Int → Bool) (xs dk : List Int) (i j : Nat) : Prop where
  len : dk.length = xs.length
  low : dk.take i = (xs.take j).filter fun z => !p z
  num : i = ((xs.take j).filter fun z => !p z).length
  lt : i < j
  high : ∀ q, j ≤ q → dk[q]? = xs[q]?
theorem filt_succ {p : Int → Bool} {xs : List Int} {j : Nat} (hj : j < xs.length) : ((xs.take (j + 1)).filter fun z => !p z) = ((xs.take j).filter fun z => !p z) ++ (if p xs[j] = true then [] else [xs[j]]) := by
  rw [List.take_succ_eq_append_getElem hj, List.filter_append]
  congr 1
  cases h : p xs[j] <;> simp [h]
theorem filt_none {p : Int → Bool} {xs : List Int} (h : xs.any p = false) : (xs.filter fun z => !p z) = xs := by
  rw [List.filter_eq_self]
  intro a ha
  cases e : p a
  · rfl
  · rw [List.any_eq_true.2 ⟨a, ha, e⟩] at h; cases h
theorem DelI.start {p : Int → Bool} {xs : List Int} {k : Nat} (hk : k < xs.length) (hp : p xs[k] = true) (hall : (xs.take k).any p = false) : DelI p xs xs k (k + 1) := by
  have e : ((xs.take (k + 1)).filter fun z => !p z) = xs.take k := by rw [filt_succ hk, if_pos hp, List.append_nil, filt_none hall]
  exact ⟨rfl, e.symm, by rw [e, List.length_take]; omega, by omega, fun _ _ => rfl⟩
theorem DelI.skip {p : Int → Bool} {xs dk : List Int} {i j : Nat} (h : DelI p xs dk i j) (hj : j < xs.length) (hp : p xs[j] = true) : DelI p xs dk i (j + 1) := by
  have e : ((xs.take (j + 1)).filter fun z => !p z) = ((xs.take j).filter fun z => !p z) := by rw [filt_succ hj, if_pos hp, List.append_nil]
  exact ⟨h.len, by rw [e]; exact h.low, by rw [e]; exact h.num, by have := h.lt; omega, fun q hq => h.high q (by omega)⟩
theorem DelI.keep {p : Int → Bool} {xs dk : List Int} {i j : Nat} (h : DelI p xs dk i j) (hj : j < xs.length) (hp : p xs[j] = false) : DelI p xs (dk.set i xs[j]) (i + 1) (j + 1) := by
  have e : ((xs.take (j + 1)).filter fun z => !p z) = ((xs.take j).filter fun z => !p z) ++ [xs[j]] := by rw [filt_succ hj, if_neg (by rw [hp]; simp)]
  have hl := h.len
  have hlt := h.lt
  refine ⟨by simpa using hl, ?_, by rw [e, List.length_append, ← h.num]; rfl, by omega, fun q hq => by rw [List.getElem?_set_ne (by omega)]; exact h.high q (by omega)⟩
  rw [e, ← h.low, List.take_set, List.take_succ_eq_append_getElem (by omega), List.set_append_right _ _ (by simp; omega)]
  congr 1
  rw [List.length_take, show i - min i dk.length = 0 by omega]
  rfl
/-- Stores behind the first n cells. -/
theorem row_behind {b n : Nat} {t : TypeId} {f : Nat → Option Value} : ∀ (vs : List Value) (o : Nat) (w : World), n ≤ o → (∃ cs, Blk w b t cs ∧ ∀ j, j < n → cs[j]? = f j) →
    (∃ cs, Blk (w.setCells b o vs) b t cs ∧ ∀ j, j < n → cs[j]? = f j) ∧ ∀ B, B ≤ b → Below B w (w.setCells b o vs)
  | [], o, w, _, h => ⟨h, fun B _ => Below.refl _ _⟩
  | v :: r, o, w, ho, ⟨cs, h1, h2⟩ => by
    obtain ⟨q1, q2⟩ := row_behind (n := n) (f := f) r (o + 1) (w.setCell ⟨b, o, none⟩ v) (Nat.le_succ_of_le ho) ⟨_, h1.set_ o v, fun j hj => by
      rw [Array.getElem?_setIfInBounds, if_neg (show ¬ o = j by omega)]
      exact h2 j hj⟩
    exact ⟨q1, fun B hB => ((Below.refl B w).setCell (p := ⟨b, o, none⟩) hB v).trans (q2 B hB)⟩
def icells (dk : List Int) : Array Value := (dk.map (Value.int .i64)).toArray
theorem icells_at {dk : List Int} {k : Nat} {z : Int} (h : dk[k]? = some z) : (icells dk)[k]? = some (.int .i64 z) := by
  unfold icells
  rw [List.getElem?_toArray, List.getElem?_map, h]; rfl
theorem icells_set (dk : List Int) (k : Nat) (z : Int) : (icells dk).setIfInBounds k (.int .i64 z) = icells (dk.set k z) := by
  unfold icells
  rw [List.setIfInBounds_toArray, List.map_set]

set_option maxRecDepth 100000 in
set_option maxHeartbeats 2000000 in
theorem deleteFuncI_any (g : Nat) (lb : Array Value) (eg : ∀ args w, (callFunc g args).run Try.prog w = .ok (.enter g args) w) (b n c B : Nat) (xs : List Int) (p : Int → Bool) (w w0 : World)
    (hb : Blk w b 3 (icells xs)) (hBb : B ≤ b) (hn : n = xs.length) (hm : n ≤ 1000000) (hc : n ≤ c) (hc2 : c ≤ 9223372036854775807) (hB0 : Below B w0 w) (hp : AsksI g lb xs p B w0) :
    Calls Try.prog 160 #[.slice (some ⟨b, 0, none⟩) n c, .func (.func g) #[] lb] w fun e w' => ∃ m, e = .returned (.slice (some ⟨b, 0, none⟩) m c) ∧ m ≤ c ∧ IntsAt w' w'.heap.size (some ⟨b, 0, none⟩) m (xs.filter fun z => !p z) ∧ Below B w w' := by
  have hlt := hb.lt
  have hI : IntsAt w w.heap.size (some ⟨b, 0, none⟩) n xs := IntsAt.of_blk hb hn (by omega)
  have hBw : B ≤ w.heap.size := by omega
  have CI := Lib.hid (indexFuncI_any g lb eg (some ⟨b, 0, none⟩) n c B xs p w w0 hI hB0 hBw hp)
  have HP := Lib.hid hp
  have HB0 := Lib.hid hB0
  have HBK := Lib.hid hb
  have HN := Lib.hid hn
  cases hany : xs.any p
  · have HF := Lib.hid (filt_none hany)
    have HI := Lib.hid hI
    have HA := Lib.hid hany
    clear hb hn hI hB0 hp hany
    go_enter Try.func160, Try.ntmps160
    go_wp2_with (go_at_call 204; refine CI.out.mono ?_; rintro e w1 ⟨⟨r, rfl, hr⟩, hB1⟩; obtain rfl : r = -1 := (by
      rcases (show FstP p xs r from hr) with ⟨h, _⟩ | ⟨k, _, hk, h, _⟩
      · exact h
      · refine absurd (List.any_eq_true.2 ⟨_, ?_, h⟩) (by rw [HA.out]; simp)
        rw [List.getD_eq_getElem?_getD, List.getElem?_eq_getElem hk]
        exact List.getElem_mem hk); have HB1 := Lib.hid hB1; clear hr hB1)
    go_ret
    exact ⟨n, rfl, hc, by rw [HF.out]; exact HI.out.up HB1.out, HB1.out.mono hBw⟩
  · have HA := Lib.hid hany
    clear hb hn hI hB0 hp hany
    go_enter Try.func160, Try.ntmps160
    go_wp2_with (go_at_call 204; refine CI.out.mono ?_; rintro e w1 ⟨⟨r, rfl, hr⟩, hB1⟩; obtain ⟨k0, rfl, hk0, hpk, hall⟩ : ∃ k : Nat, r = (k : Int) ∧ k < xs.length ∧ p (xs.getD k 0) = true ∧ (xs.take k).any p = false := (by
      rcases (show FstP p xs r from hr) with ⟨_, h⟩ | h
      · rw [HA.out] at h; cases h
      · exact h); have hne : ((k0 : Int) == -1) = false := beq_eq_false_iff_ne.2 (by omega); have hk0n : k0 < n := (by rw [HN.out]; exact hk0); have HST := Lib.hid (DelI.start hk0 (by rw [List.getD_eq_getElem?_getD, List.getElem?_eq_getElem hk0] at hpk; exact hpk) hall); have HK0 := Lib.hid hk0; have HB1 := Lib.hid hB1; clear hr hB1 hpk hall hk0)
    go_loopw [5, 6] (fun s5 s6 wr => ∃ (i j : Nat) (dk : List Int), s5 = .int .i64 i ∧ s6 = .int .i64 j ∧ j ≤ n ∧ DelI p xs dk i j ∧ Blk wr b 3 (icells dk) ∧ Below B w wr) (fun _ s6 _ => n - (intOf s6).toNat)
    case atStart => exact ⟨k0, k0 + 1, xs, rfl, by go_num, by have := HK0.out; have := HN.out; omega, HST.out, HBK.out.below HB1.out hlt, HB1.out.mono hBw⟩
    case round =>
      obtain ⟨i, j, dk, rfl, rfl, hj, hD, hK, hB⟩ := hrel
      have hij := hD.lt
      have hln := hD.len
      have hltr := hK.lt
      have HN2 := HN.out
      by_cases hjn : j < n
      · have hjx : j < xs.length := by omega
        have cj := (hK.cell j).trans (icells_at (by rw [hD.high j (Nat.le_refl _)]; exact List.getElem?_eq_getElem hjx))
        have hj0 : (0 : Int) ≤ (j : Int) := by omega
        have hj1 : (j : Int) < (n : Int) := by omega
        have hi0 : (0 : Int) ≤ (i : Int) := by omega
        have hi1 : (i : Int) < (n : Int) := by omega
        have hdi : ∃ y, dk[i]? = some y := ⟨_, List.getElem?_eq_getElem (by omega)⟩
        have C := Lib.hid (HP.out wr xs[j] (HB0.out.trans hB) (by omega) (List.getElem_mem hjx))
        obtain ⟨z, hz⟩ : ∃ z, xs[j] = z := ⟨_, rfl⟩
        rw [hz] at C cj
        have HZ := Lib.hid hz
        have HD := Lib.hid hD
        have HKB := Lib.hid hK
        have HB := Lib.hid hB
        have HDI := Lib.hid hdi
        clear hD hK hB hz hdi hln HN2
        cases hq : p z
        · have HS := Lib.hid (HD.out.keep hjx (by rw [HZ.out]; exact hq))
          rw [HZ.out] at HS
          rw [hq] at C
          clear hq
          go_wp2_with (go_at_fn g; refine C.out.mono ?_; rintro e w2 ⟨rfl, hB2⟩; have HK2 := Lib.hid (HKB.out.below hB2 hltr); have HB2 := Lib.hid (HB.out.trans (hB2.mono (by omega))); obtain ⟨y, hy⟩ := HDI.out; have ci := (HK2.out.cell i).trans (icells_at hy); have fi := HK2.out.frozen i; clear hB2 hy)
          go_roundw
          case rel => exact ⟨i + 1, j + 1, _, by go_num, by go_num, by omega, HS.out, by rw [← icells_set]; exact HK2.out.set_ i _, HB2.out.setCell (p := ⟨b, i, none⟩) hBb _⟩
          case measure => simp [intOf]; omega
        · have HS := Lib.hid (HD.out.skip hjx (by rw [HZ.out]; exact hq))
          rw [hq] at C
          clear hq
          go_wp2_with (go_at_fn g; refine C.out.mono ?_; rintro e w2 ⟨rfl, hB2⟩; have HK2 := Lib.hid (HKB.out.below hB2 hltr); have HB2 := Lib.hid (HB.out.trans (hB2.mono (by omega))); clear hB2)
          go_roundw
          case rel => exact ⟨i, j + 1, dk, rfl, by go_num, by omega, HS.out, HK2.out, HB2.out⟩
          case measure => simp [intOf]; omega
      · obtain rfl : j = n := by omega
        have hcl : ∀ ty, (Builtin.clear_ #[24] ty #[.slice (some ⟨b, i, none⟩) (j - i) (c - i)]).run Try.prog wr = .ok (.tuple #[]) (wr.setCells b i (List.replicate (j - i) (.int .i64 0))) := fun ty =>
          Lib.run_clear_slice wr _ _ ty _ Try.underlying24 zeroInt rfl rfl b i _ _ (by omega) (fun q hq => by
            rw [(hK.cell (i + q)).trans (icells_at (List.getElem?_eq_getElem (show i + q < dk.length by omega)))]; rfl) (fun q hq => hK.frozen _)
        have HCB := Lib.hid (row_behind (n := i) (f := fun q => (icells dk)[q]?) (List.replicate (j - i) (.int .i64 0)) i wr (Nat.le_refl _) ⟨_, hK, fun q hq => rfl⟩)
        obtain ⟨W9, hW9⟩ : ∃ W9, wr.setCells b i (List.replicate (j - i) (.int .i64 0)) = W9 := ⟨_, rfl⟩
        rw [hW9] at HCB
        simp only [hW9] at hcl
        have HD := Lib.hid hD
        have HB := Lib.hid hB
        have hi1 : i ≤ j := by omega
        clear hW9 hD hK hB hln HN2
        go_wp2
        go_ret
        obtain ⟨⟨cs, z1, z2⟩, z3⟩ := HCB.out
        have hlow := HD.out.low
        have hnum := HD.out.num
        have hln2 := HD.out.len
        have hall : xs.take j = xs := List.take_of_length_le (by rw [← HN.out]; exact Nat.le_refl _)
        rw [hall] at hlow hnum
        refine ⟨i, rfl, by omega, ⟨hnum, by omega, fun h0 => ⟨b, 0, rfl, z1.lt, fun q hq => ?_⟩⟩, HB.out.trans (z3 B hBb)⟩
        have hqi : q < i := by omega
        have hqd : q < dk.length := by have := HN.out; omega
        have e9 : (xs.filter fun z => !p z)[q]? = some dk[q] := by
          rw [← hlow, List.getElem?_take_of_lt hqi, List.getElem?_eq_getElem hqd]
        rw [Nat.zero_add, z1.cell, z2 q hqi, icells_at (List.getElem?_eq_getElem hqd)]
        rw [List.getElem?_eq_getElem hq] at e9
        rw [Option.some.inj e9]

end Go.Proofs.Ytgbfccbnbgbknaa

/- Contracts: over, Over; ascending, IsBase; Base. -/
namespace Go.Proofs.Ytgbfccbnbgbknaa
open Go.RowKit

set_option maxRecDepth 100000 in
set_option maxHeartbeats 1000000 in
theorem overC_any (Bs Bq : Nat) (As At Aq : Option Addr) (ns cs n nq cq : Nat) (ss : Sg) (ls : List Hd) (tt : List (List Int)) (zq : List Int) (w : World)
    (hs : SigAt w w.heap.size As ns ss) (ht : TermsAt w w.heap.size At n ls tt) (hq : IntsAt w w.heap.size Aq nq zq) (hcap : ∀ x ∈ ls, capOk x) (hcq : nq ≤ cq ∧ cq ≤ 9223372036854775807)
    (hBs : Bs < w.heap.size) (hBq : Bq < w.heap.size) (cS : w.cell? ⟨Bs, 0, none⟩ = some (.slice As ns cs)) (cQ : w.cell? ⟨Bq, 0, none⟩ = some (.slice Aq nq cq)) :
    Asks 205 #[.pointer (some ⟨Bs, 0, none⟩), .pointer (some ⟨Bq, 0, none⟩)] ls (fun k => insB ss (tt.getD k []) zq && !alikeOk ss (tt.getD k []) zq) w.heap.size w := by
  intro W k A' n' c' hW hk
  obtain ⟨t, ht1, ht2, hI⟩ := ht.at hk
  have hkc := cap_at hcap hk
  have rS := (hW.cell (p := ⟨Bs, 0, none⟩) hBs).trans cS
  have rQ := (hW.cell (p := ⟨Bq, 0, none⟩) hBq).trans cQ
  have C := Lib.hid (instance_any As A' Aq ns cs n' c' nq cq ss t zq W (hs.up hW) ((hI.below hW).more hW.size) (hq.up hW) hcq.1 hcq.2)
  have C2 := Lib.hid (fun V (h : Below W.heap.size W V) => alike_any As A' Aq ns cs n' c' nq cq ss t zq V ((hs.up hW).up h) (((hI.below hW).more hW.size).up h) ((hq.up hW).up h))
  have RS := Lib.hid (fun V (h : Below W.heap.size W V) => (h.cell (p := ⟨Bs, 0, none⟩) (Nat.lt_of_lt_of_le hBs hW.size)).trans rS)
  have RQ := Lib.hid (fun V (h : Below W.heap.size W V) => (h.cell (p := ⟨Bq, 0, none⟩) (Nat.lt_of_lt_of_le hBq hW.size)).trans rQ)
  simp only [ht2]
  obtain ⟨R2, hR2⟩ : ∃ R2, alikeOk ss t zq = R2 := ⟨_, rfl⟩
  rw [hR2] at C2 ⊢
  obtain ⟨R, hR⟩ : ∃ R, insB ss t zq = R := ⟨_, rfl⟩
  rw [hR] at C ⊢
  clear hs ht hq hcap hk hI ht1 ht2 hkc hR hR2 cS cQ
  cases R
  · go_enter Try.func205, Try.ntmps205
    go_wp2_with (go_at_call 42; refine C.out.mono ?_; rintro e w1 ⟨rfl, hB1⟩; have HB1 := Lib.hid hB1; clear hB1)
    go_ret
    exact ⟨rfl, HB1.out⟩
  · go_enter Try.func205, Try.ntmps205
    go_wp2_with (first
      | (go_at_call 42; refine C.out.mono ?_; rintro e w1 ⟨rfl, hB1⟩; have HB1 := Lib.hid hB1; have rS1 := RS.out w1 hB1; have rQ1 := RQ.out w1 hB1; clear hB1)
      | (go_at_call 26; refine (C2.out _ HB1.out).mono ?_; rintro e w2 ⟨rfl, hB2⟩; have HB2 := Lib.hid (below_then HB1.out hB2); clear hB2))
    go_ret
    exact ⟨ret_b (by cases R2 <;> rfl), HB2.out⟩

set_option maxRecDepth 100000 in
set_option maxHeartbeats 1000000 in
theorem over_any (As At Aq : Option Addr) (ns cs n c nq cq : Nat) (ss : Sg) (ls : List Hd) (tt : List (List Int)) (zq : List Int) (w : World)
    (hs : SigAt w w.heap.size As ns ss) (ht : TermsAt w w.heap.size At n ls tt) (hq : IntsAt w w.heap.size Aq nq zq) (hn : n ≤ 1000000) (hcap : ∀ x ∈ ls, capOk x) (hcq : nq ≤ cq ∧ cq ≤ 9223372036854775807) :
    Calls Try.prog 162 #[.slice As ns cs, .slice At n c, .slice Aq nq cq] w (RetOwn w (chF (fun k => insB ss (tt.getD k []) zq && !alikeOk ss (tt.getD k []) zq) n)) := by
  obtain ⟨W2, hW2⟩ : ∃ W2, (w.alloc (.cells #[.slice As ns cs] 23)).alloc (.cells #[.slice Aq nq cq] 25) = W2 := ⟨_, rfl⟩
  have hB0 : Below w.heap.size w W2 := by rw [← hW2]; exact bel_al (bel_al (Below.refl _ w) _) _
  have hsz : W2.heap.size = w.heap.size + 1 + 1 := by rw [← hW2]; simp
  have r0 : W2.cell? ⟨w.heap.size, 0, none⟩ = some (.slice As ns cs) := by rw [← hW2]; simp
  have r1 : W2.cell? ⟨w.heap.size + 1, 0, none⟩ = some (.slice Aq nq cq) := by rw [← hW2]; simp
  have C := Lib.hid (chosen_any 205 #[.pointer (some ⟨w.heap.size, 0, none⟩), .pointer (some ⟨w.heap.size + 1, 0, none⟩)] (enters_of Try.func205 (by kernel_rfl) rfl) At n c ls _ W2 (ht.up hB0).hds hn
    (overC_any w.heap.size (w.heap.size + 1) As At Aq ns cs n nq cq ss ls tt zq W2 (hs.up hB0) (ht.up hB0) (hq.up hB0) hcap hcq (by omega) (by omega) r0 r1))
  generalize (fun k => insB ss (tt.getD k []) zq && !alikeOk ss (tt.getD k []) zq) = p at *
  have HW2 := Lib.hid hW2
  have HB0 := Lib.hid hB0
  clear hs ht hq hn hcap hcq r0 r1 hsz hB0 hW2
  go_enter Try.func162, Try.ntmps162
  go_wp2_with (go_at_call 144; rw [HW2.out]; refine C.out.mono ?_; rintro e w4 ⟨v, base, rfl, hb, hown, hB4⟩; have HOWN := Lib.hid hown; have HSZ := Lib.hid (Nat.le_trans HB0.out.size hb); have HB4 := Lib.hid (below_then HB0.out hB4); clear hown hb hB4)
  go_ret
  exact ⟨_, _, rfl, HSZ.out, HOWN.out, HB4.out⟩

/-- What Over hands back. -/
def ovZ (ss : Sg) (tt : List (List Int)) (i : Int) : List Int × Int := if shOk ss tt = true then (if 0 ≤ i ∧ i < (tt.length : Int) then (chF (ovr ss tt i.toNat) tt.length, 0) else ([], 5)) else ([], 1)

set_option maxRecDepth 100000 in
set_option maxHeartbeats 1000000 in
theorem fOver_any (As At : Option Addr) (ns cs n c : Nat) (i : Int) (ss : Sg) (ls : List Hd) (tt : List (List Int)) (w : World)
    (hs : SigAt w w.heap.size As ns ss) (ht : TermsAt w w.heap.size At n ls tt) (hn : n ≤ 1000000) (hcap : ∀ x ∈ ls, capOk x) :
    Calls Try.prog 93 #[.slice As ns cs, .slice At n c, .int .i64 i] w (RetK w (ovZ ss tt i).1 (ovZ ss tt i).2) := by
  have C1 := Lib.hid (fvalid_any As At ns cs n c ss ls tt w hs ht hn)
  have htl := ht.len
  cases h1 : shOk ss tt
  · have H : Hid (ovZ ss tt i = ([], 1)) := Lib.hid (by unfold ovZ; rw [h1]; rfl)
    rw [H.out]
    rw [h1] at C1
    clear hs ht hn hcap h1 htl
    go_enter Try.func93, Try.ntmps93
    go_wp2_with (go_at_call 59; refine C1.out.mono ?_; rintro e w1 ⟨rfl, hB1⟩; have HB1 := Lib.hid hB1; clear hB1)
    go_ret2
    exact ⟨none, 0, 0, rfl, IntsAt.nil _ _ 0, by omega, HB1.out⟩
  · by_cases hi : 0 ≤ i
    · by_cases hi2 : i < (n : Int)
      · obtain ⟨k, rfl⟩ : ∃ k : Nat, i = (k : Int) := ⟨i.toNat, by omega⟩
        have hkn : k < n := by omega
        obtain ⟨b, off, A', n', c', rfl, hb, q1, q2⟩ := ht.hds.cellAt hkn
        obtain ⟨zq, z1, z2, hI⟩ := ht.at q2
        have hkc := cap_at hcap q2
        have H : Hid (ovZ ss tt (k : Int) = (chF (fun j => insB ss (tt.getD j []) zq && !alikeOk ss (tt.getD j []) zq) n, 0)) := Lib.hid (by
          unfold ovZ
          rw [h1, if_pos rfl, if_pos ⟨by omega, by omega⟩, Int.toNat_natCast]
          unfold ovr
          simp only [z2, htl])
        rw [H.out]
        have CO := Lib.hid (fun V (h : Below w.heap.size w V) => over_any As (some ⟨b, off, none⟩) A' ns cs n c n' c' ss ls tt zq V (hs.up h) (ht.up h) (hI.up h) hn hcap hkc)
        have QQ := Lib.hid (fun V (h : Below w.heap.size w V) => (h.cell (p := ⟨b, off + k, none⟩) hb).trans q1)
        rw [h1] at C1
        have HL := Lib.hid (show (chF (fun j => insB ss (tt.getD j []) zq && !alikeOk ss (tt.getD j []) zq) n).length ≤ 1000000 by have := chF_len (fun j => insB ss (tt.getD j []) zq && !alikeOk ss (tt.getD j []) zq) n; omega)
        generalize chF (fun j => insB ss (tt.getD j []) zq && !alikeOk ss (tt.getD j []) zq) n = L at *
        clear hs ht hcap h1 htl q1 q2 z1 z2 hI hkc
        go_enter Try.func93, Try.ntmps93
        go_wp2_with (first
          | (go_at_call 59; refine C1.out.mono ?_; rintro e w1 ⟨rfl, hB1⟩; have HB1 := Lib.hid hB1; have r1 := QQ.out w1 hB1; clear hB1)
          | (go_at_call 162; refine (CO.out _ HB1.out).mono ?_; rintro e w2 ⟨v, base, rfl, hb2, hown, hB2⟩; obtain ⟨A2, c2, rfl, hI2, hk2⟩ := row_intsk hown HL.out; have HI2 := Lib.hid hI2; have HK2 := Lib.hid hk2; have HB2 := Lib.hid (below_then HB1.out hB2); clear hb2 hown hB2 hI2 hk2))
        go_ret2
        exact ⟨_, _, _, rfl, HI2.out, HK2.out, HB2.out⟩
      · have H : Hid (ovZ ss tt i = ([], 5)) := Lib.hid (by unfold ovZ; rw [h1, if_pos rfl, if_neg (by omega)])
        rw [H.out]
        rw [h1] at C1
        have d1 : decide (i < 0) = false := decide_eq_false (by omega)
        have d2 : decide ((n : Int) ≤ i) = true := decide_eq_true (by omega)
        clear hs ht hn hcap h1 htl
        go_enter Try.func93, Try.ntmps93
        go_wp2_with (go_at_call 59; refine C1.out.mono ?_; rintro e w1 ⟨rfl, hB1⟩; have HB1 := Lib.hid hB1; clear hB1)
        go_ret2
        exact ⟨none, 0, 0, rfl, IntsAt.nil _ _ 0, by omega, HB1.out⟩
    · have H : Hid (ovZ ss tt i = ([], 5)) := Lib.hid (by unfold ovZ; rw [h1, if_pos rfl, if_neg (by omega)])
      rw [H.out]
      rw [h1] at C1
      have d1 : decide (i < 0) = true := decide_eq_true (by omega)
      clear hs ht hn hcap h1 htl
      go_enter Try.func93, Try.ntmps93
      go_wp2_with (go_at_call 59; refine C1.out.mono ?_; rintro e w1 ⟨rfl, hB1⟩; have HB1 := Lib.hid hB1; clear hB1)
      go_ret2
      exact ⟨none, 0, 0, rfl, IntsAt.nil _ _ 0, by omega, HB1.out⟩

end Go.Proofs.Ytgbfccbnbgbknaa

/- Contracts: ascending, IsBase; Base. -/
namespace Go.Proofs.Ytgbfccbnbgbknaa
open Go.RowKit

theorem asc_succ {b : List Int} {n k : Nat} (h : AscP b n k) (h1 : 0 ≤ b.getD k 0) (h2 : b.getD k 0 < (n : Int)) (h3 : 0 < k → b.getD (k - 1) 0 < b.getD k 0) : AscP b n (k + 1) := by
  intro j hj
  by_cases e : j = k
  · subst e; exact ⟨h1, h2, h3⟩
  · exact h j (by omega)

set_option maxRecDepth 100000 in
set_option maxHeartbeats 1000000 in
theorem ascending_any (A : Option Addr) (n c : Nat) (xs : List Int) (m : Nat) (w : World) (B : Nat) (hx : IntsAt w B A n xs) (hm : m ≤ 1000000) :
    Calls Try.prog 164 #[.slice A n c, .int .i64 (m : Int)] w fun e w' => e = .returned (.bool (decide (AscP xs m xs.length))) ∧ w = w' := by
  have HX := Lib.hid hx
  have HLX := Lib.hid hx.len
  have hmx := hx.max
  obtain ⟨R, hR⟩ : ∃ R, decide (AscP xs m xs.length) = R := ⟨_, rfl⟩
  rw [hR]
  have HR := Lib.hid hR
  clear hx hR
  go_enter Try.func164, Try.ntmps164
  go_wp2
  go_loop [5, 10] (fun l i => ∃ (k : Nat) (z : Int), k ≤ n ∧ i = .int .i64 k ∧ l = .int .i64 z ∧ 0 ≤ z ∧ z ≤ (m : Int) ∧ (k = 0 → z = 0) ∧ (0 < k → z = xs.getD (k - 1) 0 + 1) ∧ AscP xs m k) (fun _ i => n - (intOf i).toNat)
  case atStart => exact ⟨0, 0, Nat.zero_le _, rfl, rfl, by omega, by omega, fun _ => rfl, fun h => absurd h (by omega), fun j hj => absurd hj (by omega)⟩
  case round =>
    obtain ⟨k, z, hk, rfl, rfl, hz0, hzm, hza, hzb, hA⟩ := hrel
    by_cases hlt : k < n
    · obtain ⟨b, off, y, rfl, c1, k1, e1⟩ := HX.out.cellAt hlt
      have hget : xs.getD k 0 = y := by rw [List.getD_eq_getElem?_getD, List.getElem?_eq_getElem k1]; exact e1
      have hk0 : (0 : Int) ≤ (k : Int) := by omega
      have hk1 : (k : Int) < (n : Int) := by omega
      by_cases h1 : y < z
      · have H := Lib.hid (show R = false by
          rw [← HR.out]
          refine decide_eq_false fun h => ?_
          have h2 := h k k1
          rw [hget] at h2
          by_cases e : k = 0
          · have := hza e; omega
          · have h3 := h2.2.2 (by omega)
            have := hzb (by omega)
            omega)
        have d1 : decide (y < z) = true := decide_eq_true h1
        clear hA hza hzb e1 hget
        go_wp2
        go_ret
        exact ⟨ret_b H.out.symm, rfl⟩
      · by_cases h2 : (m : Int) ≤ y
        · have H := Lib.hid (show R = false by
            rw [← HR.out]
            refine decide_eq_false fun h => ?_
            have h2 := h k k1
            rw [hget] at h2
            omega)
          have d1 : decide (y < z) = false := decide_eq_false h1
          have d2 : decide ((m : Int) ≤ y) = true := decide_eq_true h2
          clear hA hza hzb e1 hget
          go_wp2
          go_ret
          exact ⟨ret_b H.out.symm, rfl⟩
        · have d1 : decide (y < z) = false := decide_eq_false h1
          have d2 : decide ((m : Int) ≤ y) = false := decide_eq_false h2
          have H := Lib.hid (asc_succ hA (by rw [hget]; omega) (by rw [hget]; omega) (fun h0 => by rw [hget]; have := hzb h0; omega))
          have HG := Lib.hid hget
          clear hA hza hzb e1 hget
          go_wp2
          go_round
          case rel => exact ⟨k + 1, y + 1, by omega, by go_num, rfl, by omega, by omega, fun h => absurd h (by omega), fun _ => by rw [Nat.add_sub_cancel, HG.out], H.out⟩
          case measure => simp [intOf]; omega
    · obtain rfl : k = n := by omega
      have H := Lib.hid (show R = true by rw [← HR.out, ← HLX.out]; exact decide_eq_true hA)
      clear hA hza hzb
      go_wp2
      go_ret
      exact ⟨ret_b H.out.symm, rfl⟩

set_option maxRecDepth 100000 in
set_option maxHeartbeats 1000000 in
theorem isBaseC_any (Bs Bl Bt : Nat) (As At Aq : Option Addr) (ns cs n c nq cq : Nat) (ss : Sg) (ls : List Hd) (tt : List (List Int)) (zq : List Int) (xs : List Int) (w : World)
    (hs : SigAt w w.heap.size As ns ss) (ht : TermsAt w w.heap.size At n ls tt) (hq : IntsAt w w.heap.size Aq nq zq) (hcq : nq ≤ cq ∧ cq ≤ 9223372036854775807)
    (hBs : Bs < w.heap.size) (hBl : Bl < w.heap.size) (hBt : Bt < w.heap.size) (cS : w.cell? ⟨Bs, 0, none⟩ = some (.slice As ns cs)) (cL : w.cell? ⟨Bl, 0, none⟩ = some (.slice At n c)) (cT : w.cell? ⟨Bt, 0, none⟩ = some (.slice Aq nq cq))
    (hxs : ∀ z ∈ xs, 0 ≤ z ∧ z < (n : Int)) :
    AsksI 166 #[.pointer (some ⟨Bs, 0, none⟩), .pointer (some ⟨Bl, 0, none⟩), .pointer (some ⟨Bt, 0, none⟩)] xs (fun z => insB ss (tt.getD z.toNat []) zq) w.heap.size w := by
  intro W z hW _ hz
  obtain ⟨h0, h1⟩ := hxs z hz
  obtain ⟨k, rfl⟩ : ∃ k : Nat, z = (k : Int) := ⟨z.toNat, by omega⟩
  obtain ⟨b, off, A', n', c', rfl, hb, q1, q2⟩ := ht.hds.cellAt (show k < n by omega)
  obtain ⟨t, z1, z2, hI⟩ := ht.at q2
  have rS := (hW.cell (p := ⟨Bs, 0, none⟩) hBs).trans cS
  have rL := (hW.cell (p := ⟨Bl, 0, none⟩) hBl).trans cL
  have rT := (hW.cell (p := ⟨Bt, 0, none⟩) hBt).trans cT
  have r1 := (hW.cell (p := ⟨b, off + k, none⟩) hb).trans q1
  have C := Lib.hid (fun V (h : Below W.heap.size W V) => instance_any As A' Aq ns cs n' c' nq cq ss t zq V ((hs.up hW).up h) (((hI.below hW).more hW.size).up h) ((hq.up hW).up h) hcq.1 hcq.2)
  have RK := Lib.hid (fun V (h : Below W.heap.size W V) => And.intro ((h.cell (p := ⟨Bs, 0, none⟩) (Nat.lt_of_lt_of_le hBs hW.size)).trans rS) (And.intro ((h.cell (p := ⟨Bl, 0, none⟩) (Nat.lt_of_lt_of_le hBl hW.size)).trans rL) (And.intro ((h.cell (p := ⟨b, off + k, none⟩) (Nat.lt_of_lt_of_le hb hW.size)).trans r1) ((h.cell (p := ⟨Bt, 0, none⟩) (Nat.lt_of_lt_of_le hBt hW.size)).trans rT))))
  simp only [Int.toNat_natCast, z2]
  obtain ⟨R, hR⟩ : ∃ R, insB ss t zq = R := ⟨_, rfl⟩
  rw [hR] at C ⊢
  clear hs ht hq hz hI z1 z2 hR q1 q2 cS cL cT hxs
  go_enter Try.func166, Try.ntmps166
  go_wp2_with fail
  go_region_held3 (fun w' => w'.cell? ⟨Bs, 0, none⟩ = some (.slice As ns cs) ∧ w'.cell? ⟨Bl, 0, none⟩ = some (.slice (some ⟨b, off, none⟩) n c) ∧ w'.cell? ⟨b, off + k, none⟩ = some (.slice A' n' c') ∧ w'.cell? ⟨Bt, 0, none⟩ = some (.slice Aq nq cq))
    (first | exact RK.out _ HB1.out | exact ⟨rS, rL, r1, rT⟩ | go_keep)
    ((go_at_call 42; refine (C.out _ ((Below.refl _ _).drew)).mono ?_; rintro e w1 ⟨rfl, hB1⟩; have HB1 := Lib.hid (((Below.refl _ W).drew).trans hB1); clear hB1))
  all_goals
    go_wp2_with fail
    go_ret
    exact ⟨rfl, HB1.out⟩

set_option maxRecDepth 100000 in
set_option maxHeartbeats 1000000 in
theorem baseC_any (Bs Bl : Nat) (As At : Option Addr) (ns cs n c : Nat) (ss : Sg) (ls : List Hd) (tt : List (List Int)) (xs : List Int) (w : World)
    (hs : SigAt w w.heap.size As ns ss) (ht : TermsAt w w.heap.size At n ls tt) (hn : n ≤ 1000000) (hcap : ∀ x ∈ ls, capOk x)
    (hBs : Bs < w.heap.size) (hBl : Bl < w.heap.size) (cS : w.cell? ⟨Bs, 0, none⟩ = some (.slice As ns cs)) (cL : w.cell? ⟨Bl, 0, none⟩ = some (.slice At n c))
    (hxs : ∀ z ∈ xs, 0 ≤ z ∧ z < (n : Int)) :
    AsksI 161 #[.pointer (some ⟨Bs, 0, none⟩), .pointer (some ⟨Bl, 0, none⟩)] xs (fun z => decide (0 < (chF (ovr ss tt z.toNat) tt.length).length)) w.heap.size w := by
  intro W z hW _ hz
  obtain ⟨h0, h1⟩ := hxs z hz
  obtain ⟨k, rfl⟩ : ∃ k : Nat, z = (k : Int) := ⟨z.toNat, by omega⟩
  have htl := ht.len
  obtain ⟨b, off, A', n', c', rfl, hb, q1, q2⟩ := ht.hds.cellAt (show k < n by omega)
  obtain ⟨t, z1, z2, hI⟩ := ht.at q2
  have rS := (hW.cell (p := ⟨Bs, 0, none⟩) hBs).trans cS
  have rL := (hW.cell (p := ⟨Bl, 0, none⟩) hBl).trans cL
  have r1 := (hW.cell (p := ⟨b, off + k, none⟩) hb).trans q1
  have C := Lib.hid (fun V (h : Below W.heap.size W V) => over_any As (some ⟨b, off, none⟩) A' ns cs n c n' c' ss ls tt t V ((hs.up hW).up h) ((ht.up hW).up h) (((hI.below hW).more hW.size).up h) hn hcap (cap_at hcap q2))
  have RK := Lib.hid (fun V (h : Below W.heap.size W V) => And.intro ((h.cell (p := ⟨Bs, 0, none⟩) (Nat.lt_of_lt_of_le hBs hW.size)).trans rS) (And.intro ((h.cell (p := ⟨Bl, 0, none⟩) (Nat.lt_of_lt_of_le hBl hW.size)).trans rL) ((h.cell (p := ⟨b, off + k, none⟩) (Nat.lt_of_lt_of_le hb hW.size)).trans r1)))
  have hov : ovr ss tt k = (fun j => insB ss (tt.getD j []) t && !alikeOk ss (tt.getD j []) t) := by funext j; unfold ovr; rw [z2]
  simp only [Int.toNat_natCast, hov, ← htl]
  have HL := Lib.hid (show (chF (fun j => insB ss (tt.getD j []) t && !alikeOk ss (tt.getD j []) t) n).length ≤ 1000000 by have := chF_len (fun j => insB ss (tt.getD j []) t && !alikeOk ss (tt.getD j []) t) n; omega)
  generalize chF (fun j => insB ss (tt.getD j []) t && !alikeOk ss (tt.getD j []) t) n = L at *
  clear hs ht hz hI z1 z2 q1 q2 cS cL hxs htl hov
  go_enter Try.func161, Try.ntmps161
  go_wp2_with fail
  go_region_held3 (fun w' => w'.cell? ⟨Bs, 0, none⟩ = some (.slice As ns cs) ∧ w'.cell? ⟨Bl, 0, none⟩ = some (.slice (some ⟨b, off, none⟩) n c) ∧ w'.cell? ⟨b, off + k, none⟩ = some (.slice A' n' c'))
    (first | exact RK.out _ HB2.out | exact ⟨rS, rL, r1⟩ | go_keep)
    ((go_at_call 162; refine (C.out _ ((Below.refl _ _).drew)).mono ?_; rintro e w2 ⟨v, base, rfl, hb2, hown, hB2⟩; obtain ⟨A2, c2, rfl, hI2, hk2⟩ := row_intsk hown HL.out; have HB2 := Lib.hid (((Below.refl _ W).drew).trans hB2); clear hb2 hown hB2 hI2 hk2))
  all_goals
    go_wp2_with fail
    go_ret
    exact ⟨ret_b (by simp), HB2.out⟩

/-- What Base hands back. -/
def basZ (ss : Sg) (tt : List (List Int)) : List Int × Int := if shOk ss tt = true then (chF (basP ss tt tt.length) tt.length, 0) else ([], 1)
theorem first_in {ss : Sg} {tt : List (List Int)} : ∀ z ∈ firstL (grpZ ss tt canon).1, 0 ≤ z ∧ z < (tt.length : Int) := by
  intro z hz
  unfold grpZ at hz
  cases h : shOk ss tt
  · rw [h] at hz; simp [firstL] at hz
  · rw [h] at hz
    simp only [if_true] at hz
    rw [firstL_is] at hz
    obtain ⟨i, hi, _, rfl⟩ := chF_mem.1 hz
    omega

set_option maxRecDepth 100000 in
set_option maxHeartbeats 1000000 in
theorem fBase_any (As At : Option Addr) (ns cs n c : Nat) (ss : Sg) (ls : List Hd) (tt : List (List Int)) (w : World) (hs : SigAt w w.heap.size As ns ss) (ht : TermsAt w w.heap.size At n ls tt) (hn : n ≤ 1000000) (hcap : ∀ x ∈ ls, capOk x) :
    Calls Try.prog 89 #[.slice As ns cs, .slice At n c] w (RetK w (basZ ss tt).1 (basZ ss tt).2) := by
  have htl := ht.len
  obtain ⟨W2, hW2⟩ : ∃ W2, (w.alloc (.cells #[.slice As ns cs] 23)).alloc (.cells #[.slice At n c] 49) = W2 := ⟨_, rfl⟩
  have hB0 : Below w.heap.size w W2 := by rw [← hW2]; exact bel_al (bel_al (Below.refl _ w) _) _
  have hsz : W2.heap.size = w.heap.size + 1 + 1 := by rw [← hW2]; simp
  have r0 : W2.cell? ⟨w.heap.size, 0, none⟩ = some (.slice As ns cs) := by rw [← hW2]; simp
  have r1 : W2.cell? ⟨w.heap.size + 1, 0, none⟩ = some (.slice At n c) := by rw [← hW2]; simp
  have C := Lib.hid (firstsB_any As At ns cs n c ss ls tt W2 (hs.up hB0) (ht.up hB0) hn)
  have HFI := Lib.hid (first_in (ss := ss) (tt := tt))
  have CB := Lib.hid (baseC_any w.heap.size (w.heap.size + 1) As At ns cs n c ss ls tt (firstL (grpZ ss tt canon).1) W2 (hs.up hB0) (ht.up hB0) hn hcap (by omega) (by omega) r0 r1 (by rw [htl]; exact HFI.out))
  have HW2 := Lib.hid hW2
  have HB0 := Lib.hid hB0
  obtain ⟨f1, _, f3, f4⟩ := grpZ_facts ss tt canon
  cases hv : shOk ss tt
  · have e2 : grpZ ss tt canon = ([], 1) := by unfold grpZ; rw [hv]; simp
    have H : Hid (basZ ss tt = ([], 1)) := Lib.hid (by unfold basZ; rw [hv]; rfl)
    rw [H.out]
    rw [e2] at C
    clear hs ht hn hcap r0 r1 hsz hB0 hW2 hv e2 f1 f3 f4 htl
    go_enter Try.func89, Try.ntmps89
    go_wp2_with (go_at_call 156; rw [HW2.out]; refine C.out.mono ?_; rintro e w4 ⟨A, m, c1, rfl, _, _, hB4, _⟩; have HB4 := Lib.hid (below_then HB0.out hB4); clear hB4)
    go_ret2
    exact ⟨none, 0, 0, rfl, IntsAt.nil _ _ 0, by omega, HB4.out⟩
  · have e2 : (grpZ ss tt canon).2 = 0 := by unfold grpZ; rw [hv]; rfl
    have H : Hid (basZ ss tt = ((firstL (grpZ ss tt canon).1).filter (fun z => !decide (0 < (chF (ovr ss tt z.toNat) tt.length).length)), 0)) := Lib.hid (by unfold basZ; rw [hv, bas_is hv]; rfl)
    rw [H.out]
    have hfl : (firstL (grpZ ss tt canon).1).length ≤ 60 := by
      have := f4 e2
      simp only [firstL, List.length_map]
      omega
    rw [e2] at C
    generalize firstL (grpZ ss tt canon).1 = L at *
    obtain ⟨p, hp⟩ : ∃ p : Int → Bool, (fun z : Int => decide (0 < (chF (ovr ss tt z.toNat) tt.length).length)) = p := ⟨_, rfl⟩
    have HPF := Lib.hid (show (L.filter fun z => !decide (0 < (chF (ovr ss tt z.toNat) tt.length).length)) = L.filter fun z => !p z by rw [← hp])
    rw [hp] at CB
    rw [HPF.out]
    clear hs ht hn hcap r0 r1 hB0 hW2 hv e2 f1 f3 f4 htl hp
    go_enter Try.func89, Try.ntmps89
    go_wp2_with (first
      | (go_at_call 156; rw [HW2.out]; refine C.out.mono ?_; rintro e w4 ⟨A, m, c1, rfl, hI4, hk4, hB4, hb4⟩; obtain ⟨b4, rfl, hb5, hK4⟩ := hb4 rfl; have HK4 := Lib.hid hK4; have HI4 := Lib.hid hI4.len; have HM := Lib.hid hk4; have HB4 := Lib.hid hB4; have HB5 := Lib.hid hb5; clear hI4 hk4 hB4 hb4 hb5 hK4)
      | (go_at_call 160; refine (deleteFuncI_any 161 #[.pointer (some ⟨w.heap.size, 0, none⟩), .pointer (some ⟨w.heap.size + 1, 0, none⟩)] (enters_of Try.func161 (by kernel_rfl) rfl) b4 m c1 W2.heap.size L p w4 W2 HK4.out HB5.out HI4.out (by rw [HI4.out]; omega) HM.out.1 HM.out.2 HB4.out CB.out).mono ?_; rintro e w5 ⟨m5, rfl, hm5, hI5, hB5⟩; have HI5 := Lib.hid hI5; have HM5 := Lib.hid hm5; have HB6 := Lib.hid (HB0.out.trans ((HB4.out.trans hB5).mono HB0.out.size)); clear hI5 hm5 hB5))
    go_ret2
    exact ⟨_, m5, c1, rfl, HI5.out, ⟨HM5.out, HM.out.2⟩, HB6.out⟩

end Go.Proofs.Ytgbfccbnbgbknaa

namespace Go.Proofs.Ytgbfccbnbgbknaa
open Go.RowKit

theorem all_succ {tt : List (List Int)} {q : List Int → Bool} {k : Nat} {t : List Int} (h : tt[k]? = some t) : (tt.take (k + 1)).all q = ((tt.take k).all q && q t) := by
  obtain ⟨hk, rfl⟩ := List.getElem?_eq_some_iff.1 h
  rw [List.take_succ_eq_append_getElem hk, List.all_append]
  simp

set_option maxRecDepth 100000 in
set_option maxHeartbeats 2000000 in
theorem fIsBase_any (As At Ab : Option Addr) (ns cs n c nb cb : Nat) (ss : Sg) (ls : List Hd) (tt : List (List Int)) (xs : List Int) (w : World)
    (hs : SigAt w w.heap.size As ns ss) (ht : TermsAt w w.heap.size At n ls tt) (hx : IntsAt w w.heap.size Ab nb xs) (hn : n ≤ 1000000) (hcap : ∀ x ∈ ls, capOk x) :
    Calls Try.prog 91 #[.slice As ns cs, .slice At n c, .slice Ab nb cb] w fun e w' => e = .returned (.bool (isbB ss tt xs)) ∧ Below w.heap.size w w' := by
  have htl := ht.len
  obtain ⟨W2, hW2⟩ : ∃ W2, (w.alloc (.cells #[.slice As ns cs] 23)).alloc (.cells #[.slice At n c] 49) = W2 := ⟨_, rfl⟩
  have hB0 : Below w.heap.size w W2 := by rw [← hW2]; exact bel_al (bel_al (Below.refl _ w) _) _
  have hsz : W2.heap.size = w.heap.size + 1 + 1 := by rw [← hW2]; simp
  have r0 : W2.cell? ⟨w.heap.size, 0, none⟩ = some (.slice As ns cs) := by rw [← hW2]; simp
  have r1 : W2.cell? ⟨w.heap.size + 1, 0, none⟩ = some (.slice At n c) := by rw [← hW2]; simp
  have C1 := Lib.hid (fvalid_any As At ns cs n c ss ls tt W2 (hs.up hB0) (ht.up hB0) hn)
  have C2 := Lib.hid (fun V (h : Below W2.heap.size W2 V) => ascending_any Ab nb cb xs n V _ ((hx.up hB0).up h) hn)
  obtain ⟨R, hR⟩ : ∃ R, isbB ss tt xs = R := ⟨_, rfl⟩
  rw [hR]
  have HR := Lib.hid hR
  have HW2 := Lib.hid hW2
  have HB0 := Lib.hid hB0
  cases h1 : shOk ss tt
  · have H := Lib.hid (show R = false by rw [← HR.out]; unfold isbB; rw [h1]; rfl)
    rw [h1] at C1
    clear hs ht hx hn hcap hW2 hB0 hsz r0 r1 h1 htl hR
    go_enter Try.func91, Try.ntmps91
    go_wp2_with (go_at_call 59; rw [HW2.out]; refine C1.out.mono ?_; rintro e w1 ⟨rfl, hB1⟩; have HB1 := Lib.hid (below_then HB0.out hB1); clear hB1)
    go_ret
    exact ⟨ret_b H.out.symm, HB1.out⟩
  · rw [h1] at C1
    have H1 := Lib.hid h1
    by_cases h2 : AscP xs tt.length xs.length
    · have hxs : ∀ z ∈ xs, 0 ≤ z ∧ z < (n : Int) := by
        intro z hz
        obtain ⟨j, hj, e⟩ := List.getElem_of_mem hz
        have := h2 j hj
        rw [List.getD_eq_getElem?_getD, List.getElem?_eq_getElem hj] at this
        rw [Option.getD_some, e] at this
        omega
      rw [show decide (AscP xs n xs.length) = true by rw [htl]; exact decide_eq_true h2] at C2
      have HRR := Lib.hid (show R = tt.all fun t => xs.any fun z => insB ss (tt.getD z.toNat []) t by
        rw [← HR.out]; unfold isbB; rw [H1.out, decide_eq_true h2]; simp)
      have HS := Lib.hid (hs.up hB0)
      have HT := Lib.hid (ht.up hB0)
      have HX := Lib.hid (hx.up hB0)
      have HXS := Lib.hid hxs
      have HC := Lib.hid hcap
      have HSZ := Lib.hid hsz
      have R0 := Lib.hid r0
      have R1 := Lib.hid r1
      have HTL := Lib.hid htl
      clear hs ht hx hcap hW2 hB0 hsz r0 r1 h1 htl hR h2 hxs
      go_enter Try.func91, Try.ntmps91
      go_wp2_with (first
        | (go_at_call 59; rw [HW2.out]; refine C1.out.mono ?_; rintro e w1 ⟨rfl, hB1⟩; have HB1 := Lib.hid hB1; have rL := (hB1.cell (p := ⟨w.heap.size + 1, 0, none⟩) (show w.heap.size + 1 < W2.heap.size by rw [HSZ.out]; omega)).trans R1.out; clear hB1)
        | (go_at_call 164; refine (C2.out _ HB1.out).mono ?_; rintro e w2 ⟨rfl, rfl⟩))
      go_loopw [22] (fun i wr => ∃ k : Nat, k ≤ n ∧ i = .int .i64 k ∧ (tt.take k).all (fun t => xs.any fun z => insB ss (tt.getD z.toNat []) t) = true ∧ Below W2.heap.size W2 wr) (fun i _ => n - (intOf i).toNat)
      case atStart => exact ⟨0, Nat.zero_le _, rfl, by simp, HB1.out⟩
      case round =>
        obtain ⟨k, hk, rfl, hA, hB⟩ := hrel
        by_cases hlt : k < n
        · obtain ⟨b, off, A', n', c', rfl, hb, q1, q2⟩ := HT.out.hds.cellAt hlt
          obtain ⟨t, z1, z2, hI⟩ := HT.out.at q2
          have q3 := (hB.cell (p := ⟨b, off + k, none⟩) hb).trans q1
          have hk0 : (0 : Int) ≤ (k : Int) := by omega
          have hk1 : (k : Int) < (n : Int) := by omega
          obtain ⟨W3, hW3⟩ : ∃ W3, wr.alloc (.cells #[.slice A' n' c'] 25) = W3 := ⟨_, rfl⟩
          have hB3 : Below W2.heap.size W2 W3 := by rw [← hW3]; exact hB.alloc hB.size _
          have hsz3 : W3.heap.size = wr.heap.size + 1 := by rw [← hW3]; simp
          have hszr := hB.size
          have rt : W3.cell? ⟨wr.heap.size, 0, none⟩ = some (.slice A' n' c') := by rw [← hW3]; exact ((Blk.new wr 25 #[.slice A' n' c']).cell 0).trans rfl
          have CC := Lib.hid (containsFuncI_any 166 #[.pointer (some ⟨w.heap.size, 0, none⟩), .pointer (some ⟨w.heap.size + 1, 0, none⟩), .pointer (some ⟨wr.heap.size, 0, none⟩)] (enters_of Try.func166 (by kernel_rfl) rfl) Ab nb cb W3.heap.size xs (fun z => insB ss (tt.getD z.toNat []) t) W3 W3 (HX.out.up hB3) (Below.refl _ _) (Nat.le_refl _)
            (isBaseC_any w.heap.size (w.heap.size + 1) wr.heap.size As (some ⟨b, off, none⟩) A' ns cs n c n' c' ss ls tt t xs W3 (HS.out.up hB3) (HT.out.up hB3) ((hI.below hB3).more hB3.size) (cap_at HC.out q2) (by have := HSZ.out; omega) (by have := HSZ.out; omega) (by omega)
              ((hB3.cell (p := ⟨w.heap.size, 0, none⟩) (show w.heap.size < W2.heap.size by rw [HSZ.out]; omega)).trans R0.out) ((hB3.cell (p := ⟨w.heap.size + 1, 0, none⟩) (show w.heap.size + 1 < W2.heap.size by rw [HSZ.out]; omega)).trans R1.out) rt HXS.out))
          have HSUC := Lib.hid (all_succ (q := fun t => xs.any fun z => insB ss (tt.getD z.toNat []) t) z1)
          have HW3 := Lib.hid hW3
          have HB3 := Lib.hid hB3
          have HA := Lib.hid hA
          have HZ1 := Lib.hid z1
          obtain ⟨q, hq⟩ : ∃ q, (xs.any fun z => insB ss (tt.getD z.toNat []) t) = q := ⟨_, rfl⟩
          have HQ := Lib.hid hq
          simp only [hq] at CC HSUC
          clear q1 q2 z1 z2 hI hA hB hW3 hB3 rt hq
          cases q
          · have H := Lib.hid (show R = false by
              rw [HRR.out]
              cases e : (tt.all fun t => xs.any fun z => insB ss (tt.getD z.toNat []) t)
              · rfl
              · have h9 := List.all_eq_true.1 e t (List.mem_of_getElem? HZ1.out)
                rw [HQ.out] at h9; cases h9)
            go_wp2_with (go_at_call 165; rw [HW3.out]; refine CC.out.mono ?_; rintro e w5 ⟨rfl, hB5⟩; have HB5 := Lib.hid (HB0.out.trans ((below_then HB3.out hB5).mono HB0.out.size)); clear hB5)
            go_ret
            exact ⟨ret_b H.out.symm, HB5.out⟩
          · go_wp2_with (go_at_call 165; rw [HW3.out]; refine CC.out.mono ?_; rintro e w5 ⟨rfl, hB5⟩; have HB5 := Lib.hid (below_then HB3.out hB5); clear hB5)
            go_roundw
            case rel => exact ⟨k + 1, by omega, by go_num, by rw [HSUC.out, HA.out]; rfl, HB5.out⟩
            case measure => simp [intOf]; omega
        · obtain rfl : k = n := by omega
          have H := Lib.hid (show R = true by
            rw [HRR.out]
            rw [List.take_of_length_le (by rw [← HTL.out]; exact Nat.le_refl _)] at hA
            exact hA)
          have HBW := Lib.hid (HB0.out.trans (hB.mono HB0.out.size))
          clear hA hB
          go_wp2
          go_ret
          exact ⟨ret_b H.out.symm, HBW.out⟩
    · rw [show decide (AscP xs n xs.length) = false by rw [htl]; exact decide_eq_false h2] at C2
      have H := Lib.hid (show R = false by rw [← HR.out]; unfold isbB; rw [H1.out, decide_eq_false h2]; rfl)
      have R1 := Lib.hid r1
      have HSZ := Lib.hid hsz
      clear hs ht hx hn hcap hW2 hB0 hsz r0 r1 h1 htl hR h2
      go_enter Try.func91, Try.ntmps91
      go_wp2_with (first
        | (go_at_call 59; rw [HW2.out]; refine C1.out.mono ?_; rintro e w1 ⟨rfl, hB1⟩; have HB1 := Lib.hid hB1; have rL := (hB1.cell (p := ⟨w.heap.size + 1, 0, none⟩) (show w.heap.size + 1 < W2.heap.size by rw [HSZ.out]; omega)).trans R1.out; clear hB1)
        | (go_at_call 164; refine (C2.out _ HB1.out).mono ?_; rintro e w2 ⟨rfl, rfl⟩))
      go_ret
      exact ⟨ret_b H.out.symm, HB0.out.trans (HB1.out.mono HB0.out.size)⟩

end Go.Proofs.Ytgbfccbnbgbknaa
