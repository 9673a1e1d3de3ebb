/- Contract: ValidBinds. -/
import Derived.Test.YtojofbmpknpggaaB4g
import Derived.Test.YtojofbmpknpggaaV1g
import Derived.Test.YtojofbmpknpggaaG3g
import Derived.Deep.RegionHeld3
import Derived.Deep.RegionHeldLaw
import Derived.Deep.CutRange
import Derived.BigQuiet
/- Words for binds in memory; contracts: valid, variable, isVariable, comes. -/
namespace Go.Proofs.Ytojofbmpknpggaa
open Go.RowKit

/-- A bind: the variable and the term. -/
abbrev Bd := Int × List Int
/-- The slice value '.slice A n c' reads as the binds bb; the headers of their terms are ls. -/
structure BindsAt (w : World) (B : Nat) (A : Option Addr) (n : Nat) (ls : List Hd) (bb : List Bd) : Prop where
  len : n = bb.length
  ll : n = ls.length
  max : n ≤ 9223372036854775807
  mem : 0 < n → ∃ b off, A = some ⟨b, off, none⟩ ∧ b < B ∧ ∀ j (h : j < bb.length) (h' : j < ls.length), w.cell? ⟨b, off + j * 2, none⟩ = some (.int .i64 bb[j].1) ∧ w.cell? ⟨b, off + j * 2 + 1, none⟩ = some (.slice ls[j].1 ls[j].2.1 ls[j].2.2)
  each : ∀ j (h : j < ls.length) (h' : j < bb.length), IntsAt w B ls[j].1 ls[j].2.1 bb[j].2
section
variable {w w' : World} {B B' n : Nat} {A : Option Addr} {ls : List Hd} {bb : List Bd}
theorem BindsAt.keep (h : BindsAt w B A n ls bb) (hk : ∀ p : Addr, p.block < B → w'.cell? p = w.cell? p) : BindsAt w' B A n ls bb :=
  ⟨h.len, h.ll, h.max, fun hn => by
    obtain ⟨b, off, e, hb, hc⟩ := h.mem hn
    exact ⟨b, off, e, hb, fun j x y => ⟨(hk _ hb).trans (hc j x y).1, (hk _ hb).trans (hc j x y).2⟩⟩, fun j x y => (h.each j x y).keep hk⟩
theorem BindsAt.more (h : BindsAt w B A n ls bb) (hB : B ≤ B') : BindsAt w B' A n ls bb :=
  ⟨h.len, h.ll, h.max, fun hn => by
    obtain ⟨b, off, e, hb, hc⟩ := h.mem hn
    exact ⟨b, off, e, by omega, hc⟩, fun j x y => (h.each j x y).more hB⟩
theorem BindsAt.below (h : BindsAt w B A n ls bb) (hb : Below B w w') : BindsAt w' B A n ls bb := h.keep fun _ hp => hb.cell hp
theorem BindsAt.up (h : BindsAt w w.heap.size A n ls bb) (hb : Below w.heap.size w w') : BindsAt w' w'.heap.size A n ls bb := (h.below hb).more hb.size
theorem BindsAt.cellAt (h : BindsAt w B A n ls bb) {k : Nat} (hk : k < n) :
    ∃ b off v t A' n' c', A = some ⟨b, off, none⟩ ∧ b < B ∧ w.cell? ⟨b, off + k * 2, none⟩ = some (.int .i64 v) ∧ w.cell? ⟨b, off + k * 2 + 1, none⟩ = some (.slice A' n' c') ∧ bb[k]? = some (v, t) ∧ ls[k]? = some (A', n', c') ∧ IntsAt w B A' n' t := by
  obtain ⟨b, off, e, hb, hc⟩ := h.mem (by omega)
  have h1 : k < bb.length := by rw [← h.len]; exact hk
  have h2 : k < ls.length := by rw [← h.ll]; exact hk
  obtain ⟨c1, c2⟩ := hc k h1 h2
  exact ⟨b, off, bb[k].1, bb[k].2, ls[k].1, ls[k].2.1, ls[k].2.2, e, hb, c1, c2, List.getElem?_eq_getElem h1, List.getElem?_eq_getElem h2, h.each k h2 h1⟩
end

def valTo (ss : Sg) (tt : List (List Int)) (k : Nat) : Prop := (tt.take k).all (valOk ss) = true
theorem valTo_zero (ss : Sg) (tt : List (List Int)) : valTo ss tt 0 := rfl
theorem valTo_succ {ss : Sg} {tt : List (List Int)} {k : Nat} {t : List Int} (h : valTo ss tt k) (ht : tt[k]? = some t) (e : valOk ss t = true) : valTo ss tt (k + 1) := by
  obtain ⟨hk, rfl⟩ := List.getElem?_eq_some_iff.1 ht
  unfold valTo at h ⊢
  rw [List.take_succ_eq_append_getElem hk, List.all_append, h]
  simp [e]
theorem val_bad' {ss : Sg} {tt : List (List Int)} {k : Nat} {t : List Int} (ht : tt[k]? = some t) (e : valOk ss t = false) : tt.all (valOk ss) = false := by
  rw [List.all_eq_false]
  exact ⟨t, List.mem_of_getElem? ht, by simp [e]⟩
theorem valTo_all {ss : Sg} {tt : List (List Int)} {k : Nat} (h : valTo ss tt k) (hk : tt.length ≤ k) : tt.all (valOk ss) = true := by
  unfold valTo at h
  rwa [List.take_of_length_le hk] at h

set_option maxRecDepth 100000 in
set_option maxHeartbeats 1000000 in
theorem uvalid_any (As At : Option Addr) (ns cs n c : Nat) (ss : Sg) (ls : List Hd) (tt : List (List Int)) (w : World) (hs : SigAt w w.heap.size As ns ss) (ht : TermsAt w w.heap.size At n ls tt) (hn : n ≤ 1000000) :
    Calls Try.prog 98 #[.slice As ns cs, .slice At n c] w fun e w' => e = .returned (.bool (tt.all (valOk ss) && sigOk ss)) ∧ Below w.heap.size w w' := by
  have HT := Lib.hid ht
  have HLT := Lib.hid ht.len
  have CV := Lib.hid (fun V (hb : Below w.heap.size w V) A' n' c' t (hI : IntsAt V V.heap.size A' n' t) => valid_any As A' ns cs n' c' ss t V (hs.up hb) hI)
  have CS := Lib.hid (fun V (hb : Below w.heap.size w V) => validSign_any As ns cs ss V (hs.up hb))
  obtain ⟨R, hR⟩ : ∃ R, tt.all (valOk ss) = R := ⟨_, rfl⟩
  rw [hR]
  have HR := Lib.hid hR
  clear ht hs hR
  go_enter Try.func98, Try.ntmps98
  go_wp2
  go_loopw [9] (fun i wr => ∃ k : Nat, k ≤ n ∧ i = .int .i64 k ∧ valTo ss tt k ∧ Below w.heap.size w wr) (fun i _ => n - (intOf i).toNat)
  case atStart => exact ⟨0, Nat.zero_le _, rfl, valTo_zero _ _, Below.refl _ _⟩
  case round =>
    obtain ⟨k, hk, rfl, hok, hB⟩ := hrel
    have HB := Lib.hid hB
    by_cases hlt : k < n
    · obtain ⟨b, off, A', n', c', t, rfl, hb, q1, q2, hI⟩ := HT.out.cellAt hlt
      have q3 := (hB.cell (p := ⟨b, off + k, none⟩) hb).trans q1
      have hk0 : (0 : Int) ≤ (k : Int) := by omega
      have hk1 : (k : Int) < (n : Int) := by omega
      have C := Lib.hid (fun c'' => CV.out wr hB A' n' c'' t ((hI.below hB).more hB.size))
      cases hto : valOk ss t
      · have H := Lib.hid (show R = false by rw [← HR.out]; exact val_bad' q2 hto)
        rw [hto] at C
        clear q1 q2 hI hto hok hB
        go_wp2_with (go_at_call 70; refine (C.out _).mono ?_; rintro e w3 ⟨rfl, hB3⟩; have HB3 := Lib.hid (below_then HB.out hB3); clear hB3)
        go_ret
        exact ⟨ret_b (by rw [H.out]; rfl), HB3.out⟩
      · have H := Lib.hid (valTo_succ hok q2 hto)
        rw [hto] at C
        clear q1 q2 hI hto hok hB
        go_wp2_with (go_at_call 70; refine (C.out _).mono ?_; rintro e w3 ⟨rfl, hB3⟩; have HB3 := Lib.hid (below_then HB.out hB3); clear hB3)
        go_roundw
        case rel => exact ⟨k + 1, by omega, by go_num, H.out, HB3.out⟩
        case measure => simp [intOf]; omega
    · obtain rfl : k = n := by omega
      have H := Lib.hid (show R = true by rw [← HR.out]; exact valTo_all hok (by rw [← HLT.out]; exact Nat.le_refl _))
      have C := Lib.hid (CS.out wr hB)
      obtain ⟨sb, hsb⟩ : ∃ sb, sigOk ss = sb := ⟨_, rfl⟩
      rw [hsb] at C
      have HSB := Lib.hid hsb
      clear hok hB hsb
      go_wp2_with (go_at_call 69; refine C.out.mono ?_; rintro e w3 ⟨rfl, hB3⟩; have HB3 := Lib.hid (below_then HB.out hB3); clear hB3)
      go_ret
      exact ⟨ret_b (by rw [H.out, HSB.out]; rfl), HB3.out⟩

theorem ints_var (w : World) (z : Int) : IntsAt (w.alloc (.cells #[.int .i64 z] 3)) (w.alloc (.cells #[.int .i64 z] 3)).heap.size (some ⟨w.heap.size, 0, none⟩) 1 [z] :=
  IntsAt.of_blk (zs := [z]) (Blk.new w _ _) rfl (by simp)

end Go.Proofs.Ytojofbmpknpggaa

namespace Go.Proofs.Ytojofbmpknpggaa
open Go.RowKit

def bindsTo (ss : Sg) : Int → List Bd → Bool
  | _, [] => sigOk ss
  | p, x :: r => decide (p < x.1) && (decide (x.1 < 12) && (valOk ss x.2 && (!decide (x.2 = [-x.1 - 1]) && bindsTo ss x.1 r)))
def bindsOk (ss : Sg) (bb : List Bd) : Bool := bindsTo ss (-1) bb
/-- What is left to be asked behind k binds, the last of which bound p. -/
def BGoes (ss : Sg) (bb : List Bd) (k : Nat) (p : Int) : Prop := bindsTo ss p (bb.drop k) = bindsOk ss bb
section
variable {ss : Sg} {bb : List Bd} {k : Nat} {p v : Int} {t : List Int}
theorem BGoes.zero (ss : Sg) (bb : List Bd) : BGoes ss bb 0 (-1) := rfl
theorem BGoes.cons (h : BGoes ss bb k p) (hk : bb[k]? = some (v, t)) : bindsOk ss bb = (decide (p < v) && (decide (v < 12) && (valOk ss t && (!decide (t = [-v - 1]) && bindsTo ss v (bb.drop (k + 1)))))) := by
  obtain ⟨hk, e⟩ := List.getElem?_eq_some_iff.1 hk
  unfold BGoes at h
  rw [← h, List.drop_eq_getElem_cons hk, e]
  rfl
theorem BGoes.succ (h : BGoes ss bb k p) (hk : bb[k]? = some (v, t)) (h1 : p < v) (h2 : v < 12) (h3 : valOk ss t = true) (h4 : ¬ t = [-v - 1]) : BGoes ss bb (k + 1) v := by
  rw [BGoes, h.cons hk]
  simp [h1, h2, h3, h4]
theorem BGoes.good (h : BGoes ss bb k p) (hk : bb.length ≤ k) : bindsOk ss bb = sigOk ss := by
  rw [← h, List.drop_of_length_le hk]; rfl
end

theorem bel_al {w w' : World} (h : Below w.heap.size w w') (o : Obj) : Below w.heap.size w (w'.alloc o) := h.alloc h.size o
end Go.Proofs.Ytojofbmpknpggaa
