/- Contract: the reference's AllValid. -/
import Derived.Test.YtgbfccbnbgbknaaO3g
import Derived.Test.YtgbfccbnbgbknaaW0g
import Derived.Test.YtgbfccbnbgbknaaF3g
import Derived.Test.YtgbfccbnbgbknaaQ5g
import Derived.Laws.OwnMore
/- Words: a list of terms in memory; what Built makes. -/
namespace Go.Proofs.Ytgbfccbnbgbknaa
open Go.RowKit

/-- The slice value '.slice A n c' reads as the terms tt; their headers are ls. -/
structure TermsAt (w : World) (B : Nat) (A : Option Addr) (n : Nat) (ls : List Hd) (tt : List (List Int)) : Prop where
  hds : HdsAt w B A n ls
  len : n = tt.length
  each : ∀ j (h : j < ls.length) (h' : j < tt.length), IntsAt w B ls[j].1 ls[j].2.1 tt[j]
theorem TermsAt.keep {w w' : World} {B n : Nat} {A : Option Addr} {ls : List Hd} {tt : List (List Int)} (h : TermsAt w B A n ls tt) (hk : ∀ p : Addr, p.block < B → w'.cell? p = w.cell? p) : TermsAt w' B A n ls tt :=
  ⟨h.hds.keep hk, h.len, fun j a b => (h.each j a b).keep hk⟩
theorem TermsAt.more {w : World} {B B' n : Nat} {A : Option Addr} {ls : List Hd} {tt : List (List Int)} (h : TermsAt w B A n ls tt) (hB : B ≤ B') : TermsAt w B' A n ls tt :=
  ⟨h.hds.more hB, h.len, fun j a b => (h.each j a b).more hB⟩
theorem TermsAt.below {w w' : World} {B n : Nat} {A : Option Addr} {ls : List Hd} {tt : List (List Int)} (h : TermsAt w B A n ls tt) (hb : Below B w w') : TermsAt w' B A n ls tt := h.keep fun _ hp => hb.cell hp
theorem TermsAt.up {w w' : World} {n : Nat} {A : Option Addr} {ls : List Hd} {tt : List (List Int)} (h : TermsAt w w.heap.size A n ls tt) (hb : Below w.heap.size w w') : TermsAt w' w'.heap.size A n ls tt := (h.below hb).more hb.size
theorem TermsAt.cellAt {w : World} {B n : Nat} {A : Option Addr} {ls : List Hd} {tt : List (List Int)} (h : TermsAt w B A n ls tt) {k : Nat} (hk : k < n) :
    ∃ b off A' n' c' t', A = some ⟨b, off, none⟩ ∧ b < B ∧ w.cell? ⟨b, off + k, none⟩ = some (.slice A' n' c') ∧ tt[k]? = some t' ∧ IntsAt w B A' n' t' := by
  obtain ⟨b, off, e, hb, hc⟩ := h.hds.mem (by omega)
  have h1 : k < ls.length := by rw [← h.hds.len]; exact hk
  have h2 : k < tt.length := by rw [← h.len]; exact hk
  exact ⟨b, off, ls[k].1, ls[k].2.1, ls[k].2.2, tt[k], e, hb, hc k h1, List.getElem?_eq_getElem h2, h.each k h1 h2⟩

/-- What Built returns, and its error. -/
def builtR (ss : Sg) (sy : Int) (tt : List (List Int)) : List Int × Int :=
  if (sigOk ss && tt.all (termOk ss)) = false then ([], 1)
  else if sy < 0 ∨ (ss.length : Int) ≤ sy then ([], 5)
  else if tt.length ≠ arOf ss sy then ([], 9)
  else if 60 < (sy :: tt.flatten).length then ([], 4) else (sy :: tt.flatten, 0)
def okTo (ss : Sg) (tt : List (List Int)) (k : Nat) : Prop := (tt.take k).all (termOk ss) = true
theorem okTo_zero (ss : Sg) (tt : List (List Int)) : okTo ss tt 0 := rfl
theorem okTo_succ {ss : Sg} {tt : List (List Int)} {k : Nat} {t : List Int} (h : okTo ss tt k) (ht : tt[k]? = some t) (e : termOk ss t = true) : okTo ss tt (k + 1) := by
  obtain ⟨hk, rfl⟩ := List.getElem?_eq_some_iff.1 ht
  unfold okTo at h ⊢
  rw [List.take_succ_eq_append_getElem hk, List.all_append, h]
  simp [e]
theorem all_bad {ss : Sg} {tt : List (List Int)} {k : Nat} {t : List Int} (ht : tt[k]? = some t) (e : termOk ss t = false) : tt.all (termOk ss) = false := by
  rw [List.all_eq_false]
  exact ⟨t, List.mem_of_getElem? ht, by simp [e]⟩
theorem okTo_all {ss : Sg} {tt : List (List Int)} {k : Nat} (h : okTo ss tt k) (hk : tt.length ≤ k) : tt.all (termOk ss) = true := by
  unfold okTo at h
  rwa [List.take_of_length_le hk] at h
theorem builtR_bad {ss : Sg} {sy : Int} {tt : List (List Int)} (h : (sigOk ss && tt.all (termOk ss)) = false) : builtR ss sy tt = ([], 1) := by
  unfold builtR
  rw [if_pos h]
theorem builtR_name {ss : Sg} {sy : Int} {tt : List (List Int)} (h : (sigOk ss && tt.all (termOk ss)) = true) (h2 : sy < 0 ∨ (ss.length : Int) ≤ sy) : builtR ss sy tt = ([], 5) := by
  unfold builtR
  rw [if_neg (by simp [h]), if_pos h2]
theorem builtR_size {ss : Sg} {sy : Int} {tt : List (List Int)} (h : (sigOk ss && tt.all (termOk ss)) = true) (h2 : ¬ (sy < 0 ∨ (ss.length : Int) ≤ sy)) (h3 : tt.length ≠ arOf ss sy) : builtR ss sy tt = ([], 9) := by
  unfold builtR
  rw [if_neg (by simp [h]), if_neg h2, if_pos h3]
theorem builtR_limit {ss : Sg} {sy : Int} {tt : List (List Int)} (h : (sigOk ss && tt.all (termOk ss)) = true) (h2 : ¬ (sy < 0 ∨ (ss.length : Int) ≤ sy)) (h3 : tt.length = arOf ss sy) (h4 : 60 < (sy :: tt.flatten).length) : builtR ss sy tt = ([], 4) := by
  unfold builtR
  rw [if_neg (by simp [h]), if_neg h2, if_neg (by simp [h3]), if_pos h4]
theorem builtR_good {ss : Sg} {sy : Int} {tt : List (List Int)} (h : (sigOk ss && tt.all (termOk ss)) = true) (h2 : ¬ (sy < 0 ∨ (ss.length : Int) ≤ sy)) (h3 : tt.length = arOf ss sy) (h4 : ¬ 60 < (sy :: tt.flatten).length) : builtR ss sy tt = (sy :: tt.flatten, 0) := by
  unfold builtR
  rw [if_neg (by simp [h]), if_neg h2, if_neg (by simp [h3]), if_neg h4]

/-- The symbol and the first arguments. -/
def catTo (sy : Int) (tt : List (List Int)) (k : Nat) : List Int := sy :: (tt.take k).flatten
theorem catTo_zero (sy : Int) (tt : List (List Int)) : catTo sy tt 0 = [sy] := rfl
theorem catTo_succ {sy : Int} {tt : List (List Int)} {k : Nat} {t : List Int} (h : tt[k]? = some t) : catTo sy tt (k + 1) = catTo sy tt k ++ t := by
  obtain ⟨hk, rfl⟩ := List.getElem?_eq_some_iff.1 h
  unfold catTo
  rw [List.take_succ_eq_append_getElem hk, List.flatten_append]
  simp
theorem catTo_all {sy : Int} {tt : List (List Int)} {k : Nat} (h : tt.length ≤ k) : catTo sy tt k = sy :: tt.flatten := by
  unfold catTo
  rw [List.take_of_length_le h]
theorem termOk_len {ss : Sg} {t : List Int} (h : termOk ss t = true) : 1 ≤ t.length ∧ t.length ≤ 60 := by
  simp only [termOk, Bool.and_eq_true, decide_eq_true_eq] at h
  exact ⟨h.1, h.2.1⟩
theorem flatten_le (ss : Sg) : ∀ (tt : List (List Int)), tt.all (termOk ss) = true → tt.flatten.length ≤ 60 * tt.length
  | [], _ => by simp
  | t :: r, h => by
    simp only [List.all_cons, Bool.and_eq_true] at h
    have := termOk_len h.1
    have := flatten_le ss r h.2
    simp only [List.flatten_cons, List.length_append, List.length_cons]
    omega
theorem catTo_le {ss : Sg} {sy : Int} {tt : List (List Int)} (h : tt.all (termOk ss) = true) (k : Nat) : (catTo sy tt k).length ≤ 60 * tt.length + 1 := by
  have h1 := flatten_le ss (tt.take k) (by
    rw [List.all_eq_true] at h ⊢
    exact fun x hx => h x (List.mem_of_mem_take hx))
  have h2 : (tt.take k).length ≤ tt.length := by rw [List.length_take]; omega
  unfold catTo
  simp only [List.length_cons]
  have : 60 * (tt.take k).length ≤ 60 * tt.length := Nat.mul_le_mul_left _ h2
  omega

/-- A slice's numbers as they are appended. -/
theorem ints_news {W : World} {B n : Nat} {A : Option Addr} {t : List Int} {b off : Nat} (h : IntsAt W B A n t) (e : A = some ⟨b, off, none⟩) (hn : 0 < n) : ∀ j u, (t.map (Value.int .i64))[j]? = some u → W.cell? ((⟨b, off, none⟩ : Addr).add j) = some u := by
  intro j u hu
  obtain ⟨b', off', e', _, hc⟩ := h.mem hn
  rw [e] at e'
  cases e'
  rw [add0]
  simp only [List.getElem?_map, Option.map_eq_some_iff] at hu
  obtain ⟨z, hz, rfl⟩ := hu
  obtain ⟨hj, rfl⟩ := List.getElem?_eq_some_iff.1 hz
  exact hc j hj
theorem ints_one (t : List Int) : ∀ u ∈ t.map (Value.int .i64), u.oneCell' = true := by
  intro u hu
  obtain ⟨z, _, rfl⟩ := List.mem_map.1 hu
  rfl

end Go.Proofs.Ytgbfccbnbgbknaa

namespace Go.Proofs.Ytgbfccbnbgbknaa
open Go.RowKit

theorem valOk_of {ss : Sg} (h : sigOk ss = true) (t : List Int) : valOk ss t = termOk ss t := by simp [valOk, h]

set_option maxRecDepth 100000 in
set_option maxHeartbeats 1000000 in
theorem allValid_any (As At : Option Addr) (ns cs n c : Nat) (ss : Sg) (ls : List Hd) (tt : List (List Int)) (w : World) (B : Nat) (hs : SigAt w B As ns ss) (ht : TermsAt w B At n ls tt) (hn : n ≤ 1000000) (hv : sigOk ss = true) :
    Calls Try.prog 132 #[.slice As ns cs, .slice At n c] w fun e w' => e = .returned (.bool (tt.all (termOk ss))) ∧ ∃ k, w' = w.drewN k := by
  have HT := Lib.hid ht
  have HLT := Lib.hid ht.len
  have HVO := Lib.hid (valOk_of hv)
  have CV := Lib.hid (fun (m : Nat) A' n' c' t (hI : IntsAt w B A' n' t) => refValid_any As A' ns cs n' c' ss t (w.drewN m) B (hs.keep fun _ _ => rfl) (hI.keep fun _ _ => rfl))
  obtain ⟨R, hR⟩ : ∃ R, tt.all (termOk ss) = R := ⟨_, rfl⟩
  rw [hR]
  have HR := Lib.hid hR
  clear ht hs hv hR
  go_enter Try.func132, Try.ntmps132
  go_wp2
  go_loopw [5] (fun i wr => ∃ k : Nat, k ≤ n ∧ i = .int .i64 k ∧ okTo ss tt k ∧ ∃ m, wr = w.drewN m) (fun i _ => n - (intOf i).toNat)
  case atStart => exact ⟨0, Nat.zero_le _, rfl, okTo_zero _ _, 0, rfl⟩
  case round =>
    obtain ⟨k, hk, rfl, hok, m, rfl⟩ := hrel
    by_cases hlt : k < n
    · obtain ⟨b, off, A', n', c', t, rfl, hb, q1, q2, hI⟩ := HT.out.cellAt hlt
      have hk0 : (0 : Int) ≤ (k : Int) := by omega
      have hk1 : (k : Int) < (n : Int) := by omega
      have C := Lib.hid (fun c'' => CV.out m A' n' c'' t hI)
      rw [HVO.out] at C
      cases hto : termOk ss t
      · have H := Lib.hid (show R = false by rw [← HR.out]; exact all_bad q2 hto)
        rw [hto] at C
        clear q2 hI hto hok
        go_wp2_with (go_at_call 101; refine (C.out _).mono ?_; rintro e w3 ⟨rfl, j3, rfl⟩)
        go_ret
        exact ⟨ret_b H.out.symm, _, rfl⟩
      · have H := Lib.hid (okTo_succ hok q2 hto)
        rw [hto] at C
        clear q2 hI hto hok
        go_wp2_with (go_at_call 101; refine (C.out _).mono ?_; rintro e w3 ⟨rfl, j3, rfl⟩)
        go_roundw
        case rel => exact ⟨k + 1, by omega, by go_num, H.out, _, rfl⟩
        case measure => simp [intOf]; omega
    · obtain rfl : k = n := by omega
      have H := Lib.hid (show R = true by rw [← HR.out]; exact okTo_all hok (by rw [← HLT.out]; exact Nat.le_refl _))
      clear hok
      go_wp2
      go_ret
      exact ⟨ret_b H.out.symm, _, rfl⟩

end Go.Proofs.Ytgbfccbnbgbknaa
