/- Contract: Shaped. -/
import Derived.Test.YtgbfccbnbgbknaaN13g
import Derived.Test.YtgbfccbnbgbknaaB0g
import Derived.Test.YtgbfccbnbgbknaaB4g
import Derived.Shelf.Abstract
import Derived.Laws.OwnMore
import Derived.Test.YtgbfccbnbgbknaaN34g
import Derived.Test.YtgbfccbnbgbknaaQ5g
import Derived.Test.YtgbfccbnbgbknaaL2g
/- Contracts: find.Valid; chosen and searched, whatever is asked. -/
namespace Go.Proofs.Ytgbfccbnbgbknaa
open Go.RowKit

/-- Whether a shelf is valid. -/
def shOk (ss : Sg) (tt : List (List Int)) : Bool := decide (1 ≤ tt.length ∧ tt.length ≤ 60) && tt.all (valOk ss)
theorem shOk_len {ss : Sg} {tt : List (List Int)} (h : shOk ss tt = true) : 1 ≤ tt.length ∧ tt.length ≤ 60 := by
  unfold shOk at h
  rw [Bool.and_eq_true, decide_eq_true_eq] at h
  exact h.1
theorem shOk_each {ss : Sg} {tt : List (List Int)} (h : shOk ss tt = true) {k : Nat} {t : List Int} (hk : tt[k]? = some t) : valOk ss t = true := by
  unfold shOk at h
  rw [Bool.and_eq_true, List.all_eq_true] at h
  exact h.2 _ (List.mem_of_getElem? hk)

set_option maxRecDepth 100000 in
set_option maxHeartbeats 1000000 in
theorem fvalid_any (As At : Option Addr) (ns cs n c : Nat) (ss : Sg) (ls : List Hd) (tt : List (List Int)) (w : World) (hs : SigAt w w.heap.size As ns ss) (ht : TermsAt w w.heap.size At n ls tt) (hn : n ≤ 1000000) :
    Calls Try.prog 59 #[.slice As ns cs, .slice At n c] w fun e w' => e = .returned (.bool (shOk ss tt)) ∧ Below w.heap.size w w' := by
  have HT := Lib.hid ht
  have HLT := Lib.hid ht.len
  have CV := Lib.hid (fun V (hb : Below w.heap.size w V) A' n' c' t (hI : IntsAt V V.heap.size A' n' t) => valid_any As A' ns cs n' c' ss t V (hs.up hb) hI)
  obtain ⟨R, hR⟩ : ∃ R, shOk ss tt = R := ⟨_, rfl⟩
  rw [hR]
  have HR := Lib.hid hR
  clear ht hs hR
  by_cases h1 : n < 1
  · have H := Lib.hid (show R = false by rw [← HR.out]; unfold shOk; rw [decide_eq_false (by have := HLT.out; omega)]; rfl)
    have d1 : decide ((n : Int) < 1) = true := decide_eq_true (by omega)
    go_enter Try.func59, Try.ntmps59
    go_wp2
    go_ret
    exact ⟨ret_b H.out.symm, Below.refl _ _⟩
  · by_cases h2 : 60 < n
    · have H := Lib.hid (show R = false by rw [← HR.out]; unfold shOk; rw [decide_eq_false (by have := HLT.out; omega)]; rfl)
      have d1 : decide ((n : Int) < 1) = false := decide_eq_false (by omega)
      have d2 : decide ((60 : Int) < (n : Int)) = true := decide_eq_true (by omega)
      go_enter Try.func59, Try.ntmps59
      go_wp2
      go_ret
      exact ⟨ret_b H.out.symm, Below.refl _ _⟩
    · have d1 : decide ((n : Int) < 1) = false := decide_eq_false (by omega)
      have d2 : decide ((60 : Int) < (n : Int)) = false := decide_eq_false (by omega)
      go_enter Try.func59, Try.ntmps59
      go_wp2
      go_loopw [17] (fun i wr => ∃ k : Nat, k ≤ n ∧ i = .int .i64 k ∧ valTo ss tt k ∧ Below w.heap.size w wr) (fun i _ => n - (intOf i).toNat)
      case atStart => exact ⟨0, Nat.zero_le _, rfl, valTo_zero _ _, Below.refl _ _⟩
      case round =>
        obtain ⟨k, hk, rfl, hok, hB⟩ := hrel
        have HB := Lib.hid hB
        by_cases hlt : k < n
        · obtain ⟨b, off, A', n', c', t, rfl, hb, q1, q2, hI⟩ := HT.out.cellAt hlt
          have q3 := (hB.cell (p := ⟨b, off + k, none⟩) hb).trans q1
          have hk0 : (0 : Int) ≤ (k : Int) := by omega
          have hk1 : (k : Int) < (n : Int) := by omega
          have C := Lib.hid (fun c'' => CV.out wr hB A' n' c'' t ((hI.below hB).more hB.size))
          cases hto : valOk ss t
          · have H := Lib.hid (show R = false by rw [← HR.out]; unfold shOk; rw [val_bad' q2 hto]; simp)
            rw [hto] at C
            clear q1 q2 hI hto hok hB
            go_wp2_with (go_at_call 99; refine (C.out _).mono ?_; rintro e w3 ⟨rfl, hB3⟩; have HB3 := Lib.hid (below_then HB.out hB3); clear hB3)
            go_ret
            exact ⟨ret_b H.out.symm, HB3.out⟩
          · have H := Lib.hid (valTo_succ hok q2 hto)
            rw [hto] at C
            clear q1 q2 hI hto hok hB
            go_wp2_with (go_at_call 99; refine (C.out _).mono ?_; rintro e w3 ⟨rfl, hB3⟩; have HB3 := Lib.hid (below_then HB.out hB3); clear hB3)
            go_roundw
            case rel => exact ⟨k + 1, by omega, by go_num, H.out, HB3.out⟩
            case measure => simp [intOf]; omega
        · obtain rfl : k = n := by omega
          have H := Lib.hid (show R = true by rw [← HR.out]; unfold shOk; rw [valTo_all hok (by rw [← HLT.out]; exact Nat.le_refl _), decide_eq_true (by have := HLT.out; omega)]; rfl)
          clear hok hB
          go_wp2
          go_ret
          exact ⟨ret_b H.out.symm, HB.out⟩

/-- The indexes below k to which the answer is yes. -/
def chF (p : Nat → Bool) : Nat → List Int
  | 0 => []
  | k + 1 => if p k = true then chF p k ++ [(k : Int)] else chF p k
theorem chF_len (p : Nat → Bool) : ∀ k, (chF p k).length ≤ k
  | 0 => Nat.le_refl _
  | k + 1 => by
    have := chF_len p k
    unfold chF
    split
    · simp; omega
    · omega
theorem chF_mem {p : Nat → Bool} : ∀ {k : Nat} {z : Int}, z ∈ chF p k ↔ ∃ i : Nat, i < k ∧ p i = true ∧ z = (i : Int)
  | 0, z => by simp [chF]
  | k + 1, z => by
    unfold chF
    split
    · rename_i h
      rw [List.mem_append, chF_mem]
      constructor
      · rintro (⟨i, hi, hp, rfl⟩ | hz)
        · exact ⟨i, by omega, hp, rfl⟩
        · exact ⟨k, by omega, h, by simpa using hz⟩
      · rintro ⟨i, hi, hp, rfl⟩
        by_cases e : i = k
        · subst e; exact .inr (by simp)
        · exact .inl ⟨i, by omega, hp, rfl⟩
    · rename_i h
      rw [chF_mem]
      constructor
      · rintro ⟨i, hi, hp, rfl⟩
        exact ⟨i, by omega, hp, rfl⟩
      · rintro ⟨i, hi, hp, rfl⟩
        by_cases e : i = k
        · subst e; exact absurd hp h
        · exact ⟨i, by omega, hp, rfl⟩
theorem chF_has (p : Nat → Bool) {k i : Nat} (h : i < k) : (chF p k).contains (i : Int) = p i := by
  rw [Bool.eq_iff_iff, List.contains_iff_mem, chF_mem]
  constructor
  · rintro ⟨j, _, hp, e⟩
    obtain rfl : i = j := by omega
    exact hp
  · intro hp; exact ⟨i, h, hp, rfl⟩
theorem chF_congr {p q : Nat → Bool} : ∀ {k : Nat}, (∀ i, i < k → p i = q i) → chF p k = chF q k
  | 0, _ => rfl
  | k + 1, h => by
    unfold chF
    rw [h k (by omega), chF_congr (fun i hi => h i (by omega))]

theorem HdsAt.cellAt {w : World} {B n : Nat} {A : Option Addr} {ls : List Hd} (h : HdsAt w B A n ls) {k : Nat} (hk : k < n) :
    ∃ b off A' n' c', A = some ⟨b, off, none⟩ ∧ b < B ∧ w.cell? ⟨b, off + k, none⟩ = some (.slice A' n' c') ∧ ls[k]? = some (A', n', c') := by
  obtain ⟨b, off, e, hb, hc⟩ := h.mem (by omega)
  have h1 : k < ls.length := by rw [← h.len]; exact hk
  exact ⟨b, off, ls[k].1, ls[k].2.1, ls[k].2.2, e, hb, hc k h1, List.getElem?_eq_getElem h1⟩

/-- The capacities of terms are no smaller than their lengths. -/
theorem cap_at {ls : List Hd} (h : ∀ x ∈ ls, capOk x) {k n c : Nat} {A : Option Addr} (hk : ls[k]? = some (A, n, c)) : n ≤ c ∧ c ≤ 9223372036854775807 := h _ (List.mem_of_getElem? hk)
theorem TermsAt.at {w : World} {B n : Nat} {A : Option Addr} {ls : List Hd} {tt : List (List Int)} (h : TermsAt w B A n ls tt) {k n' c' : Nat} {A' : Option Addr} (hk : ls[k]? = some (A', n', c')) : ∃ t, tt[k]? = some t ∧ tt.getD k [] = t ∧ IntsAt w B A' n' t := by
  obtain ⟨h1, e⟩ := List.getElem?_eq_some_iff.1 hk
  have hl : ls.length = n := h.hds.len.symm
  have h2 : k < tt.length := by have := h.len; omega
  refine ⟨tt[k], List.getElem?_eq_getElem h2, by simp [List.getD_eq_getElem?_getD, List.getElem?_eq_getElem h2], ?_⟩
  have := h.each k h1 h2
  rw [e] at this
  exact this

/-- What is asked of the statements of a list answers p, and leaves the memory below B as it was. -/
def Asks (g : Nat) (lb : Array Value) (ls : List Hd) (p : Nat → Bool) (B : Nat) (w : World) : Prop :=
  ∀ (W : World) (k : Nat) (A : Option Addr) (n c : Nat), Below B w W → ls[k]? = some (A, n, c) → Calls Try.prog g (#[.slice A n c] ++ lb) W fun e w' => e = .returned (.bool (p k)) ∧ Below W.heap.size W w'

set_option maxRecDepth 100000 in
set_option maxHeartbeats 1000000 in
theorem chosen_any (g : Nat) (lb : Array Value) (eg : ∀ args w, (callFunc g args).run Try.prog w = .ok (.enter g args) w) (At : Option Addr) (n c : Nat) (ls : List Hd) (p : Nat → Bool) (w : World)
    (ht : HdsAt w w.heap.size At n ls) (hn : n ≤ 1000000) (hp : Asks g lb ls p w.heap.size w) :
    Calls Try.prog 144 #[.slice At n c, .func (.func g) #[] lb] w (RetOwn w (chF p n)) := by
  obtain ⟨i0, hi, hz0, hz1, hz2⟩ := info_parts info_int
  have HT := Lib.hid ht
  have HP := Lib.hid hp
  clear ht hp
  go_enter Try.func144, Try.ntmps144
  go_wp2
  go_loopw [5, 11] (fun v i wr => ∃ (k : Nat) (Av : Option Addr) (cv : Nat), k ≤ n ∧ i = .int .i64 k ∧ v = .slice Av (chF p k).length cv ∧ wr.ownsRow w.heap.size 3 1 (.slice Av (chF p k).length cv) (chF p k).length ((chF p k).map (Value.int .i64)) ∧ Below w.heap.size w wr) (fun _ i _ => n - (intOf i).toNat)
  case atStart => exact ⟨0, some ⟨w.heap.size, 0, none⟩, 0, Nat.zero_le _, rfl, rfl, World.ownsRow_lit w #[] 0 (Nat.le_refl _) (by unfold maxLen; omega) rfl, bel_al (Below.refl _ w) _⟩
  case round =>
    obtain ⟨k, Av, cv, hk, rfl, rfl, hown, hB⟩ := hrel
    by_cases hlt : k < n
    · obtain ⟨b, off, A', n', c', rfl, hb, q1, q2⟩ := HT.out.cellAt hlt
      have q3 := (hB.cell (p := ⟨b, off + k, none⟩) hb).trans q1
      have hk0 : (0 : Int) ≤ (k : Int) := by omega
      have hk1 : (k : Int) < (n : Int) := by omega
      have hle := chF_len p k
      have CP := Lib.hid (HP.out wr k A' n' c' hB q2)
      have HB := Lib.hid hB
      have HOWN := Lib.hid hown
      clear hB hown q1 q2
      cases hq : p k
      · have H := Lib.hid (show chF p (k + 1) = chF p k by
          show (if p k = true then chF p k ++ [(k : Int)] else chF p k) = _
          rw [hq]; rfl)
        rw [hq] at CP
        clear hq
        obtain ⟨L, hL⟩ : ∃ L, (chF p k).length = L := ⟨_, rfl⟩
        rw [hL] at HOWN hle
        have HLL := Lib.hid hL
        rw [hL]
        clear hL
        go_wp2_with (go_at_fn g; refine CP.out.mono ?_; rintro e w1 ⟨rfl, hB1⟩; have HB1 := Lib.hid (below_then HB.out hB1); have HOWN1 := Lib.hid (row_blw HOWN.out hB1); clear hB1)
        go_roundw
        case rel => exact ⟨k + 1, Av, cv, by omega, by go_num, by rw [H.out, HLL.out], by rw [H.out, HLL.out]; exact HOWN1.out, HB1.out⟩
        case measure => simp [intOf]; omega
      · have H := Lib.hid (show chF p (k + 1) = chF p k ++ [(k : Int)] by
          show (if p k = true then chF p k ++ [(k : Int)] else chF p k) = _
          rw [hq]; rfl)
        rw [hq] at CP
        clear hq
        generalize chF p k = V at *
        obtain ⟨L, hL⟩ : ∃ L, V.length = L := ⟨_, rfl⟩
        rw [hL] at HOWN hle
        have HLL := Lib.hid hL
        rw [hL]
        clear hL
        go_wp2_with (first
          | (go_at_fn g; refine CP.out.mono ?_; rintro e w1 ⟨rfl, hB1⟩; have HB1 := Lib.hid (below_then HB.out hB1); have HOWN1 := Lib.hid (row_blw HOWN.out hB1); clear hB1)
          | (at_builtin
             refine wpList_append_own_at _ rfl _ _ 24 rfl w.heap.size 3 i0 _ 1 8 Try.underlying24 hi hz0 hz1 hz2 rfl (by omega) _ _ _ rfl (HOWN1.out.alloc _) ⟨w1.heap.size, 0, none⟩ 1 1 [.int .i64 k] rfl rfl
               (World.news_of_block (cs := #[.int .i64 k]) (t := 3) (fr := (0, 0)) (heap_alloc_new w1 _)) (by simp [Value.oneCell']) (by unfold maxLen; omega) (by omega) (by have := HB1.out.size; simp; omega) ?_
             intro v1 w2 hown1 hg1 _ _
             have HB2 := Lib.hid ((HB1.out.alloc HB1.out.size _).grown hg1 (by have := HB1.out.size; simp; omega) (fun j e => (HOWN1.out.lt j e).1))
             obtain ⟨g1, cap1, hv1, _⟩ := hown1.form (by omega)
             subst hv1
             have HOWN2 := Lib.hid hown1
             clear hown1 hg1))
        go_roundw
        case rel => exact ⟨k + 1, some ⟨g1, 0, none⟩, cap1, by omega, by go_num, by rw [H.out, List.length_append, HLL.out]; rfl, by rw [H.out, List.length_append, HLL.out, List.map_append]; exact HOWN2.out, HB2.out⟩
        case measure => simp [intOf]; omega
    · obtain rfl : k = n := by omega
      have HOWN := Lib.hid hown
      have HB := Lib.hid hB
      clear hown hB
      generalize chF p k = V at *
      go_wp2
      go_ret
      exact ⟨_, _, rfl, Nat.le_refl _, HOWN.out, HB.out⟩

end Go.Proofs.Ytgbfccbnbgbknaa

/- Contracts: searched; Meeting, Instances, Generals, Alike at any arguments. -/
namespace Go.Proofs.Ytgbfccbnbgbknaa
open Go.RowKit

/-- The statements to which the answer is yes, and the error. -/
def srZ (ss : Sg) (tt : List (List Int)) (zq : List Int) (p : Nat → Bool) : List Int × Int := if (shOk ss tt && valOk ss zq) = true then (chF p tt.length, 0) else ([], 1)
theorem Asks.up {g : Nat} {lb : Array Value} {ls : List Hd} {p : Nat → Bool} {w w2 : World} (h : Asks g lb ls p w.heap.size w) (hb : Below w.heap.size w w2) : Asks g lb ls p w2.heap.size w2 :=
  fun W k A n c hW hk => h W k A n c (below_then hb hW) hk

set_option maxRecDepth 100000 in
set_option maxHeartbeats 1000000 in
theorem searched_any (g : Nat) (lb : Array Value) (eg : ∀ args w, (callFunc g args).run Try.prog w = .ok (.enter g args) w) (As At Aq : Option Addr) (ns cs n c nq cq : Nat) (ss : Sg) (ls : List Hd) (tt : List (List Int)) (zq : List Int) (p : Nat → Bool) (w : World)
    (hs : SigAt w w.heap.size As ns ss) (ht : TermsAt w w.heap.size At n ls tt) (hq : IntsAt w w.heap.size Aq nq zq) (hn : n ≤ 1000000) (hp : shOk ss tt = true → valOk ss zq = true → Asks g lb ls p w.heap.size w) :
    Calls Try.prog 127 #[.slice As ns cs, .slice At n c, .slice Aq nq cq, .func (.func g) #[] lb] w (RetK w (srZ ss tt zq p).1 (srZ ss tt zq p).2) := by
  have C1 := Lib.hid (fvalid_any As At ns cs n c ss ls tt w hs ht hn)
  cases h1 : shOk ss tt
  · have H : Hid (srZ ss tt zq p = ([], 1)) := Lib.hid (by unfold srZ; rw [h1]; simp)
    rw [H.out]
    rw [h1] at C1
    clear hs ht hq hp h1
    go_enter Try.func127, Try.ntmps127
    go_wp2_with (go_at_call 59; refine C1.out.mono ?_; rintro e w1 ⟨rfl, hB1⟩; have HB1 := Lib.hid hB1; clear hB1)
    go_ret2
    exact ⟨none, 0, 0, rfl, IntsAt.nil _ _ 0, by omega, HB1.out⟩
  · have C2 := Lib.hid (fun V (h : Below w.heap.size w V) => valid_any As Aq ns cs nq cq ss zq V (hs.up h) (hq.up h))
    cases h2 : valOk ss zq
    · have H : Hid (srZ ss tt zq p = ([], 1)) := Lib.hid (by unfold srZ; rw [h1, h2]; simp)
      rw [H.out]
      rw [h1] at C1
      rw [h2] at C2
      clear hs ht hq hp h1 h2
      go_enter Try.func127, Try.ntmps127
      go_wp2_with (first
        | (go_at_call 59; refine C1.out.mono ?_; rintro e w1 ⟨rfl, hB1⟩; have HB1 := Lib.hid hB1; clear hB1)
        | (go_at_call 99; refine (C2.out _ HB1.out).mono ?_; rintro e w2 ⟨rfl, hB2⟩; have HB2 := Lib.hid (below_then HB1.out hB2); clear hB2))
      go_ret2
      exact ⟨none, 0, 0, rfl, IntsAt.nil _ _ 0, by omega, HB2.out⟩
    · have hl := shOk_len h1
      have htl := ht.len
      have C3 := Lib.hid (fun V (h : Below w.heap.size w V) => chosen_any g lb eg At n c ls p V (ht.up h).hds hn ((hp h1 h2).up h))
      have H : Hid (srZ ss tt zq p = (chF p n, 0)) := Lib.hid (by unfold srZ; rw [h1, h2, htl]; simp)
      rw [H.out]
      have HL := Lib.hid (show (chF p n).length ≤ 1000000 by have := chF_len p n; omega)
      generalize chF p n = Z at *
      rw [h1] at C1
      rw [h2] at C2
      clear hs ht hq hp h1 h2 hl htl
      go_enter Try.func127, Try.ntmps127
      go_wp2_with (first
        | (go_at_call 59; refine C1.out.mono ?_; rintro e w1 ⟨rfl, hB1⟩; have HB1 := Lib.hid hB1; clear hB1)
        | (go_at_call 99; refine (C2.out _ HB1.out).mono ?_; rintro e w2 ⟨rfl, hB2⟩; have HB2 := Lib.hid (below_then HB1.out hB2); clear hB2)
        | (go_at_call 144; refine (C3.out _ HB2.out).mono ?_; rintro e w3 ⟨v, base, rfl, hb, hrow, hB3⟩; obtain ⟨A3, c3, rfl, hI3, hk3⟩ := row_intsk hrow HL.out; have HB3 := Lib.hid (below_then HB2.out hB3); have HI3 := Lib.hid hI3; have HK3 := Lib.hid hk3; clear hb hrow hB3 hI3 hk3))
      go_ret2
      exact ⟨A3, _, c3, rfl, HI3.out, HK3.out, HB3.out⟩


set_option maxRecDepth 100000 in
set_option maxHeartbeats 1000000 in
theorem fMeetingC_any (Bs Bq : Nat) (As At Aq : Option Addr) (ns cs n _c nq cq : Nat) (ss : Sg) (ls : List Hd) (tt : List (List Int)) (zq : List Int) (w : World)
    (hs : SigAt w w.heap.size As ns ss) (ht : TermsAt w w.heap.size At n ls tt) (hq : IntsAt w w.heap.size Aq nq zq) (hcap : ∀ x ∈ ls, capOk x) (_hcq : nq ≤ cq ∧ cq ≤ 9223372036854775807)
    (hBs : Bs < w.heap.size) (hBq : Bq < w.heap.size) (cS : w.cell? ⟨Bs, 0, none⟩ = some (.slice As ns cs)) (cQ : w.cell? ⟨Bq, 0, none⟩ = some (.slice Aq nq cq)) :
    Asks 128 #[.pointer (some ⟨Bs, 0, none⟩), .pointer (some ⟨Bq, 0, none⟩)] ls (fun k => hasZ ss 12 (tt.getD k []) zq) w.heap.size w := by
  intro W k A' n' c' hW hk
  obtain ⟨t, ht1, ht2, hI⟩ := ht.at hk
  have hkc := cap_at hcap hk
  have rS := (hW.cell (p := ⟨Bs, 0, none⟩) hBs).trans cS
  have rQ := (hW.cell (p := ⟨Bq, 0, none⟩) hBq).trans cQ
  have C := Lib.hid (meets_all As A' Aq ns cs n' c' nq cq ss t zq W (hs.up hW) ((hI.below hW).more hW.size) (hq.up hW))
  simp only [ht2]
  obtain ⟨R, hR⟩ : ∃ R, hasZ ss 12 t zq = R := ⟨_, rfl⟩
  rw [hR] at C ⊢
  clear hs ht hq hcap hk hI ht1 ht2 hkc hR cS cQ
  go_enter Try.func128, Try.ntmps128
  go_wp2_with (go_at_call 50; refine C.out.mono ?_; rintro e w1 ⟨rfl, hB1⟩; have HB1 := Lib.hid hB1; clear hB1)
  go_ret
  exact ⟨rfl, HB1.out⟩

set_option maxRecDepth 100000 in
set_option maxHeartbeats 1000000 in
theorem fMeeting_any (As At Aq : Option Addr) (ns cs n c nq cq : Nat) (ss : Sg) (ls : List Hd) (tt : List (List Int)) (zq : List Int) (w : World)
    (hs : SigAt w w.heap.size As ns ss) (ht : TermsAt w w.heap.size At n ls tt) (hq : IntsAt w w.heap.size Aq nq zq) (hn : n ≤ 1000000) (hcap : ∀ x ∈ ls, capOk x) (hcq : nq ≤ cq ∧ cq ≤ 9223372036854775807) :
    Calls Try.prog 56 #[.slice As ns cs, .slice At n c, .slice Aq nq cq] w (RetK w (srZ ss tt zq fun k => hasZ ss 12 (tt.getD k []) zq).1 (srZ ss tt zq fun k => hasZ ss 12 (tt.getD k []) zq).2) := by
  obtain ⟨W2, hW2⟩ : ∃ W2, (w.alloc (.cells #[.slice As ns cs] 23)).alloc (.cells #[.slice Aq nq cq] 25) = W2 := ⟨_, rfl⟩
  have hB0 : Below w.heap.size w W2 := by rw [← hW2]; exact bel_al (bel_al (Below.refl _ w) _) _
  have hsz : W2.heap.size = w.heap.size + 1 + 1 := by rw [← hW2]; simp
  have r0 : W2.cell? ⟨w.heap.size, 0, none⟩ = some (.slice As ns cs) := by rw [← hW2]; simp
  have r1 : W2.cell? ⟨w.heap.size + 1, 0, none⟩ = some (.slice Aq nq cq) := by rw [← hW2]; simp
  have C := Lib.hid (searched_any 128 #[.pointer (some ⟨w.heap.size, 0, none⟩), .pointer (some ⟨w.heap.size + 1, 0, none⟩)] (enters_of Try.func128 (by kernel_rfl) rfl) As At Aq ns cs n c nq cq ss ls tt zq _ W2 (hs.up hB0) (ht.up hB0) (hq.up hB0) hn
    (fun _ _ => fMeetingC_any w.heap.size (w.heap.size + 1) As At Aq ns cs n c nq cq ss ls tt zq W2 (hs.up hB0) (ht.up hB0) (hq.up hB0) hcap hcq (by omega) (by omega) r0 r1))
  obtain ⟨R, hR⟩ : ∃ R, (srZ ss tt zq fun k => hasZ ss 12 (tt.getD k []) zq) = R := ⟨_, rfl⟩
  rw [hR] at C ⊢
  have HW2 := Lib.hid hW2
  have HB0 := Lib.hid hB0
  clear hs ht hq hn hcap hcq hR r0 r1 hsz hB0 hW2
  go_enter Try.func56, Try.ntmps56
  go_wp2_with (go_at_call 127; rw [HW2.out]; refine C.out.mono ?_; rintro e w4 ⟨A, n, c, rfl, hI, hk, hB4⟩; have HK := Lib.hid hk; clear hk; have HI := Lib.hid hI; have HB4 := Lib.hid (below_then HB0.out hB4); clear hI hB4)
  go_ret2
  exact ⟨A, n, c, rfl, HI.out, HK.out, HB4.out⟩

set_option maxRecDepth 100000 in
set_option maxHeartbeats 1000000 in
theorem fInstancesC_any (Bs Bq : Nat) (As At Aq : Option Addr) (ns cs n _c nq cq : Nat) (ss : Sg) (ls : List Hd) (tt : List (List Int)) (zq : List Int) (w : World)
    (hs : SigAt w w.heap.size As ns ss) (ht : TermsAt w w.heap.size At n ls tt) (hq : IntsAt w w.heap.size Aq nq zq) (hcap : ∀ x ∈ ls, capOk x) (_hcq : nq ≤ cq ∧ cq ≤ 9223372036854775807)
    (hBs : Bs < w.heap.size) (hBq : Bq < w.heap.size) (cS : w.cell? ⟨Bs, 0, none⟩ = some (.slice As ns cs)) (cQ : w.cell? ⟨Bq, 0, none⟩ = some (.slice Aq nq cq)) :
    Asks 133 #[.pointer (some ⟨Bs, 0, none⟩), .pointer (some ⟨Bq, 0, none⟩)] ls (fun k => insB ss zq (tt.getD k [])) w.heap.size w := by
  intro W k A' n' c' hW hk
  obtain ⟨t, ht1, ht2, hI⟩ := ht.at hk
  have hkc := cap_at hcap hk
  have rS := (hW.cell (p := ⟨Bs, 0, none⟩) hBs).trans cS
  have rQ := (hW.cell (p := ⟨Bq, 0, none⟩) hBq).trans cQ
  have C := Lib.hid (instance_any As Aq A' ns cs nq cq n' c' ss zq t W (hs.up hW) (hq.up hW) ((hI.below hW).more hW.size) hkc.1 hkc.2)
  simp only [ht2]
  obtain ⟨R, hR⟩ : ∃ R, insB ss zq t = R := ⟨_, rfl⟩
  rw [hR] at C ⊢
  clear hs ht hq hcap hk hI ht1 ht2 hkc hR cS cQ
  go_enter Try.func133, Try.ntmps133
  go_wp2_with (go_at_call 42; refine C.out.mono ?_; rintro e w1 ⟨rfl, hB1⟩; have HB1 := Lib.hid hB1; clear hB1)
  go_ret
  exact ⟨rfl, HB1.out⟩

set_option maxRecDepth 100000 in
set_option maxHeartbeats 1000000 in
theorem fInstances_any (As At Aq : Option Addr) (ns cs n c nq cq : Nat) (ss : Sg) (ls : List Hd) (tt : List (List Int)) (zq : List Int) (w : World)
    (hs : SigAt w w.heap.size As ns ss) (ht : TermsAt w w.heap.size At n ls tt) (hq : IntsAt w w.heap.size Aq nq zq) (hn : n ≤ 1000000) (hcap : ∀ x ∈ ls, capOk x) (hcq : nq ≤ cq ∧ cq ≤ 9223372036854775807) :
    Calls Try.prog 61 #[.slice As ns cs, .slice At n c, .slice Aq nq cq] w (RetK w (srZ ss tt zq fun k => insB ss zq (tt.getD k [])).1 (srZ ss tt zq fun k => insB ss zq (tt.getD k [])).2) := by
  obtain ⟨W2, hW2⟩ : ∃ W2, (w.alloc (.cells #[.slice As ns cs] 23)).alloc (.cells #[.slice Aq nq cq] 25) = W2 := ⟨_, rfl⟩
  have hB0 : Below w.heap.size w W2 := by rw [← hW2]; exact bel_al (bel_al (Below.refl _ w) _) _
  have hsz : W2.heap.size = w.heap.size + 1 + 1 := by rw [← hW2]; simp
  have r0 : W2.cell? ⟨w.heap.size, 0, none⟩ = some (.slice As ns cs) := by rw [← hW2]; simp
  have r1 : W2.cell? ⟨w.heap.size + 1, 0, none⟩ = some (.slice Aq nq cq) := by rw [← hW2]; simp
  have C := Lib.hid (searched_any 133 #[.pointer (some ⟨w.heap.size, 0, none⟩), .pointer (some ⟨w.heap.size + 1, 0, none⟩)] (enters_of Try.func133 (by kernel_rfl) rfl) As At Aq ns cs n c nq cq ss ls tt zq _ W2 (hs.up hB0) (ht.up hB0) (hq.up hB0) hn
    (fun _ _ => fInstancesC_any w.heap.size (w.heap.size + 1) As At Aq ns cs n c nq cq ss ls tt zq W2 (hs.up hB0) (ht.up hB0) (hq.up hB0) hcap hcq (by omega) (by omega) r0 r1))
  obtain ⟨R, hR⟩ : ∃ R, (srZ ss tt zq fun k => insB ss zq (tt.getD k [])) = R := ⟨_, rfl⟩
  rw [hR] at C ⊢
  have HW2 := Lib.hid hW2
  have HB0 := Lib.hid hB0
  clear hs ht hq hn hcap hcq hR r0 r1 hsz hB0 hW2
  go_enter Try.func61, Try.ntmps61
  go_wp2_with (go_at_call 127; rw [HW2.out]; refine C.out.mono ?_; rintro e w4 ⟨A, n, c, rfl, hI, hk, hB4⟩; have HK := Lib.hid hk; clear hk; have HI := Lib.hid hI; have HB4 := Lib.hid (below_then HB0.out hB4); clear hI hB4)
  go_ret2
  exact ⟨A, n, c, rfl, HI.out, HK.out, HB4.out⟩

set_option maxRecDepth 100000 in
set_option maxHeartbeats 1000000 in
theorem fGeneralsC_any (Bs Bq : Nat) (As At Aq : Option Addr) (ns cs n _c nq cq : Nat) (ss : Sg) (ls : List Hd) (tt : List (List Int)) (zq : List Int) (w : World)
    (hs : SigAt w w.heap.size As ns ss) (ht : TermsAt w w.heap.size At n ls tt) (hq : IntsAt w w.heap.size Aq nq zq) (hcap : ∀ x ∈ ls, capOk x) (hcq : nq ≤ cq ∧ cq ≤ 9223372036854775807)
    (hBs : Bs < w.heap.size) (hBq : Bq < w.heap.size) (cS : w.cell? ⟨Bs, 0, none⟩ = some (.slice As ns cs)) (cQ : w.cell? ⟨Bq, 0, none⟩ = some (.slice Aq nq cq)) :
    Asks 134 #[.pointer (some ⟨Bs, 0, none⟩), .pointer (some ⟨Bq, 0, none⟩)] ls (fun k => insB ss (tt.getD k []) zq) w.heap.size w := by
  intro W k A' n' c' hW hk
  obtain ⟨t, ht1, ht2, hI⟩ := ht.at hk
  have hkc := cap_at hcap hk
  have rS := (hW.cell (p := ⟨Bs, 0, none⟩) hBs).trans cS
  have rQ := (hW.cell (p := ⟨Bq, 0, none⟩) hBq).trans cQ
  have C := Lib.hid (instance_any As A' Aq ns cs n' c' nq cq ss t zq W (hs.up hW) ((hI.below hW).more hW.size) (hq.up hW) hcq.1 hcq.2)
  simp only [ht2]
  obtain ⟨R, hR⟩ : ∃ R, insB ss t zq = R := ⟨_, rfl⟩
  rw [hR] at C ⊢
  clear hs ht hq hcap hk hI ht1 ht2 hkc hR cS cQ
  go_enter Try.func134, Try.ntmps134
  go_wp2_with (go_at_call 42; refine C.out.mono ?_; rintro e w1 ⟨rfl, hB1⟩; have HB1 := Lib.hid hB1; clear hB1)
  go_ret
  exact ⟨rfl, HB1.out⟩

set_option maxRecDepth 100000 in
set_option maxHeartbeats 1000000 in
theorem fGenerals_any (As At Aq : Option Addr) (ns cs n c nq cq : Nat) (ss : Sg) (ls : List Hd) (tt : List (List Int)) (zq : List Int) (w : World)
    (hs : SigAt w w.heap.size As ns ss) (ht : TermsAt w w.heap.size At n ls tt) (hq : IntsAt w w.heap.size Aq nq zq) (hn : n ≤ 1000000) (hcap : ∀ x ∈ ls, capOk x) (hcq : nq ≤ cq ∧ cq ≤ 9223372036854775807) :
    Calls Try.prog 63 #[.slice As ns cs, .slice At n c, .slice Aq nq cq] w (RetK w (srZ ss tt zq fun k => insB ss (tt.getD k []) zq).1 (srZ ss tt zq fun k => insB ss (tt.getD k []) zq).2) := by
  obtain ⟨W2, hW2⟩ : ∃ W2, (w.alloc (.cells #[.slice As ns cs] 23)).alloc (.cells #[.slice Aq nq cq] 25) = W2 := ⟨_, rfl⟩
  have hB0 : Below w.heap.size w W2 := by rw [← hW2]; exact bel_al (bel_al (Below.refl _ w) _) _
  have hsz : W2.heap.size = w.heap.size + 1 + 1 := by rw [← hW2]; simp
  have r0 : W2.cell? ⟨w.heap.size, 0, none⟩ = some (.slice As ns cs) := by rw [← hW2]; simp
  have r1 : W2.cell? ⟨w.heap.size + 1, 0, none⟩ = some (.slice Aq nq cq) := by rw [← hW2]; simp
  have C := Lib.hid (searched_any 134 #[.pointer (some ⟨w.heap.size, 0, none⟩), .pointer (some ⟨w.heap.size + 1, 0, none⟩)] (enters_of Try.func134 (by kernel_rfl) rfl) As At Aq ns cs n c nq cq ss ls tt zq _ W2 (hs.up hB0) (ht.up hB0) (hq.up hB0) hn
    (fun _ _ => fGeneralsC_any w.heap.size (w.heap.size + 1) As At Aq ns cs n c nq cq ss ls tt zq W2 (hs.up hB0) (ht.up hB0) (hq.up hB0) hcap hcq (by omega) (by omega) r0 r1))
  obtain ⟨R, hR⟩ : ∃ R, (srZ ss tt zq fun k => insB ss (tt.getD k []) zq) = R := ⟨_, rfl⟩
  rw [hR] at C ⊢
  have HW2 := Lib.hid hW2
  have HB0 := Lib.hid hB0
  clear hs ht hq hn hcap hcq hR r0 r1 hsz hB0 hW2
  go_enter Try.func63, Try.ntmps63
  go_wp2_with (go_at_call 127; rw [HW2.out]; refine C.out.mono ?_; rintro e w4 ⟨A, n, c, rfl, hI, hk, hB4⟩; have HK := Lib.hid hk; clear hk; have HI := Lib.hid hI; have HB4 := Lib.hid (below_then HB0.out hB4); clear hI hB4)
  go_ret2
  exact ⟨A, n, c, rfl, HI.out, HK.out, HB4.out⟩

set_option maxRecDepth 100000 in
set_option maxHeartbeats 1000000 in
theorem fAlikeC_any (Bs Bq : Nat) (As At Aq : Option Addr) (ns cs n _c nq cq : Nat) (ss : Sg) (ls : List Hd) (tt : List (List Int)) (zq : List Int) (w : World)
    (hs : SigAt w w.heap.size As ns ss) (ht : TermsAt w w.heap.size At n ls tt) (hq : IntsAt w w.heap.size Aq nq zq) (hcap : ∀ x ∈ ls, capOk x) (_hcq : nq ≤ cq ∧ cq ≤ 9223372036854775807)
    (hBs : Bs < w.heap.size) (hBq : Bq < w.heap.size) (cS : w.cell? ⟨Bs, 0, none⟩ = some (.slice As ns cs)) (cQ : w.cell? ⟨Bq, 0, none⟩ = some (.slice Aq nq cq)) :
    Asks 135 #[.pointer (some ⟨Bs, 0, none⟩), .pointer (some ⟨Bq, 0, none⟩)] ls (fun k => alikeOk ss (tt.getD k []) zq) w.heap.size w := by
  intro W k A' n' c' hW hk
  obtain ⟨t, ht1, ht2, hI⟩ := ht.at hk
  have hkc := cap_at hcap hk
  have rS := (hW.cell (p := ⟨Bs, 0, none⟩) hBs).trans cS
  have rQ := (hW.cell (p := ⟨Bq, 0, none⟩) hBq).trans cQ
  have C := Lib.hid (alike_any As A' Aq ns cs n' c' nq cq ss t zq W (hs.up hW) ((hI.below hW).more hW.size) (hq.up hW))
  simp only [ht2]
  obtain ⟨R, hR⟩ : ∃ R, alikeOk ss t zq = R := ⟨_, rfl⟩
  rw [hR] at C ⊢
  clear hs ht hq hcap hk hI ht1 ht2 hkc hR cS cQ
  go_enter Try.func135, Try.ntmps135
  go_wp2_with (go_at_call 26; refine C.out.mono ?_; rintro e w1 ⟨rfl, hB1⟩; have HB1 := Lib.hid hB1; clear hB1)
  go_ret
  exact ⟨rfl, HB1.out⟩

set_option maxRecDepth 100000 in
set_option maxHeartbeats 1000000 in
theorem fAlike_any (As At Aq : Option Addr) (ns cs n c nq cq : Nat) (ss : Sg) (ls : List Hd) (tt : List (List Int)) (zq : List Int) (w : World)
    (hs : SigAt w w.heap.size As ns ss) (ht : TermsAt w w.heap.size At n ls tt) (hq : IntsAt w w.heap.size Aq nq zq) (hn : n ≤ 1000000) (hcap : ∀ x ∈ ls, capOk x) (hcq : nq ≤ cq ∧ cq ≤ 9223372036854775807) :
    Calls Try.prog 65 #[.slice As ns cs, .slice At n c, .slice Aq nq cq] w (RetK w (srZ ss tt zq fun k => alikeOk ss (tt.getD k []) zq).1 (srZ ss tt zq fun k => alikeOk ss (tt.getD k []) zq).2) := by
  obtain ⟨W2, hW2⟩ : ∃ W2, (w.alloc (.cells #[.slice As ns cs] 23)).alloc (.cells #[.slice Aq nq cq] 25) = W2 := ⟨_, rfl⟩
  have hB0 : Below w.heap.size w W2 := by rw [← hW2]; exact bel_al (bel_al (Below.refl _ w) _) _
  have hsz : W2.heap.size = w.heap.size + 1 + 1 := by rw [← hW2]; simp
  have r0 : W2.cell? ⟨w.heap.size, 0, none⟩ = some (.slice As ns cs) := by rw [← hW2]; simp
  have r1 : W2.cell? ⟨w.heap.size + 1, 0, none⟩ = some (.slice Aq nq cq) := by rw [← hW2]; simp
  have C := Lib.hid (searched_any 135 #[.pointer (some ⟨w.heap.size, 0, none⟩), .pointer (some ⟨w.heap.size + 1, 0, none⟩)] (enters_of Try.func135 (by kernel_rfl) rfl) As At Aq ns cs n c nq cq ss ls tt zq _ W2 (hs.up hB0) (ht.up hB0) (hq.up hB0) hn
    (fun _ _ => fAlikeC_any w.heap.size (w.heap.size + 1) As At Aq ns cs n c nq cq ss ls tt zq W2 (hs.up hB0) (ht.up hB0) (hq.up hB0) hcap hcq (by omega) (by omega) r0 r1))
  obtain ⟨R, hR⟩ : ∃ R, (srZ ss tt zq fun k => alikeOk ss (tt.getD k []) zq) = R := ⟨_, rfl⟩
  rw [hR] at C ⊢
  have HW2 := Lib.hid hW2
  have HB0 := Lib.hid hB0
  clear hs ht hq hn hcap hcq hR r0 r1 hsz hB0 hW2
  go_enter Try.func65, Try.ntmps65
  go_wp2_with (go_at_call 127; rw [HW2.out]; refine C.out.mono ?_; rintro e w4 ⟨A, n, c, rfl, hI, hk, hB4⟩; have HK := Lib.hid hk; clear hk; have HI := Lib.hid hI; have HB4 := Lib.hid (below_then HB0.out hB4); clear hI hB4)
  go_ret2
  exact ⟨A, n, c, rfl, HI.out, HK.out, HB4.out⟩

end Go.Proofs.Ytgbfccbnbgbknaa

namespace Go.Proofs.Ytgbfccbnbgbknaa
open Go.RowKit

/-- A shape, and the error. -/
def shapeZ (ss : Sg) (zs : List Int) : List Int × Int := if valOk ss zs = true then (flat zs, 0) else ([], 1)
theorem shape_any (As At : Option Addr) (ns cs nt ct : Nat) (ss : Sg) (zs : List Int) (w : World) (hs : SigAt w w.heap.size As ns ss) (ht : IntsAt w w.heap.size At nt zs) :
    Calls Try.prog 24 #[.slice As ns cs, .slice At nt ct] w (RetT w (shapeZ ss zs).1 (shapeZ ss zs).2) := by
  unfold shapeZ
  cases h : valOk ss zs
  · exact shape_bad As At ns cs nt ct ss zs w hs ht h
  · exact shape_ok As At ns cs nt ct ss zs w hs ht h

set_option maxRecDepth 100000 in
set_option maxHeartbeats 1000000 in
theorem shapedC_any (Bs Bq : Nat) (As At Aq : Option Addr) (ns cs n _c nq cq : Nat) (ss : Sg) (ls : List Hd) (tt : List (List Int)) (zq : List Int) (w : World)
    (hs : SigAt w w.heap.size As ns ss) (ht : TermsAt w w.heap.size At n ls tt) (hq : IntsAt w w.heap.size Aq nq (shapeZ ss zq).1)
    (hBs : Bs < w.heap.size) (hBq : Bq < w.heap.size) (cS : w.cell? ⟨Bs, 0, none⟩ = some (.slice As ns cs)) (cQ : w.cell? ⟨Bq, 0, none⟩ = some (.slice Aq nq cq)) (h1 : shOk ss tt = true) (h2 : valOk ss zq = true) :
    Asks 137 #[.pointer (some ⟨Bs, 0, none⟩), .pointer (some ⟨Bq, 0, none⟩)] ls (fun k => decide (flat (tt.getD k []) = flat zq)) w.heap.size w := by
  intro W k A' n' c' hW hk
  obtain ⟨t, ht1, ht2, hI⟩ := ht.at hk
  have hv := shOk_each h1 ht1
  have rS := (hW.cell (p := ⟨Bs, 0, none⟩) hBs).trans cS
  have rQ := (hW.cell (p := ⟨Bq, 0, none⟩) hBq).trans cQ
  have rQ2 := Lib.hid (fun V (hV : Below W.heap.size W V) => (hV.cell (p := ⟨Bq, 0, none⟩) (Nat.lt_of_lt_of_le hBq hW.size)).trans rQ)
  have C := Lib.hid (shape_any As A' ns cs n' c' ss t W (hs.up hW) ((hI.below hW).more hW.size))
  have e1 : shapeZ ss t = (flat t, 0) := by unfold shapeZ; rw [hv]; rfl
  have e2 : shapeZ ss zq = (flat zq, 0) := by unfold shapeZ; rw [h2]; rfl
  rw [e1] at C
  rw [e2] at hq
  have HQ := Lib.hid (fun V (hV : Below W.heap.size W V) => (hq.up hW).up hV)
  have C2 := Lib.hid (fun A5 n5 c5 V (h5 : IntsAt V V.heap.size A5 n5 (flat t)) (h6 : IntsAt V V.heap.size Aq nq (flat zq)) => eqT_any A5 Aq n5 c5 nq cq (flat t) (flat zq) V V.heap.size h5 h6)
  simp only [ht2]
  obtain ⟨R, hR⟩ : ∃ R, decide (flat t = flat zq) = R := ⟨_, rfl⟩
  rw [hR] at C2 ⊢
  simp only at C
  clear hs ht hq hk hI ht1 ht2 hR cS cQ rQ hv e1 e2 h1 h2
  go_enter Try.func137, Try.ntmps137
  go_wp2_with (first
    | (go_at_call 24; refine C.out.mono ?_; rintro e w1 ⟨A5, n5, c5, rfl, hI5, hB1⟩; have HI5 := Lib.hid hI5; have HB1 := Lib.hid hB1; have r2 := rQ2.out w1 hB1; clear hB1 hI5)
    | (go_at_call 103; refine (C2.out _ _ _ _ HI5.out (HQ.out _ HB1.out)).mono ?_; rintro e w2 ⟨rfl, k2, rfl⟩))
  go_ret
  exact ⟨rfl, below_drewN HB1.out _⟩

set_option maxRecDepth 100000 in
set_option maxHeartbeats 1000000 in
theorem shaped_any (As At Aq : Option Addr) (ns cs n c nq cq : Nat) (ss : Sg) (ls : List Hd) (tt : List (List Int)) (zq : List Int) (w : World)
    (hs : SigAt w w.heap.size As ns ss) (ht : TermsAt w w.heap.size At n ls tt) (hq : IntsAt w w.heap.size Aq nq zq) (hn : n ≤ 1000000) :
    Calls Try.prog 67 #[.slice As ns cs, .slice At n c, .slice Aq nq cq] w (RetK w (srZ ss tt zq fun k => decide (flat (tt.getD k []) = flat zq)).1 (srZ ss tt zq fun k => decide (flat (tt.getD k []) = flat zq)).2) := by
  obtain ⟨W1, hW1⟩ : ∃ W1, w.alloc (.cells #[.slice As ns cs] 23) = W1 := ⟨_, rfl⟩
  have hB0 : Below w.heap.size w W1 := by rw [← hW1]; exact bel_al (Below.refl _ w) _
  have hsz : W1.heap.size = w.heap.size + 1 := by rw [← hW1]; simp
  have r0 : W1.cell? ⟨w.heap.size, 0, none⟩ = some (.slice As ns cs) := by rw [← hW1]; simp
  have C1 := Lib.hid (shape_any As Aq ns cs nq cq ss zq W1 (hs.up hB0) (hq.up hB0))
  have C2 := Lib.hid (fun V A5 n5 c5 (hV : Below W1.heap.size W1 V) (hI5 : IntsAt V V.heap.size A5 n5 (shapeZ ss zq).1) =>
    let V2 := V.alloc (.cells #[.slice A5 n5 c5] 25)
    have hB2 : Below V.heap.size V V2 := bel_al (Below.refl _ V) _
    have hB3 : Below w.heap.size w V := below_then hB0 hV
    have hB4 : Below w.heap.size w V2 := below_then hB3 hB2
    searched_any 137 #[.pointer (some ⟨w.heap.size, 0, none⟩), .pointer (some ⟨V.heap.size, 0, none⟩)] (enters_of Try.func137 (by kernel_rfl) rfl) As At Aq ns cs n c nq cq ss ls tt zq _ V2 (hs.up hB4) (ht.up hB4) (hq.up hB4) hn
      (fun h1 h2 => shapedC_any w.heap.size V.heap.size As At A5 ns cs n c n5 c5 ss ls tt zq V2 (hs.up hB4) (ht.up hB4) (hI5.up hB2) (by have := hV.size; have := hB2.size; omega) (by simp [V2]) ((hB2.cell (p := ⟨w.heap.size, 0, none⟩) (by have := hV.size; show w.heap.size < _; omega)).trans ((hV.cell (p := ⟨w.heap.size, 0, none⟩) (by show w.heap.size < _; omega)).trans r0)) (by simp [V2]) h1 h2))
  obtain ⟨R, hR⟩ : ∃ R, (srZ ss tt zq fun k => decide (flat (tt.getD k []) = flat zq)) = R := ⟨_, rfl⟩
  simp only [hR] at C2
  rw [hR]
  obtain ⟨S, hS⟩ : ∃ S, shapeZ ss zq = S := ⟨_, rfl⟩
  rw [hS] at C1 C2
  have HB0 := Lib.hid hB0
  have HW1 := Lib.hid hW1
  have HSZ := Lib.hid (show w.heap.size < W1.heap.size by omega)
  have r00 := Lib.hid (fun V (hV : Below W1.heap.size W1 V) => (hV.cell (p := ⟨w.heap.size, 0, none⟩) (by show w.heap.size < _; omega)).trans r0)
  clear hs ht hq hn hR hB0 hS hsz hW1 r0
  go_enter Try.func67, Try.ntmps67
  go_wp2_with (first
    | (go_at_call 24; rw [HW1.out]; refine C1.out.mono ?_; rintro e w3 ⟨A5, n5, c5, rfl, hI5, hB3⟩; have HI5 := Lib.hid hI5; have HB3 := Lib.hid hB3; have r2 := ((bel_al (Below.refl w3.heap.size w3) (.cells #[.slice A5 n5 c5] 25)).cell (p := ⟨w.heap.size, 0, none⟩) (Nat.lt_of_lt_of_le HSZ.out hB3.size)).trans (r00.out w3 hB3); clear hB3 hI5)
    | (go_at_call 127; refine (C2.out _ _ _ _ HB3.out HI5.out).mono ?_; rintro e w4 ⟨A, n, c, rfl, hI, hk, hB4⟩; have HK := Lib.hid hk; clear hk; have HI := Lib.hid hI; have HB4 := Lib.hid hB4; clear hI hB4))
  go_ret2
  exact ⟨A, n, c, rfl, HI.out, HK.out, below_then (below_then (below_then HB0.out HB3.out) (bel_al (Below.refl _ _) _)) HB4.out⟩

end Go.Proofs.Ytgbfccbnbgbknaa
