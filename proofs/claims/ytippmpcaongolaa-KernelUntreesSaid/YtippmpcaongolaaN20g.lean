/- Contract: match. -/
import Derived.Test.YtippmpcaongolaaN5g
import Derived.Test.YtippmpcaongolaaB0g
import Derived.Test.YtippmpcaongolaaN17g
import Derived.Test.YtippmpcaongolaaY19g
import Derived.Laws.Cover3
/- What a match finds: the plain mathematics. -/
namespace Go.Proofs.Ytippmpcaongolaa
open Go.RowKit

/-- What lies for a variable when a part is to become its image. -/
def imP (im : List (List Int)) (v : Nat) (p : List Int) : List (List Int) := if im.getD v [] = [] then im.set v p else im
/-- One term read beside another one: what the variables become, and what is left of the other. -/
def mtc (ss : Sg) : List Int → List Int → List (List Int) → Option (List (List Int) × List Int)
  | [], b, im => some (im, b)
  | x :: a, b, im =>
    if x < 0 then
      if (imP im (-x - 1).toNat (prt ss b 0)).getD (-x - 1).toNat [] = prt ss b 0 then mtc ss a (b.drop (prt ss b 0).length) (imP im (-x - 1).toNat (prt ss b 0)) else none
    else if b.head? = some x then mtc ss a (b.drop 1) im else none
theorem imP_len (im : List (List Int)) (v : Nat) (p : List Int) : (imP im v p).length = im.length := by
  unfold imP; split <;> simp
theorem imP_at {im : List (List Int)} {v : Nat} {p : List Int} (hv : v < im.length) (h : im.getD v [] = []) : (imP im v p).getD v [] = p := by
  unfold imP; rw [if_pos h]; simp [List.getD_eq_getElem?_getD, hv]
theorem imP_ne {im : List (List Int)} {v j : Nat} {p : List Int} (h : j ≠ v) : (imP im v p).getD j [] = im.getD j [] := by
  unfold imP; split
  · simp [List.getD_eq_getElem?_getD, List.getElem?_set_ne (Ne.symm h)]
  · rfl
theorem imP_keep {im : List (List Int)} {v j : Nat} {p : List Int} (h : im.getD j [] ≠ []) : (imP im v p).getD j [] = im.getD j [] := by
  by_cases e : j = v
  · subst e; unfold imP; rw [if_neg h]
  · exact imP_ne e
theorem mtc_var {ss : Sg} {x : Int} {a b : List Int} {im : List (List Int)} (h : x < 0) : mtc ss (x :: a) b im = if (imP im (-x - 1).toNat (prt ss b 0)).getD (-x - 1).toNat [] = prt ss b 0 then mtc ss a (b.drop (prt ss b 0).length) (imP im (-x - 1).toNat (prt ss b 0)) else none := by
  rw [mtc, if_pos h]
theorem mtc_sym {ss : Sg} {x : Int} {a b : List Int} {im : List (List Int)} (h : ¬ x < 0) : mtc ss (x :: a) b im = if b.head? = some x then mtc ss a (b.drop 1) im else none := by
  rw [mtc, if_neg h]
theorem scan_prt {ss : Sg} {b r : List Int} {m : Nat} (h : scan ss (m + 1) b = some r) : PrtIs ss b 0 (prt ss b 0) ∧ scan ss m (b.drop (prt ss b 0).length) = some r := by
  rw [show m + 1 = 1 + m by omega, scan_add] at h
  cases h1 : scan ss 1 b with
  | none => rw [h1] at h; cases h
  | some q =>
    rw [h1] at h
    have hp := prt_is (ss := ss) (zs := b) (a := 0) (r0 := q) (by simpa using h1)
    have hw := hp.whole
    rw [List.drop_zero, Nat.zero_add, h1] at hw
    cases hw
    exact ⟨hp, h⟩
theorem arOf_neg (ss : Sg) {x : Int} (h : x < 0) : arOf ss x = 0 := by unfold arOf; rw [if_pos h]
theorem scan_ne {ss : Sg} {x : Int} {p : List Int} {n : Nat} (h : scan ss n (x :: p) = some []) : ∃ m, n = m + 1 ∧ scan ss (m + arOf ss x) p = some [] := by
  cases n with
  | zero => rw [scan_zero] at h; cases h
  | succ m => exact ⟨m, rfl, h⟩
/-- A term under what the variables become. -/
def apN (σ : Nat → List Int) (p : List Int) : List Int := p.flatMap fun z => if z < 0 then σ (-z - 1).toNat else [z]
theorem apN_cons (σ : Nat → List Int) (x : Int) (p : List Int) : apN σ (x :: p) = (if x < 0 then σ (-x - 1).toNat else [x]) ++ apN σ p := rfl
theorem mtc_sound {ss : Sg} : ∀ (p b : List Int) (n : Nat) (im im' : List (List Int)) (b' r : List Int), scan ss n p = some [] → scan ss n b = some r → (∀ z ∈ p, -12 ≤ z) → im.length = 12 → mtc ss p b im = some (im', b') →
    im'.length = 12 ∧ b' = r ∧ (∀ v, im.getD v [] ≠ [] → im'.getD v [] = im.getD v []) ∧ (∀ z ∈ p, z < 0 → im'.getD (-z - 1).toNat [] ≠ []) ∧ (∀ σ : Nat → List Int, (∀ v, im'.getD v [] ≠ [] → σ v = im'.getD v []) → apN σ p ++ r = b)
  | [], b, n, im, im', b', r, h1, h2, _, hl, h => by
    cases n with
    | succ n => cases h1
    | zero =>
      rw [scan_zero] at h2
      cases h2
      cases h
      exact ⟨hl, rfl, fun _ _ => rfl, fun z hz => by simp at hz, fun σ _ => rfl⟩
  | x :: p, b, n, im, im', b', r, h1, h2, hz, hl, h => by
    obtain ⟨m, rfl, h1'⟩ := scan_ne h1
    by_cases hx : x < 0
    · rw [arOf_neg ss hx, Nat.add_zero] at h1'
      obtain ⟨hp, hs⟩ := scan_prt h2
      rw [mtc_var hx] at h
      split at h
      · rename_i he
        obtain ⟨a1, a2, a3, a4, a5⟩ := mtc_sound p _ m _ im' b' r h1' hs (fun z hz' => hz z (List.mem_cons_of_mem _ hz')) (by rw [imP_len]; exact hl) h
        have hne : (imP im (-x - 1).toNat (prt ss b 0)).getD (-x - 1).toNat [] ≠ [] := by
          rw [he]; intro e; have := hp.len; rw [e] at this; simp at this
        have hv := a3 _ hne
        rw [he] at hv
        refine ⟨a1, a2, fun v hv' => ?_, fun z hz' hz0 => ?_, fun σ hσ => ?_⟩
        · have e1 := imP_keep (v := (-x - 1).toNat) (p := prt ss b 0) hv'
          rw [a3 v (by rw [e1]; exact hv'), e1]
        · rcases List.mem_cons.1 hz' with rfl | hz'
          · rw [hv, ← he]; exact hne
          · exact a4 z hz' hz0
        · rw [apN_cons, if_pos hx, hσ _ (by rw [hv, ← he]; exact hne), hv, List.append_assoc, a5 σ hσ]
          have := hp.split
          simp only [List.drop_zero, Nat.zero_add] at this
          exact this.symm
      · cases h
    · rw [mtc_sym hx] at h
      split at h
      · rename_i he
        cases b with
        | nil => cases he
        | cons y b =>
          cases he
          obtain ⟨a1, a2, a3, a4, a5⟩ := mtc_sound p b (m + arOf ss x) im im' b' r h1' h2 (fun z hz' => hz z (List.mem_cons_of_mem _ hz')) hl h
          refine ⟨a1, a2, a3, fun z hz' hz0 => ?_, fun σ hσ => ?_⟩
          · rcases List.mem_cons.1 hz' with rfl | hz'
            · exact absurd hz0 hx
            · exact a4 z hz' hz0
          · rw [apN_cons, if_neg hx, List.append_assoc, a5 σ hσ]; rfl
      · cases h
theorem prt_front {ss : Sg} {q : List Int} (x : List Int) (h : scan ss 1 q = some []) : prt ss (q ++ x) 0 = q := by
  have h1 := scan_append ss _ _ _ x h
  rw [List.nil_append] at h1
  rw [prt_eq (n := q.length) (x := x) (by simpa using h1) (by simp)]
  simp
theorem mtc_complete {ss : Sg} {σ : Nat → List Int} (hσ : ∀ v, v < 12 → scan ss 1 (σ v) = some []) (r : List Int) : ∀ (p : List Int) (im : List (List Int)), (∀ z ∈ p, -12 ≤ z) → im.length = 12 → (∀ v, im.getD v [] ≠ [] → im.getD v [] = σ v) →
    ∃ im', mtc ss p (apN σ p ++ r) im = some (im', r)
  | [], im, _, _, _ => ⟨im, rfl⟩
  | x :: p, im, hz, hl, hc => by
    have hz' : ∀ z ∈ p, -12 ≤ z := fun z h => hz z (List.mem_cons_of_mem _ h)
    have h12 := hz x (List.mem_cons_self ..)
    rw [apN_cons, List.append_assoc]
    by_cases hx : x < 0
    · rw [if_pos hx, mtc_var hx]
      have hv : (-x - 1).toNat < 12 := by omega
      rw [prt_front _ (hσ _ hv)]
      have hat : (imP im (-x - 1).toNat (σ (-x - 1).toNat)).getD (-x - 1).toNat [] = σ (-x - 1).toNat := by
        by_cases e : im.getD (-x - 1).toNat [] = []
        · exact imP_at (by omega) e
        · rw [imP_keep e]; exact hc _ e
      rw [if_pos hat, List.drop_left]
      refine mtc_complete hσ r p _ hz' (by rw [imP_len]; exact hl) fun v hv' => ?_
      by_cases e : v = (-x - 1).toNat
      · subst e; exact hat
      · rw [imP_ne e] at hv' ⊢; exact hc v hv'
    · rw [if_neg hx, mtc_sym hx]
      simp only [List.cons_append, List.nil_append, List.head?_cons, List.drop_succ_cons, List.drop_zero, if_true]
      exact mtc_complete hσ r p im hz' hl hc
/-- All that lies for variables is a valid term. -/
def ImOk (ss : Sg) (im : List (List Int)) : Prop := ∀ v, im.getD v [] ≠ [] → valOk ss (im.getD v []) = true
theorem prt_ok {ss : Sg} {zs : List Int} {a : Nat} {P : List Int} (hs : sigOk ss = true) (hl : zs.length ≤ 60) (hz : NumsIn ss zs) (hP : PrtIs ss zs a P) : valOk ss P = true := by
  have hle := hP.le
  simp only [valOk, termOk, Bool.and_eq_true, decide_eq_true_eq, List.all_eq_true, numOk]
  refine ⟨hs, hP.len, by omega, fun z hz' => ?_, hP.good⟩
  have : z ∈ zs.drop a := by rw [hP.split]; exact List.mem_append_left _ hz'
  exact hz z (List.mem_of_mem_drop this)
theorem mtc_val {ss : Sg} (hs : sigOk ss = true) : ∀ (p b : List Int) (n : Nat) (im im' : List (List Int)) (b' r : List Int), scan ss n p = some [] → scan ss n b = some r → b.length ≤ 60 → NumsIn ss b → (∀ z ∈ p, -12 ≤ z) → im.length = 12 → ImOk ss im → mtc ss p b im = some (im', b') → ImOk ss im'
  | [], b, n, im, im', b', r, h1, h2, _, _, _, hl, hi, h => by cases h; exact hi
  | x :: p, b, n, im, im', b', r, h1, h2, h60, hb, hz, hl, hi, h => by
    obtain ⟨m, rfl, h1'⟩ := scan_ne h1
    have hz' : ∀ z ∈ p, -12 ≤ z := fun z h => hz z (List.mem_cons_of_mem _ h)
    have h12 := hz x (List.mem_cons_self ..)
    by_cases hx : x < 0
    · rw [arOf_neg ss hx, Nat.add_zero] at h1'
      obtain ⟨hp, hsc⟩ := scan_prt h2
      rw [mtc_var hx] at h
      split at h
      · rename_i he
        refine mtc_val hs p _ m _ im' b' r h1' hsc (by rw [List.length_drop]; omega) (fun z hz => hb z (List.mem_of_mem_drop hz)) hz' (by rw [imP_len]; exact hl) (fun v hv => ?_) h
        by_cases e : v = (-x - 1).toNat
        · subst e; rw [he]; exact prt_ok hs h60 hb hp
        · rw [imP_ne e] at hv ⊢; exact hi v hv
      · cases h
    · rw [mtc_sym hx] at h
      split at h
      · rename_i he
        cases b with
        | nil => cases he
        | cons y b =>
          cases he
          exact mtc_val hs p b (m + arOf ss x) im im' b' r h1' h2 (by simp at h60; omega) hb.tail hz' hl hi h
      · cases h

/-- Binds of what the variables below k become. -/
def bX (X : Nat → List Int) (k : Nat) : List Bd := (List.range k).filterMap fun v : Nat => if X v = [-(v : Int) - 1] then none else some ((v : Int), X v)
theorem bX_succ (X : Nat → List Int) (k : Nat) : bX X (k + 1) = bX X k ++ if X k = [-(k : Int) - 1] then [] else [((k : Int), X k)] := by
  unfold bX
  rw [List.range_succ, List.filterMap_append]
  congr 1
  by_cases h : X k = [-(k : Int) - 1]
  · simp [h]
  · simp [h]
theorem bX_le (X : Nat → List Int) (k : Nat) : (bX X k).length ≤ k := by
  unfold bX
  have := List.length_filterMap_le (fun v : Nat => if X v = [-(v : Int) - 1] then none else some ((v : Int), X v)) (List.range k)
  rwa [List.length_range] at this
theorem mem_bX {X : Nat → List Int} {k : Nat} {x : Bd} : x ∈ bX X k ↔ ∃ v : Nat, v < k ∧ X v ≠ [-(v : Int) - 1] ∧ x = ((v : Int), X v) := by
  unfold bX
  rw [List.mem_filterMap]
  constructor
  · rintro ⟨v, hv, e⟩
    rw [List.mem_range] at hv
    by_cases h : X v = [-(v : Int) - 1]
    · rw [if_pos h] at e; cases e
    · rw [if_neg h] at e; cases e; exact ⟨v, hv, h, rfl⟩
  · rintro ⟨v, hv, h, rfl⟩
    exact ⟨v, List.mem_range.2 hv, by rw [if_neg h]⟩
theorem bX_pairwise (X : Nat → List Int) (k : Nat) : (bX X k).Pairwise (fun x y => x.1 < y.1) := by
  induction k with
  | zero => simp [bX]
  | succ k ih =>
    rw [bX_succ, List.pairwise_append]
    refine ⟨ih, ?_, fun x hx y hy => ?_⟩
    · split <;> simp
    · obtain ⟨v, hv, _, rfl⟩ := mem_bX.1 hx
      split at hy
      · simp at hy
      · obtain rfl := List.mem_singleton.1 hy
        simpa using hv
theorem bX_ok {ss : Sg} {X : Nat → List Int} (hs : sigOk ss = true) (hX : ∀ v, v < 12 → valOk ss (X v) = true) : bindsOk ss (bX X 12) = true := by
  refine bindsTo_of hs _ _ (fun x hx => ?_) (bX_pairwise _ _)
  obtain ⟨v, hv, h, rfl⟩ := mem_bX.1 hx
  exact ⟨by show (-1 : Int) < (v : Int); omega, by show (v : Int) < 12; omega, hX v hv, h⟩
theorem ofB_bX (X : Nat → List Int) {v : Nat} (hv : v < 12) : ofB (bX X 12) (v : Int) = X v := by
  by_cases h : X v = [-(v : Int) - 1]
  · rw [h]
    refine ofB_none fun x hx e => ?_
    obtain ⟨u, hu, hh, rfl⟩ := mem_bX.1 hx
    obtain rfl : u = v := by have e' : (u : Int) = (v : Int) := e
                             omega
    exact hh h
  · exact ofB_mem (bX_pairwise X 12) (mem_bX.2 ⟨v, hv, h, rfl⟩)
theorem appl_apN {X : Nat → List Int} : ∀ {zs : List Int}, (∀ z ∈ zs, -12 ≤ z) → appl (bX X 12) zs = apN X zs
  | [], _ => rfl
  | z :: zs, h => by
    have h12 := h z (List.mem_cons_self ..)
    rw [appl_cons, apN_cons, appl_apN fun x hx => h x (List.mem_cons_of_mem _ hx)]
    congr 1
    by_cases hn : z < 0
    · rw [if_pos hn, if_pos hn]
      have := ofB_bX X (v := (-z - 1).toNat) (by omega)
      rwa [show (((-z - 1).toNat : Nat) : Int) = -z - 1 by omega] at this
    · rw [if_neg hn, if_neg hn]

/-- What a variable becomes: itself, where nothing lies for it. -/
def imX (im : List (List Int)) (v : Nat) : List Int := if im.getD v [] = [] then [-(v : Int) - 1] else im.getD v []
def ini : List (List Int) := List.replicate 12 []
theorem ini_at (v : Nat) : ini.getD v [] = [] := by
  simp only [ini, List.getD_eq_getElem?_getD, List.getElem?_replicate]
  split <;> rfl
theorem imX_ok {ss : Sg} {im : List (List Int)} (hs : sigOk ss = true) (hi : ImOk ss im) {v : Nat} (hv : v < 12) : valOk ss (imX im v) = true := by
  unfold imX
  by_cases h : im.getD v [] = []
  · rw [if_pos h]; exact valOk_var hs (by omega) (by omega)
  · rw [if_neg h]; exact hi v h
/-- The binds that make a term equal to another one, and the error. -/
def matZ (ss : Sg) (za zb : List Int) : List Bd × Int :=
  if (valOk ss za && valOk ss zb) = false then ([], 1) else
  match mtc ss za zb ini with
  | none => ([], 8)
  | some r => (bX (imX r.1) 12, 0)
theorem mat_sound {ss : Sg} {za zb : List Int} (h : (matZ ss za zb).2 = 0) : valOk ss za = true ∧ valOk ss zb = true ∧ bindsOk ss (matZ ss za zb).1 = true ∧ appl (matZ ss za zb).1 za = zb := by
  unfold matZ at h ⊢
  cases ha : valOk ss za
  · rw [ha] at h; simp at h
  cases hb : valOk ss zb
  · rw [ha, hb] at h; simp at h
  simp only [ha, hb, Bool.and_self, Bool.true_eq_false, if_false] at h ⊢
  cases hm : mtc ss za zb ini with
  | none => rw [hm] at h; simp at h
  | some r =>
    obtain ⟨im, b'⟩ := r
    obtain ⟨_, _, a3, a4⟩ := valOk_term ha
    obtain ⟨_, b2, b3, b4⟩ := valOk_term hb
    have hz : ∀ z ∈ za, -12 ≤ z := fun z hz => (a3 z hz).1
    have hiok : ImOk ss ini := fun v hv => absurd (ini_at v) hv
    have hv := mtc_val (valOk_sig ha) za zb 1 ini im b' [] a4 b4 b2 b3 hz rfl hiok hm
    obtain ⟨_, _, _, _, s5⟩ := mtc_sound za zb 1 ini im b' [] a4 b4 hz rfl hm
    refine ⟨trivial, trivial, bX_ok (valOk_sig ha) fun v hv' => imX_ok (valOk_sig ha) hv hv', ?_⟩
    show appl (bX (imX im) 12) za = zb
    rw [appl_apN hz]
    have := s5 (imX im) (fun v hv' => by unfold imX; rw [if_neg hv'])
    simpa using this

end Go.Proofs.Ytippmpcaongolaa

/- Words: what lies for the variables of a match, in memory. -/
namespace Go.Proofs.Ytippmpcaongolaa
open Go.RowKit

theorem eql_nil0 (W : World) : (binOp .eql 25 (.slice none 0 0) (.slice none 0 0)).run Try.prog W = .ok (.bool true) W := Lib.run_eql_slice_nil W 25 3 none 0 0 0 0 Try.underlying25
theorem eql_nil1 (W : World) (p : Addr) (n c : Nat) : (binOp .eql 25 (.slice (some p) n c) (.slice none 0 0)).run Try.prog W = .ok (.bool false) W := Lib.run_eql_slice_nil W 25 3 (some p) n c 0 0 Try.underlying25
theorem neq_nil0 (W : World) : (binOp .neq 25 (.slice none 0 0) (.slice none 0 0)).run Try.prog W = .ok (.bool false) W := run_neq_slice_nil W 25 3 none 0 0 Try.underlying25
theorem neq_nil1 (W : World) (p : Addr) (n c : Nat) : (binOp .neq 25 (.slice (some p) n c) (.slice none 0 0)).run Try.prog W = .ok (.bool true) W := run_neq_slice_nil W 25 3 (some p) n c Try.underlying25

theorem idx_agg (W : World) {CS : Array Value} {v n c : Nat} {A : Option Addr} (hv : v < 12) (h : CS[v]? = some (.slice A n c)) : (Instr.index 87 (.agg CS) (.int .i64 (v : Int))).run Try.prog W = .ok (.slice A n c) W := by
  have hn : (0 : Int) ≤ (v : Int) ∧ (v : Int) < ((12 : Nat) : Int) := by omega
  simp [Instr.index, run_underlying Try.underlying87, asIntOf, hn, hv, h, go_sem]

/-- What lies for the variables lies, by its headers, in the block; nil where nothing lies. -/
def ImsAt (W : World) (d : Nat) (im : List (List Int)) : Prop :=
  ∃ hs : List Hd, Blk W d 87 (hs.map fun h => Value.slice h.1 h.2.1 h.2.2).toArray ∧ hs.length = 12 ∧ im.length = 12 ∧
    ∀ j (h : j < hs.length) (h' : j < im.length), IntsAt W W.heap.size hs[j].1 hs[j].2.1 im[j] ∧ (im[j] = [] → hs[j] = (none, 0, 0))
section
variable {W W' : World} {d v : Nat} {im : List (List Int)}
theorem ImsAt.len (h : ImsAt W d im) : im.length = 12 := by obtain ⟨_, _, _, h, _⟩ := h; exact h
theorem ImsAt.lt (h : ImsAt W d im) : d < W.heap.size := by obtain ⟨_, h, _⟩ := h; exact h.lt
theorem ImsAt.new (h : Blk W d 87 #[.slice none 0 0, .slice none 0 0, .slice none 0 0, .slice none 0 0, .slice none 0 0, .slice none 0 0, .slice none 0 0, .slice none 0 0, .slice none 0 0, .slice none 0 0, .slice none 0 0, .slice none 0 0]) : ImsAt W d ini := by
  refine ⟨List.replicate 12 (none, 0, 0), h, rfl, rfl, fun j h1 h2 => ?_⟩
  have e2 : ini[j] = [] := List.getElem_replicate ..
  rw [e2]
  simp only [List.getElem_replicate]
  exact ⟨⟨rfl, by show 0 ≤ 9223372036854775807; omega, fun h => absurd h (Nat.lt_irrefl 0)⟩, fun _ => trivial⟩
theorem ImsAt.below (h : ImsAt W d im) (hb : Below W.heap.size W W') : ImsAt W' d im := by
  obtain ⟨hs, h1, h2, h3, h4⟩ := h
  exact ⟨hs, h1.below hb h1.lt, h2, h3, fun j a b => ⟨(h4 j a b).1.up hb, (h4 j a b).2⟩⟩
theorem ImsAt.get (h : ImsAt W d im) (hv : v < 12) : ∃ A n c, W.cell? ⟨d, v, none⟩ = some (.slice A n c) ∧ W.frozen? ⟨d, v, none⟩ = false ∧ IntsAt W W.heap.size A n (im.getD v []) ∧ (im.getD v [] = [] → A = none ∧ n = 0 ∧ c = 0) ∧ (im.getD v [] ≠ [] → ∃ b off, A = some ⟨b, off, none⟩) := by
  obtain ⟨hs, h1, h2, h3, h4⟩ := h
  have hj : v < hs.length := by omega
  have hj' : v < im.length := by omega
  obtain ⟨a1, a2⟩ := h4 v hj hj'
  have e : im.getD v [] = im[v] := by rw [List.getD_eq_getElem?_getD, List.getElem?_eq_getElem hj']; rfl
  rw [e]
  refine ⟨hs[v].1, hs[v].2.1, hs[v].2.2, ?_, h1.frozen v, a1, fun h => by rw [a2 h]; exact ⟨rfl, rfl, rfl⟩, fun h => ?_⟩
  · rw [h1.cell]
    simp [hj]
  · have h0 : 0 < hs[v].2.1 := by
      rw [a1.len]
      exact List.length_pos_iff.2 h
    obtain ⟨b, off, eA, _⟩ := a1.mem h0
    exact ⟨b, off, eA⟩
theorem ImsAt.put {A : Option Addr} {n c : Nat} {p : List Int} (h : ImsAt W d im) (_hv : v < 12) (h0 : im.getD v [] = []) (hp : IntsAt W W.heap.size A n p) (hne : p ≠ []) : ImsAt (W.setCell ⟨d, v, none⟩ (.slice A n c)) d (imP im v p) := by
  obtain ⟨hs, h1, h2, h3, h4⟩ := h
  unfold imP
  rw [if_pos h0]
  refine ⟨hs.set v (A, n, c), ?_, by simpa using h2, by simpa using h3, fun j a b => ?_⟩
  · have := h1.set_ v (.slice A n c)
    rw [List.map_set]
    simpa using this
  · have hsz : (W.setCell ⟨d, v, none⟩ (.slice A n c)).heap.size = W.heap.size := by simp
    rw [hsz]
    simp only [List.length_set] at a b
    by_cases e : v = j
    · subst e
      rw [List.getElem_set_self, List.getElem_set_self]
      exact ⟨ints_set_blk h1 hp, fun h => absurd h hne⟩
    · rw [List.getElem_set_ne e, List.getElem_set_ne e]
      exact ⟨ints_set_blk h1 (h4 j a b).1, (h4 j a b).2⟩
end

end Go.Proofs.Ytippmpcaongolaa

namespace Go.Proofs.Ytippmpcaongolaa
open Go.RowKit
attribute [local go_sem] eql_nil0 eql_nil1 neq_nil0 neq_nil1

theorem eqT_self (A A2 : Option Addr) (n c n2 c2 : Nat) (xs : List Int) (w : World) (B : Nat) (hx : IntsAt w B A n xs) (hy : IntsAt w B A2 n2 xs) :
    Calls Try.prog 71 #[.slice A n c, .slice A2 n2 c2] w fun e w' => e = .returned (.bool true) ∧ ∃ k, w' = w.drewN k := by
  have := eqT_any A A2 n c n2 c2 xs xs w B hx hy
  simpa using this
theorem eqT_not (A A2 : Option Addr) (n c n2 c2 : Nat) (xs ys : List Int) (w : World) (B : Nat) (hx : IntsAt w B A n xs) (hy : IntsAt w B A2 n2 ys) (h : xs ≠ ys) :
    Calls Try.prog 71 #[.slice A n c, .slice A2 n2 c2] w fun e w' => e = .returned (.bool false) ∧ ∃ k, w' = w.drewN k := by
  have := eqT_any A A2 n c n2 c2 xs ys w B hx hy
  simpa [h] using this

theorem but_of_old {w w' : World} {g : Option Nat} {A : Option Addr} {n : Nat} {t : List Int} (h : IntsAt w w.heap.size A n t) (hb : Below w.heap.size w w') (hg : ∀ k, g = some k → w.heap.size ≤ k) : IntsBut w' g A n t :=
  ⟨h.len, h.max, fun hn => by
    obtain ⟨b, off, e, hlt, hc⟩ := h.mem hn
    exact ⟨b, off, e, Nat.lt_of_lt_of_le hlt hb.size, fun e2 => by have := hg b e2.symm; omega, fun j hj => (hb.cell (p := ⟨b, off + j, none⟩) hlt).trans (hc j hj)⟩⟩

/-- What match hands back. -/
def RetM (w : World) (R : Option (List (List Int) × List Int)) (e : Ending) (w' : World) : Prop :=
  Below w.heap.size w w' ∧ match R with
  | none => e = .returned (.tuple #[.slice none 0 0, .bool false])
  | some r => ∃ A n c ls, e = .returned (.tuple #[.slice A n c, .bool true]) ∧ BindsAt w' w'.heap.size A n ls (bX (imX r.1) 12)
theorem list12 {α : Type} : ∀ (l : List α), l.length = 12 → ∃ y0 y1 y2 y3 y4 y5 y6 y7 y8 y9 y10 y11, l = [y0, y1, y2, y3, y4, y5, y6, y7, y8, y9, y10, y11]
  | [y0, y1, y2, y3, y4, y5, y6, y7, y8, y9, y10, y11], _ => ⟨y0, y1, y2, y3, y4, y5, y6, y7, y8, y9, y10, y11, rfl⟩
/-- Both readings go on side by side. -/
def Beside (ss : Sg) (a b : List Int) : Prop := ∃ n, scan ss n a = some [] ∧ scan ss n b = some []
theorem Beside.var {ss : Sg} {x : Int} {a b : List Int} (h : Beside ss (x :: a) b) (hx : x < 0) : PrtIs ss b 0 (prt ss b 0) ∧ Beside ss a (b.drop (prt ss b 0).length) := by
  obtain ⟨n, h1, h2⟩ := h
  obtain ⟨m, rfl, h1'⟩ := scan_ne h1
  rw [arOf_neg ss hx, Nat.add_zero] at h1'
  obtain ⟨hp, hs⟩ := scan_prt h2
  exact ⟨hp, m, h1', hs⟩
theorem Beside.ne {ss : Sg} {x : Int} {a b : List Int} (h : Beside ss (x :: a) b) : ∃ y b', b = y :: b' := by
  obtain ⟨n, h1, h2⟩ := h
  obtain ⟨m, rfl, h1'⟩ := scan_ne h1
  cases b with
  | nil => cases h2
  | cons y b' => exact ⟨y, b', rfl⟩
theorem Beside.sym {ss : Sg} {x : Int} {a b : List Int} (h : Beside ss (x :: a) (x :: b)) : Beside ss a b := by
  obtain ⟨n, h1, h2⟩ := h
  obtain ⟨m, rfl, h1'⟩ := scan_ne h1
  exact ⟨_, h1', h2⟩

set_option maxRecDepth 100000 in
set_option maxHeartbeats 4000000 in
theorem umatch_any (As A1 A2 : Option Addr) (ns cs n1 c1 n2 c2 : Nat) (ss : Sg) (za zb : List Int) (w : World) (hs : SigAt w w.heap.size As ns ss) (ha : IntsAt w w.heap.size A1 n1 za) (hb : IntsAt w w.heap.size A2 n2 zb) (hc : n2 ≤ c2) (hc2 : c2 ≤ 9223372036854775807) (hva : valOk ss za = true) (hvb : valOk ss zb = true) :
    Calls Try.prog 65 #[.agg #[.slice As ns cs], .slice A1 n1 c1, .slice A2 n2 c2] w (RetM w (mtc ss za zb ini)) := by
  obtain ⟨a1, a2, a3, a4⟩ := valOk_term hva
  obtain ⟨b1, b2, b3, b4⟩ := valOk_term hvb
  have har := sigOk_ar (valOk_sig hva)
  have hl1 := ha.len
  have hl2 := hb.len
  obtain ⟨R, hR⟩ : ∃ R, mtc ss za zb ini = R := ⟨_, rfl⟩
  rw [hR]
  obtain ⟨W0, hW0⟩ : ∃ W0, (w.alloc (.cells #[.slice As ns cs] 84)).alloc (.cells #[.slice none 0 0, .slice none 0 0, .slice none 0 0, .slice none 0 0, .slice none 0 0, .slice none 0 0, .slice none 0 0, .slice none 0 0, .slice none 0 0, .slice none 0 0, .slice none 0 0, .slice none 0 0] 87) = W0 := ⟨_, rfl⟩
  have hB0 : Below w.heap.size w W0 := by rw [← hW0]; exact bel_al (bel_al (Below.refl _ _) _) _
  have k0 : Blk W0 w.heap.size 84 #[.slice As ns cs] := by rw [← hW0]; exact (Blk.new w _ _).alloc _
  have k1 : ImsAt W0 (w.heap.size + 1) ini := by
    refine ImsAt.new ?_
    rw [← hW0]
    have := Blk.new (w.alloc (.cells #[.slice As ns cs] 84)) 87 #[.slice none 0 0, .slice none 0 0, .slice none 0 0, .slice none 0 0, .slice none 0 0, .slice none 0 0, .slice none 0 0, .slice none 0 0, .slice none 0 0, .slice none 0 0, .slice none 0 0, .slice none 0 0]
    rw [World.size_alloc] at this
    exact this
  have HW0 := Lib.hid hW0
  have HB0 := Lib.hid hB0
  have HK0 := Lib.hid k0
  have HK1 := Lib.hid k1
  have HA := Lib.hid ha
  have HB := Lib.hid hb
  have HL1 := Lib.hid hl1
  have HL2 := Lib.hid hl2
  have HNA := Lib.hid a3
  have HM0 := Lib.hid (show mtc ss (za.drop 0) (zb.drop 0) ini = R from hR)
  have HSD := Lib.hid (show Beside ss (za.drop 0) (zb.drop 0) from ⟨1, a4, b4⟩)
  have hn1 : n1 ≤ 60 := by omega
  have hn2 : n2 ≤ 60 := by omega
  have HCB := Lib.hid (fun (q : Nat) (r : List Int) (V : World) (hV : Below w.heap.size w V) (hq : q ≤ n2) (h : scan ss 1 (zb.drop q) = some r) => ubehind_any As A2 ns cs n2 c2 ss zb r q V (hs.up hV) (hb.up hV) har (fun z hz => (b3 z hz).2) (by omega) hq h)
  clear hs ha hb hva hvb a1 a2 a3 a4 b1 b2 b3 b4 har hl1 hl2 hR hW0 hB0 k0 k1
  go_enter Try.func65, Try.ntmps65
  go_wp2_with fail
  rw [HW0.out]
  go_loopw [6, 9, 17] (fun ov qv kv wr => ∃ (k q : Nat) (im : List (List Int)), k ≤ n1 ∧ q ≤ n2 ∧ ov = .slice none 0 0 ∧ qv = .int .i64 q ∧ kv = .int .i64 k ∧ Hid (mtc ss (za.drop k) (zb.drop q) im = R) ∧ Hid (Beside ss (za.drop k) (zb.drop q)) ∧ ImsAt wr (w.heap.size + 1) im ∧ Blk wr w.heap.size 84 #[.slice As ns cs] ∧ Below w.heap.size w wr) (fun _ _ k _ => n1 - (intOf k).toNat)
  case atStart => exact ⟨0, 0, ini, Nat.zero_le _, Nat.zero_le _, rfl, rfl, rfl, HM0, HSD, HK1.out, HK0.out, HB0.out⟩
  case round =>
    obtain ⟨k, q, im, hk, hq, rfl, rfl, rfl, HM, HSi, hims, hbox, hBw⟩ := hrel
    by_cases hlt : k < n1
    · obtain ⟨b1, off1, z, rfl, c01, k1, e1⟩ := HA.out.cellAt hlt
      obtain ⟨b1', off1', he', hbl1, _⟩ := HA.out.mem (by omega)
      cases he'
      have cz := (hBw.cell (p := ⟨b1, off1 + k, none⟩) hbl1).trans c01
      have hzz := HNA.out z (by rw [← e1]; exact List.getElem_mem k1)
      have hdr : za.drop k = z :: za.drop (k + 1) := by rw [List.drop_eq_getElem_cons k1, e1]
      have hm := HM.out
      have hsd := HSi.out
      rw [hdr] at hm hsd
      obtain ⟨y, b', hb'⟩ := hsd.ne
      have hq2 : q < n2 := by
        rcases Nat.lt_or_ge q n2 with h | h
        · exact h
        · rw [List.drop_of_length_le (by have := HL2.out; omega)] at hb'; cases hb'
      obtain ⟨b2, off2, y2, rfl, c02, k2, e2⟩ := HB.out.cellAt hq2
      obtain ⟨b2', off2', he', hbl2, hcells2⟩ := HB.out.mem (by omega)
      cases he'
      have cy := (hBw.cell (p := ⟨b2, off2 + q, none⟩) hbl2).trans c02
      have hk0 : (0 : Int) ≤ (k : Int) := by omega
      have hk1' : (k : Int) < (n1 : Int) := by omega
      have hq0 : (0 : Int) ≤ (q : Int) := by omega
      have hq1 : (q : Int) < (n2 : Int) := by omega
      have cb := hbox.cell 0
      simp only [Array.getElem?_singleton, if_true] at cb
      by_cases hneg : z < 0
      · obtain ⟨hP, hsd2⟩ := hsd.var hneg
        obtain ⟨j, hj⟩ : ∃ j : Nat, -z - 1 = (j : Int) := ⟨(-z - 1).toNat, by omega⟩
        have hj12 : j < 12 := by omega
        rw [mtc_var hneg, hj, Int.toNat_natCast] at hm
        have w1' : IntKind.i64.wrap (-z) = -z := by rw [IntKind.wrap_i64]; omega
        have w2' : IntKind.i64.wrap (-z - 1) = (j : Int) := by rw [IntKind.wrap_i64]; omega
        have hj0 : (0 : Int) ≤ (j : Int) := by omega
        have hj1 : (j : Int) < 12 := by omega
        obtain ⟨P, hPP⟩ : ∃ P, prt ss (zb.drop q) 0 = P := ⟨_, rfl⟩
        rw [hPP] at hm hP hsd2
        have hPl := hP.len
        have hPle := hP.le
        have hwh := hP.whole
        simp only [List.drop_drop, Nat.zero_add, List.length_drop] at hwh hPle hm hsd2
        obtain ⟨L, hL⟩ : ∃ L, P.length = L := ⟨_, rfl⟩
        rw [hL] at hPl hPle hwh hm hsd2
        have hPc : ∀ (V : World), Below w.heap.size w V → ∀ i (h : i < P.length), V.cell? ⟨b2, off2 + q + i, none⟩ = some (.int .i64 P[i]) := fun V hV i hi => by
          have hs2 := hP.split
          simp only [List.drop_zero] at hs2
          have h3 : (zb.drop q)[i]? = some P[i] := by rw [hs2, List.getElem?_append_left hi, List.getElem?_eq_getElem hi]
          rw [List.getElem?_drop] at h3
          obtain ⟨h4, h5⟩ := List.getElem?_eq_some_iff.1 h3
          rw [← h5, Nat.add_assoc]
          exact (hV.cell (p := ⟨b2, off2 + (q + i), none⟩) hbl2).trans (hcells2 (q + i) h4)
        have HPI := Lib.hid (fun (V : World) (hV : Below w.heap.size w V) => show IntsAt V V.heap.size (some ⟨b2, off2 + q, none⟩) L P from ⟨hL.symm, by have := HL2.out; omega, fun _ => ⟨b2, off2 + q, rfl, Nat.lt_of_lt_of_le hbl2 hV.size, hPc V hV⟩⟩)
        have hlz := HL2.out
        obtain ⟨e, he⟩ : ∃ e, q + L = e := ⟨_, rfl⟩
        have CBE := HCB.out q _ wr hBw hq hwh
        rw [List.length_drop, show zb.length - (zb.length - (q + L)) = e by omega] at CBE
        rw [he] at hm hsd2
        have CB := Lib.hid CBE
        have hee : e - q = L := by omega
        have hqe : q ≤ e := by omega
        have hec : e ≤ c2 := by omega
        have hqc : q ≠ c2 := by omega
        have he60 : e ≤ 60 := by omega
        have hen : e ≤ n2 := by omega
        have HCL := Lib.hid (fun (V : World) (hV : Below w.heap.size w V) => (cloneT_any V b2 (off2 + q) L (c2 - q) P hPl (by omega) hL (hPc V hV) (Nat.lt_of_lt_of_le hbl2 hV.size)).mono (R' := fun e' w' => ∃ A4 c4, e' = .returned (.slice A4 L c4) ∧ IntsAt w' w'.heap.size A4 L P ∧ Below V.heap.size V w') (fun e' w' ⟨v4, e1, e2, e3⟩ => by
          rw [List.length_map, hL] at e2
          obtain ⟨A4, c4, rfl, hI4⟩ := row_ints e2 (by omega)
          exact ⟨A4, c4, e1, hI4, e3⟩))
        obtain ⟨A5, n5, c5, g1, g2, g3, g4, g5⟩ := hims.get hj12
        have HIM := Lib.hid hims
        have HBX := Lib.hid hbox
        have HBW := Lib.hid hBw
        have HMm := Lib.hid hm
        have HSD2 := Lib.hid hsd2
        have HLL := Lib.hid hL
        have hbs := hbox.lt
        by_cases hnil : im.getD j [] = []
        · obtain ⟨rfl, rfl, rfl⟩ := g4 hnil
          have HNIL := Lib.hid hnil
          clear hims hbox hBw HM HSi hm hsd hsd2 hdr hb' e1 e2 k1 k2 hP hPP hPc hwh hlz hL he CBE g3 g4 g5 hcells2 c01 c02 hnil hj
          go_wp2_with (first
            | (go_at_call 115; refine CB.out.mono ?_; rintro e' w2 ⟨rfl, hB2⟩; have x1 := (hB2.cell (p := ⟨w.heap.size + 1, j, none⟩) (cell_lt g1)).trans g1; have HB2 := Lib.hid hB2; clear hB2)
            | (go_at_call 88; refine (HCL.out _ (below_then HBW.out HB2.out)).mono ?_; rintro e' w4 ⟨A4, c4, rfl, hI4, hB4⟩; have HB4 := Lib.hid (below_then HB2.out hB4); have x4 := (HB4.out.cell (p := ⟨w.heap.size + 1, j, none⟩) (cell_lt g1)).trans g1; have f4 := (HB4.out.frozen (p := ⟨w.heap.size + 1, j, none⟩) (cell_lt g1)).trans g2; have HI4 := Lib.hid hI4; clear hB4 hI4))
          have x5 : (w4.setCell ⟨w.heap.size + 1, j, none⟩ (.slice A4 L c4)).cell? ⟨w.heap.size + 1, j, none⟩ = some (.slice A4 L c4) := World.cell?_setCell_same' _ _ _ (by rw [x4]; rfl)
          have hne : P ≠ [] := fun h => by have := HLL.out; rw [h] at this; simp at this; omega
          have himS := (HIM.out.below HB4.out).put (c := c4) hj12 HNIL.out HI4.out hne
          have hBS : Below w.heap.size w (w4.setCell ⟨w.heap.size + 1, j, none⟩ (.slice A4 L c4)) := (below_then HBW.out HB4.out).setCell (p := ⟨w.heap.size + 1, j, none⟩) (by show w.heap.size ≤ w.heap.size + 1; omega) _
          have hbxS := (HBX.out.below HB4.out HBX.out.lt).far (p := ⟨w.heap.size + 1, j, none⟩) (by show w.heap.size ≠ w.heap.size + 1; omega) (.slice A4 L c4)
          have hIS : IntsAt (w4.setCell ⟨w.heap.size + 1, j, none⟩ (.slice A4 L c4)) (w4.setCell ⟨w.heap.size + 1, j, none⟩ (.slice A4 L c4)).heap.size A4 L P := by
            obtain ⟨A, n, c, q1, _, q3, _⟩ := himS.get hj12
            rw [x5] at q1
            cases q1
            rwa [imP_at (by have := HIM.out.len; omega) HNIL.out] at q3
          obtain ⟨W5, hW5⟩ : ∃ W5, w4.setCell ⟨w.heap.size + 1, j, none⟩ (.slice A4 L c4) = W5 := ⟨_, rfl⟩
          rw [hW5] at x5 himS hBS hbxS hIS ⊢
          have HIMS := Lib.hid himS
          have HBS := Lib.hid hBS
          have HBXS := Lib.hid hbxS
          have CS := Lib.hid (fun nq => eqT_self A4 (some ⟨b2, off2 + q, none⟩) L c4 L (c2 - q) P (W5.drewN nq) W5.heap.size (hIS.keep fun _ _ => rfl) ((HPI.out W5 hBS).keep fun _ _ => rfl))
          have hrel2 := HMm.out
          rw [if_pos (imP_at (by have := HIM.out.len; omega) HNIL.out)] at hrel2
          have HR2 := Lib.hid hrel2
          clear himS hBS hbxS hIS hW5 hne hrel2
          go_quiet ((go_at_call 71; with_reducible exact quiet_draw2 (CS.out _)))
          go_wp2
          go_roundw
          case rel => exact ⟨k + 1, e, _, by omega, hen, rfl, rfl, by go_num, HR2, HSD2, HIMS.out.below (below_drewN (Below.refl _ _) nq), HBXS.out.drewN nq, below_drewN HBS.out nq⟩
          case measure => simp [intOf]; omega
        · obtain ⟨b5, off5, rfl⟩ := g5 hnil
          rw [imP_keep hnil] at hm
          have himP : imP im j P = im := by unfold imP; rw [if_neg hnil]
          rw [himP] at hm
          obtain ⟨Y, hY⟩ : ∃ Y, im.getD j [] = Y := ⟨_, rfl⟩
          rw [hY] at hm g3
          have HI5 := Lib.hid g3
          have hc5 := cell_lt g1
          by_cases hYP : Y = P
          · rw [if_pos hYP] at hm
            subst hYP
            have HR2 := Lib.hid hm
            clear HMm hims hbox hBw HM HSi hm hsd hsd2 hdr hb' e1 e2 k1 k2 hP hPP hPc hwh hlz hL he CBE g3 g4 g5 hcells2 c01 c02 hnil hj hY himP
            go_wp2_with (go_at_call 115; refine CB.out.mono ?_; rintro e' w2 ⟨rfl, hB2⟩; have x1 := (hB2.cell (p := ⟨w.heap.size + 1, j, none⟩) hc5).trans g1; have HB2 := Lib.hid hB2; clear hB2)
            have CS := Lib.hid (fun nq => eqT_self (some ⟨b5, off5, none⟩) (some ⟨b2, off2 + q, none⟩) n5 c5 L (c2 - q) Y (w2.drewN nq) w2.heap.size ((HI5.out.up HB2.out).keep fun _ _ => rfl) ((HPI.out w2 (below_then HBW.out HB2.out)).keep fun _ _ => rfl))
            go_quiet ((go_at_call 71; with_reducible exact quiet_draw2 (CS.out _)))
            go_wp2
            go_roundw
            case rel => exact ⟨k + 1, e, im, by omega, hen, rfl, rfl, by go_num, HR2, HSD2, (HIM.out.below HB2.out).below (below_drewN (Below.refl _ _) nq), (HBX.out.below HB2.out HBX.out.lt).drewN nq, below_drewN (below_then HBW.out HB2.out) nq⟩
            case measure => simp [intOf]; omega
          · rw [if_neg hYP] at hm
            have HR2 := Lib.hid hm
            have HNE := Lib.hid hYP
            clear HMm hims hbox hBw HM HSi hm hsd hsd2 hdr hb' e1 e2 k1 k2 hP hPP hPc hwh hlz hL he CBE g3 g4 g5 hcells2 c01 c02 hnil hj hY himP hYP
            go_wp2_with (go_at_call 115; refine CB.out.mono ?_; rintro e' w2 ⟨rfl, hB2⟩; have x1 := (hB2.cell (p := ⟨w.heap.size + 1, j, none⟩) hc5).trans g1; have HB2 := Lib.hid hB2; clear hB2)
            have CS := Lib.hid (fun nq => eqT_not (some ⟨b5, off5, none⟩) (some ⟨b2, off2 + q, none⟩) n5 c5 L (c2 - q) Y P (w2.drewN nq) w2.heap.size ((HI5.out.up HB2.out).keep fun _ _ => rfl) ((HPI.out w2 (below_then HBW.out HB2.out)).keep fun _ _ => rfl) HNE.out)
            go_quiet ((go_at_call 71; with_reducible exact quiet_draw2 (CS.out _)))
            go_wp2
            go_ret2
            rw [← HR2.out]
            exact ⟨below_drewN (below_then HBW.out HB2.out) nq, rfl⟩
      · have hd2 : zb.drop q = y2 :: zb.drop (q + 1) := by rw [List.drop_eq_getElem_cons k2, e2]
        rw [mtc_sym hneg, hd2] at hm
        simp only [List.head?_cons, List.drop_succ_cons, List.drop_zero, Option.some.injEq] at hm
        have hneg' : 0 ≤ z := by omega
        have HIM := Lib.hid hims
        have HBX := Lib.hid hbox
        have HBW := Lib.hid hBw
        by_cases hyz : y2 = z
        · subst hyz
          rw [if_pos rfl] at hm
          rw [hd2] at hsd
          have HR2 := Lib.hid hm
          have HSD2 := Lib.hid hsd.sym
          clear hims hbox hBw HM HSi hm hsd hdr hb' e1 e2 k1 k2 hd2 hcells2 c01 c02 hneg
          go_wp2
          go_roundw
          case rel => exact ⟨k + 1, q + 1, im, by omega, by omega, rfl, by go_num, by go_num, HR2, HSD2, HIM.out, HBX.out, HBW.out⟩
          case measure => simp [intOf]; omega
        · rw [if_neg hyz] at hm
          have HR2 := Lib.hid hm
          clear hims hbox hBw HM HSi hm hsd hdr hb' e1 e2 k1 k2 hd2 hcells2 c01 c02 hneg
          go_wp2
          go_ret2
          rw [← HR2.out]
          exact ⟨HBW.out, rfl⟩
    · obtain rfl : k = n1 := by omega
      have hm := HM.out
      rw [List.drop_of_length_le (by have := HL1.out; omega)] at hm
      have hm' : some (im, zb.drop q) = R := hm
      have HIM := Lib.hid hims
      have HBX := Lib.hid hbox
      have HBW := Lib.hid hBw
      have HR2 := Lib.hid hm'
      obtain ⟨hs, h1, h2, h3, h4⟩ := hims
      have H1 := Lib.hid h1
      have H2 := Lib.hid h2
      have H4 := Lib.hid h4
      clear hbox hBw HM HSi hm hm' h1 h2 h3 h4
      obtain ⟨y0, y1, y2, y3, y4, y5, y6, y7, y8, y9, y10, y11, ehs⟩ := list12 hs H2.out
      have HC1 := Lib.hid H1.out
      rw [ehs] at HC1
      have q0 := HC1.out.cell 0
      have q1 := HC1.out.cell 1
      have q2 := HC1.out.cell 2
      have q3 := HC1.out.cell 3
      have q4 := HC1.out.cell 4
      have q5 := HC1.out.cell 5
      have q6 := HC1.out.cell 6
      have q7 := HC1.out.cell 7
      have q8 := HC1.out.cell 8
      have q9 := HC1.out.cell 9
      have q10 := HC1.out.cell 10
      have q11 := HC1.out.cell 11
      simp only [List.map_cons, List.map_nil, List.getElem?_toArray, List.getElem?_cons_zero, List.getElem?_cons_succ] at q0 q1 q2 q3 q4 q5 q6 q7 q8 q9 q10 q11
      go_wp2
      obtain ⟨CS, hCS⟩ : ∃ CS : Array Value, (hs.map fun h => Value.slice h.1 h.2.1 h.2.2).toArray = CS := ⟨_, rfl⟩
      have hCS2 : #[Value.slice y0.1 y0.2.1 y0.2.2, Value.slice y1.1 y1.2.1 y1.2.2, Value.slice y2.1 y2.2.1 y2.2.2, Value.slice y3.1 y3.2.1 y3.2.2, Value.slice y4.1 y4.2.1 y4.2.2, Value.slice y5.1 y5.2.1 y5.2.2, Value.slice y6.1 y6.2.1 y6.2.2, Value.slice y7.1 y7.2.1 y7.2.2, Value.slice y8.1 y8.2.1 y8.2.2, Value.slice y9.1 y9.2.1 y9.2.2, Value.slice y10.1 y10.2.1 y10.2.2, Value.slice y11.1 y11.2.1 y11.2.2] = CS := by rw [← hCS, ehs]; rfl
      rw [hCS2]
      have HCS := Lib.hid hCS
      obtain ⟨Wa, hWa⟩ : ∃ Wa, Wa = wr := ⟨_, rfl⟩
      subst hWa
      clear q0 q1 q2 q3 q4 q5 q6 q7 q8 q9 q10 q11 HC1 hCS hCS2 ehs
      go_loopw [6, 64] (fun ov kv wr => ∃ (v L : Nat) (Av : Option Addr) (cv : Nat) (lr : List Hd) (cc : List Bd), v ≤ 12 ∧ kv = .int .i64 v ∧ ov = .slice Av L cv ∧ Hid (cc = bX (imX im) v) ∧ BRowAt wr Wa.heap.size (.slice Av L cv) L lr cc ∧ Below Wa.heap.size Wa wr) (fun _ k _ => 12 - (intOf k).toNat)
      case atStart => exact ⟨0, 0, none, 0, [], [], Nat.zero_le _, rfl, rfl, Lib.hid rfl, BRowAt.nil _ _, Below.refl _ _⟩
      case round =>
        obtain ⟨v, L, Av, cv, lr, cc, hv, rfl, rfl, HCC, hrow, hBr⟩ := hrel
        have hLc := hrow.bl
        have hLe := bX_le (imX im) v
        rw [← HCC.out] at hLe
        have HROW := Lib.hid hrow
        have HBR := Lib.hid hBr
        by_cases hv12 : v < 12
        · have hsucc := bX_succ (imX im) v
          rw [← HCC.out] at hsucc
          obtain ⟨i1, i2⟩ := H4.out v (by rw [H2.out]; exact hv12) (by rw [HIM.out.len]; exact hv12)
          have hget : im.getD v [] = im[v]'(by rw [HIM.out.len]; exact hv12) := by rw [List.getD_eq_getElem?_getD, List.getElem?_eq_getElem]; rfl
          rw [← hget] at i1 i2
          have hcs : CS[v]? = some (.slice (hs[v]'(by rw [H2.out]; exact hv12)).1 (hs[v]'(by rw [H2.out]; exact hv12)).2.1 (hs[v]'(by rw [H2.out]; exact hv12)).2.2) := by
            rw [← HCS.out]
            simp [H2.out, hv12]
          obtain ⟨⟨A4, m4, c4⟩, hy⟩ : ∃ y, (hs[v]'(by rw [H2.out]; exact hv12)) = y := ⟨_, rfl⟩
          rw [hy] at i1 i2 hcs
          have hix := fun W => idx_agg W hv12 hcs
          clear hcs
          have hv0 : (0 : Int) ≤ (v : Int) := by omega
          have hv1 : (v : Int) < 12 := by omega
          by_cases hnil : im.getD v [] = []
          · obtain ⟨rfl, rfl, rfl⟩ : A4 = none ∧ m4 = 0 ∧ c4 = 0 := by have := i2 hnil; simpa using this
            have hX : imX im v = [-(v : Int) - 1] := by unfold imX; rw [if_pos hnil]
            rw [if_pos hX, List.append_nil] at hsucc
            have HC2 := Lib.hid hsucc.symm
            clear hrow hBr hLc hLe hsucc i1 i2 hget hy hX hnil
            go_wp2
            go_roundw
            case rel => exact ⟨v + 1, L, Av, cv, lr, cc, by omega, by go_num, rfl, HC2, HROW.out, HBR.out⟩
            case measure => simp [intOf]; omega
          · have hX : imX im v = im.getD v [] := by unfold imX; rw [if_neg hnil]
            rw [hX] at hsucc
            have h0 : 0 < m4 := by
              have := i1.len
              simp only at this
              rw [this]
              exact List.length_pos_iff.2 hnil
            obtain ⟨b4, off4, eA, _⟩ := i1.mem h0
            simp only at eA
            subst eA
            have HBO := Lib.hid (bound_any Av (some ⟨b4, off4, none⟩) L cv m4 c4 Wa.heap.size (v : Int) lr cc (im.getD v []) wr hrow (but_of_old i1 hBr (fun g e => (hrow.row.lt g e).1)) (by omega) hBr.size hv0 hv1)
            rw [← hsucc] at HBO
            clear hrow hBr hLc hLe hsucc i1 i2 hget hy hX hnil
            go_wp2_with (go_at_call 116; refine HBO.out.mono ?_; rintro e w4 ⟨A7, L7, c7, l7, rfl, hR7, hL7, hG7⟩; have HR7 := Lib.hid hR7; have HG7 := Lib.hid (HBR.out.grown hG7 HBR.out.size (fun g e => (HROW.out.row.lt g e).1)); clear hR7 hG7)
            go_roundw
            case rel => exact ⟨v + 1, L7, A7, c7, l7, _, by omega, by go_num, rfl, Lib.hid rfl, HR7.out, HG7.out⟩
            case measure => simp [intOf]; omega
        · obtain rfl : v = 12 := by omega
          obtain ⟨Ar, cr, er, hr⟩ := hrow.binds (by omega)
          cases er
          have HRR := Lib.hid hr
          clear hrow hBr hLc hLe hr
          go_wp2
          go_ret2
          rw [← HR2.out]
          refine ⟨below_then HBW.out HBR.out, Av, L, cv, lr, rfl, ?_⟩
          show BindsAt _ _ _ _ _ (bX (imX im) 12)
          rw [← HCC.out]
          exact HRR.out

end Go.Proofs.Ytippmpcaongolaa
