/- Contract: match. -/
import Derived.Test.YtojofbmpknpggaaN5g
import Derived.Test.YtojofbmpknpggaaY21g
import Derived.Test.YtojofbmpknpggaaN17g
import Derived.Laws.Cover3
/- What a match finds: the plain mathematics. -/
namespace Go.Proofs.Ytojofbmpknpggaa
open Go.RowKit

/-- What lies for a variable when a part is to become its image. -/
def imP (im : List (List Int)) (v : Nat) (p : List Int) : List (List Int) := if im.getD v [] = [] then im.set v p else im
/-- One term read beside another one: what the variables become, and what is left of the other. -/
def mtc (ss : Sg) : List Int → List Int → List (List Int) → Option (List (List Int) × List Int)
  | [], b, im => some (im, b)
  | x :: a, b, im =>
    if x < 0 then
      if (imP im (-x - 1).toNat (prt ss b 0)).getD (-x - 1).toNat [] = prt ss b 0 then mtc ss a (b.drop (prt ss b 0).length) (imP im (-x - 1).toNat (prt ss b 0)) else none
    else if b.head? = some x then mtc ss a (b.drop 1) im else none
theorem imP_len (im : List (List Int)) (v : Nat) (p : List Int) : (imP im v p).length = im.length := by
  unfold imP; split <;> simp
theorem imP_at {im : List (List Int)} {v : Nat} {p : List Int} (hv : v < im.length) (h : im.getD v [] = []) : (imP im v p).getD v [] = p := by
  unfold imP; rw [if_pos h]; simp [List.getD_eq_getElem?_getD, hv]
theorem imP_ne {im : List (List Int)} {v j : Nat} {p : List Int} (h : j ≠ v) : (imP im v p).getD j [] = im.getD j [] := by
  unfold imP; split
  · simp [List.getD_eq_getElem?_getD, List.getElem?_set_ne (Ne.symm h)]
  · rfl
theorem imP_keep {im : List (List Int)} {v j : Nat} {p : List Int} (h : im.getD j [] ≠ []) : (imP im v p).getD j [] = im.getD j [] := by
  by_cases e : j = v
  · subst e; unfold imP; rw [if_neg h]
  · exact imP_ne e
theorem mtc_var {ss : Sg} {x : Int} {a b : List Int} {im : List (List Int)} (h : x < 0) : mtc ss (x :: a) b im = if (imP im (-x - 1).toNat (prt ss b 0)).getD (-x - 1).toNat [] = prt ss b 0 then mtc ss a (b.drop (prt ss b 0).length) (imP im (-x - 1).toNat (prt ss b 0)) else none := by
  rw [mtc, if_pos h]
theorem mtc_sym {ss : Sg} {x : Int} {a b : List Int} {im : List (List Int)} (h : ¬ x < 0) : mtc ss (x :: a) b im = if b.head? = some x then mtc ss a (b.drop 1) im else none := by
  rw [mtc, if_neg h]
theorem scan_prt {ss : Sg} {b r : List Int} {m : Nat} (h : scan ss (m + 1) b = some r) : PrtIs ss b 0 (prt ss b 0) ∧ scan ss m (b.drop (prt ss b 0).length) = some r := by
  rw [show m + 1 = 1 + m by omega, scan_add] at h
  cases h1 : scan ss 1 b with
  | none => rw [h1] at h; cases h
  | some q =>
    rw [h1] at h
    have hp := prt_is (ss := ss) (zs := b) (a := 0) (r0 := q) (by simpa using h1)
    have hw := hp.whole
    rw [List.drop_zero, Nat.zero_add, h1] at hw
    cases hw
    exact ⟨hp, h⟩
theorem arOf_neg (ss : Sg) {x : Int} (h : x < 0) : arOf ss x = 0 := by unfold arOf; rw [if_pos h]
theorem scan_ne {ss : Sg} {x : Int} {p : List Int} {n : Nat} (h : scan ss n (x :: p) = some []) : ∃ m, n = m + 1 ∧ scan ss (m + arOf ss x) p = some [] := by
  cases n with
  | zero => rw [scan_zero] at h; cases h
  | succ m => exact ⟨m, rfl, h⟩
/-- A term under what the variables become. -/
def apN (σ : Nat → List Int) (p : List Int) : List Int := p.flatMap fun z => if z < 0 then σ (-z - 1).toNat else [z]
theorem apN_cons (σ : Nat → List Int) (x : Int) (p : List Int) : apN σ (x :: p) = (if x < 0 then σ (-x - 1).toNat else [x]) ++ apN σ p := rfl
theorem mtc_sound {ss : Sg} : ∀ (p b : List Int) (n : Nat) (im im' : List (List Int)) (b' r : List Int), scan ss n p = some [] → scan ss n b = some r → (∀ z ∈ p, -12 ≤ z) → im.length = 12 → mtc ss p b im = some (im', b') →
    im'.length = 12 ∧ b' = r ∧ (∀ v, im.getD v [] ≠ [] → im'.getD v [] = im.getD v []) ∧ (∀ z ∈ p, z < 0 → im'.getD (-z - 1).toNat [] ≠ []) ∧ (∀ σ : Nat → List Int, (∀ v, im'.getD v [] ≠ [] → σ v = im'.getD v []) → apN σ p ++ r = b)
  | [], b, n, im, im', b', r, h1, h2, _, hl, h => by
    cases n with
    | succ n => cases h1
    | zero =>
      rw [scan_zero] at h2
      cases h2
      cases h
      exact ⟨hl, rfl, fun _ _ => rfl, fun z hz => by simp at hz, fun σ _ => rfl⟩
  | x :: p, b, n, im, im', b', r, h1, h2, hz, hl, h => by
    obtain ⟨m, rfl, h1'⟩ := scan_ne h1
    by_cases hx : x < 0
    · rw [arOf_neg ss hx, Nat.add_zero] at h1'
      obtain ⟨hp, hs⟩ := scan_prt h2
      rw [mtc_var hx] at h
      split at h
      · rename_i he
        obtain ⟨a1, a2, a3, a4, a5⟩ := mtc_sound p _ m _ im' b' r h1' hs (fun z hz' => hz z (List.mem_cons_of_mem _ hz')) (by rw [imP_len]; exact hl) h
        have hne : (imP im (-x - 1).toNat (prt ss b 0)).getD (-x - 1).toNat [] ≠ [] := by
          rw [he]; intro e; have := hp.len; rw [e] at this; simp at this
        have hv := a3 _ hne
        rw [he] at hv
        refine ⟨a1, a2, fun v hv' => ?_, fun z hz' hz0 => ?_, fun σ hσ => ?_⟩
        · have e1 := imP_keep (v := (-x - 1).toNat) (p := prt ss b 0) hv'
          rw [a3 v (by rw [e1]; exact hv'), e1]
        · rcases List.mem_cons.1 hz' with rfl | hz'
          · rw [hv, ← he]; exact hne
          · exact a4 z hz' hz0
        · rw [apN_cons, if_pos hx, hσ _ (by rw [hv, ← he]; exact hne), hv, List.append_assoc, a5 σ hσ]
          have := hp.split
          simp only [List.drop_zero, Nat.zero_add] at this
          exact this.symm
      · cases h
    · rw [mtc_sym hx] at h
      split at h
      · rename_i he
        cases b with
        | nil => cases he
        | cons y b =>
          cases he
          obtain ⟨a1, a2, a3, a4, a5⟩ := mtc_sound p b (m + arOf ss x) im im' b' r h1' h2 (fun z hz' => hz z (List.mem_cons_of_mem _ hz')) hl h
          refine ⟨a1, a2, a3, fun z hz' hz0 => ?_, fun σ hσ => ?_⟩
          · rcases List.mem_cons.1 hz' with rfl | hz'
            · exact absurd hz0 hx
            · exact a4 z hz' hz0
          · rw [apN_cons, if_neg hx, List.append_assoc, a5 σ hσ]; rfl
      · cases h
theorem prt_front {ss : Sg} {q : List Int} (x : List Int) (h : scan ss 1 q = some []) : prt ss (q ++ x) 0 = q := by
  have h1 := scan_append ss _ _ _ x h
  rw [List.nil_append] at h1
  rw [prt_eq (n := q.length) (x := x) (by simpa using h1) (by simp)]
  simp
theorem mtc_complete {ss : Sg} {σ : Nat → List Int} (hσ : ∀ v, v < 12 → scan ss 1 (σ v) = some []) (r : List Int) : ∀ (p : List Int) (im : List (List Int)), (∀ z ∈ p, -12 ≤ z) → im.length = 12 → (∀ v, im.getD v [] ≠ [] → im.getD v [] = σ v) →
    ∃ im', mtc ss p (apN σ p ++ r) im = some (im', r)
  | [], im, _, _, _ => ⟨im, rfl⟩
  | x :: p, im, hz, hl, hc => by
    have hz' : ∀ z ∈ p, -12 ≤ z := fun z h => hz z (List.mem_cons_of_mem _ h)
    have h12 := hz x (List.mem_cons_self ..)
    rw [apN_cons, List.append_assoc]
    by_cases hx : x < 0
    · rw [if_pos hx, mtc_var hx]
      have hv : (-x - 1).toNat < 12 := by omega
      rw [prt_front _ (hσ _ hv)]
      have hat : (imP im (-x - 1).toNat (σ (-x - 1).toNat)).getD (-x - 1).toNat [] = σ (-x - 1).toNat := by
        by_cases e : im.getD (-x - 1).toNat [] = []
        · exact imP_at (by omega) e
        · rw [imP_keep e]; exact hc _ e
      rw [if_pos hat, List.drop_left]
      refine mtc_complete hσ r p _ hz' (by rw [imP_len]; exact hl) fun v hv' => ?_
      by_cases e : v = (-x - 1).toNat
      · subst e; exact hat
      · rw [imP_ne e] at hv' ⊢; exact hc v hv'
    · rw [if_neg hx, mtc_sym hx]
      simp only [List.cons_append, List.nil_append, List.head?_cons, List.drop_succ_cons, List.drop_zero, if_true]
      exact mtc_complete hσ r p im hz' hl hc
/-- All that lies for variables is a valid term. -/
def ImOk (ss : Sg) (im : List (List Int)) : Prop := ∀ v, im.getD v [] ≠ [] → valOk ss (im.getD v []) = true
theorem prt_ok {ss : Sg} {zs : List Int} {a : Nat} {P : List Int} (hs : sigOk ss = true) (hl : zs.length ≤ 60) (hz : NumsIn ss zs) (hP : PrtIs ss zs a P) : valOk ss P = true := by
  have hle := hP.le
  simp only [valOk, termOk, Bool.and_eq_true, decide_eq_true_eq, List.all_eq_true, numOk]
  refine ⟨hs, hP.len, by omega, fun z hz' => ?_, hP.good⟩
  have : z ∈ zs.drop a := by rw [hP.split]; exact List.mem_append_left _ hz'
  exact hz z (List.mem_of_mem_drop this)
theorem mtc_val {ss : Sg} (hs : sigOk ss = true) : ∀ (p b : List Int) (n : Nat) (im im' : List (List Int)) (b' r : List Int), scan ss n p = some [] → scan ss n b = some r → b.length ≤ 60 → NumsIn ss b → (∀ z ∈ p, -12 ≤ z) → im.length = 12 → ImOk ss im → mtc ss p b im = some (im', b') → ImOk ss im'
  | [], b, n, im, im', b', r, h1, h2, _, _, _, hl, hi, h => by cases h; exact hi
  | x :: p, b, n, im, im', b', r, h1, h2, h60, hb, hz, hl, hi, h => by
    obtain ⟨m, rfl, h1'⟩ := scan_ne h1
    have hz' : ∀ z ∈ p, -12 ≤ z := fun z h => hz z (List.mem_cons_of_mem _ h)
    have h12 := hz x (List.mem_cons_self ..)
    by_cases hx : x < 0
    · rw [arOf_neg ss hx, Nat.add_zero] at h1'
      obtain ⟨hp, hsc⟩ := scan_prt h2
      rw [mtc_var hx] at h
      split at h
      · rename_i he
        refine mtc_val hs p _ m _ im' b' r h1' hsc (by rw [List.length_drop]; omega) (fun z hz => hb z (List.mem_of_mem_drop hz)) hz' (by rw [imP_len]; exact hl) (fun v hv => ?_) h
        by_cases e : v = (-x - 1).toNat
        · subst e; rw [he]; exact prt_ok hs h60 hb hp
        · rw [imP_ne e] at hv ⊢; exact hi v hv
      · cases h
    · rw [mtc_sym hx] at h
      split at h
      · rename_i he
        cases b with
        | nil => cases he
        | cons y b =>
          cases he
          exact mtc_val hs p b (m + arOf ss x) im im' b' r h1' h2 (by simp at h60; omega) hb.tail hz' hl hi h
      · cases h

/-- Binds of what the variables below k become. -/
def bX (X : Nat → List Int) (k : Nat) : List Bd := (List.range k).filterMap fun v : Nat => if X v = [-(v : Int) - 1] then none else some ((v : Int), X v)
theorem bX_succ (X : Nat → List Int) (k : Nat) : bX X (k + 1) = bX X k ++ if X k = [-(k : Int) - 1] then [] else [((k : Int), X k)] := by
  unfold bX
  rw [List.range_succ, List.filterMap_append]
  congr 1
  by_cases h : X k = [-(k : Int) - 1]
  · simp [h]
  · simp [h]
theorem mem_bX {X : Nat → List Int} {k : Nat} {x : Bd} : x ∈ bX X k ↔ ∃ v : Nat, v < k ∧ X v ≠ [-(v : Int) - 1] ∧ x = ((v : Int), X v) := by
  unfold bX
  rw [List.mem_filterMap]
  constructor
  · rintro ⟨v, hv, e⟩
    rw [List.mem_range] at hv
    by_cases h : X v = [-(v : Int) - 1]
    · rw [if_pos h] at e; cases e
    · rw [if_neg h] at e; cases e; exact ⟨v, hv, h, rfl⟩
  · rintro ⟨v, hv, h, rfl⟩
    exact ⟨v, List.mem_range.2 hv, by rw [if_neg h]⟩
theorem bX_pairwise (X : Nat → List Int) (k : Nat) : (bX X k).Pairwise (fun x y => x.1 < y.1) := by
  induction k with
  | zero => simp [bX]
  | succ k ih =>
    rw [bX_succ, List.pairwise_append]
    refine ⟨ih, ?_, fun x hx y hy => ?_⟩
    · split <;> simp
    · obtain ⟨v, hv, _, rfl⟩ := mem_bX.1 hx
      split at hy
      · simp at hy
      · obtain rfl := List.mem_singleton.1 hy
        simpa using hv
theorem bX_ok {ss : Sg} {X : Nat → List Int} (hs : sigOk ss = true) (hX : ∀ v, v < 12 → valOk ss (X v) = true) : bindsOk ss (bX X 12) = true := by
  refine bindsTo_of hs _ _ (fun x hx => ?_) (bX_pairwise _ _)
  obtain ⟨v, hv, h, rfl⟩ := mem_bX.1 hx
  exact ⟨by show (-1 : Int) < (v : Int); omega, by show (v : Int) < 12; omega, hX v hv, h⟩
theorem ofB_bX (X : Nat → List Int) {v : Nat} (hv : v < 12) : ofB (bX X 12) (v : Int) = X v := by
  by_cases h : X v = [-(v : Int) - 1]
  · rw [h]
    refine ofB_none fun x hx e => ?_
    obtain ⟨u, hu, hh, rfl⟩ := mem_bX.1 hx
    obtain rfl : u = v := by have e' : (u : Int) = (v : Int) := e
                             omega
    exact hh h
  · exact ofB_mem (bX_pairwise X 12) (mem_bX.2 ⟨v, hv, h, rfl⟩)
theorem appl_apN {X : Nat → List Int} : ∀ {zs : List Int}, (∀ z ∈ zs, -12 ≤ z) → appl (bX X 12) zs = apN X zs
  | [], _ => rfl
  | z :: zs, h => by
    have h12 := h z (List.mem_cons_self ..)
    rw [appl_cons, apN_cons, appl_apN fun x hx => h x (List.mem_cons_of_mem _ hx)]
    congr 1
    by_cases hn : z < 0
    · rw [if_pos hn, if_pos hn]
      have := ofB_bX X (v := (-z - 1).toNat) (by omega)
      rwa [show (((-z - 1).toNat : Nat) : Int) = -z - 1 by omega] at this
    · rw [if_neg hn, if_neg hn]

/-- What a variable becomes: itself, where nothing lies for it. -/
def imX (im : List (List Int)) (v : Nat) : List Int := if im.getD v [] = [] then [-(v : Int) - 1] else im.getD v []
def ini : List (List Int) := List.replicate 12 []
theorem ini_at (v : Nat) : ini.getD v [] = [] := by
  simp only [ini, List.getD_eq_getElem?_getD, List.getElem?_replicate]
  split <;> rfl
theorem imX_ok {ss : Sg} {im : List (List Int)} (hs : sigOk ss = true) (hi : ImOk ss im) {v : Nat} (hv : v < 12) : valOk ss (imX im v) = true := by
  unfold imX
  by_cases h : im.getD v [] = []
  · rw [if_pos h]; exact valOk_var hs (by omega) (by omega)
  · rw [if_neg h]; exact hi v h
/-- The binds that make a term equal to another one, and the error. -/
def matZ (ss : Sg) (za zb : List Int) : List Bd × Int :=
  if (valOk ss za && valOk ss zb) = false then ([], 1) else
  match mtc ss za zb ini with
  | none => ([], 8)
  | some r => (bX (imX r.1) 12, 0)
theorem mat_sound {ss : Sg} {za zb : List Int} (h : (matZ ss za zb).2 = 0) : valOk ss za = true ∧ valOk ss zb = true ∧ bindsOk ss (matZ ss za zb).1 = true ∧ appl (matZ ss za zb).1 za = zb := by
  unfold matZ at h ⊢
  cases ha : valOk ss za
  · rw [ha] at h; simp at h
  cases hb : valOk ss zb
  · rw [ha, hb] at h; simp at h
  simp only [ha, hb, Bool.and_self, Bool.true_eq_false, if_false] at h ⊢
  cases hm : mtc ss za zb ini with
  | none => rw [hm] at h; simp at h
  | some r =>
    obtain ⟨im, b'⟩ := r
    obtain ⟨_, _, a3, a4⟩ := valOk_term ha
    obtain ⟨_, b2, b3, b4⟩ := valOk_term hb
    have hz : ∀ z ∈ za, -12 ≤ z := fun z hz => (a3 z hz).1
    have hiok : ImOk ss ini := fun v hv => absurd (ini_at v) hv
    have hv := mtc_val (valOk_sig ha) za zb 1 ini im b' [] a4 b4 b2 b3 hz rfl hiok hm
    obtain ⟨_, _, _, _, s5⟩ := mtc_sound za zb 1 ini im b' [] a4 b4 hz rfl hm
    refine ⟨trivial, trivial, bX_ok (valOk_sig ha) fun v hv' => imX_ok (valOk_sig ha) hv hv', ?_⟩
    show appl (bX (imX im) 12) za = zb
    rw [appl_apN hz]
    have := s5 (imX im) (fun v hv' => by unfold imX; rw [if_neg hv'])
    simpa using this

end Go.Proofs.Ytojofbmpknpggaa

/- Words: what lies for the variables of a match, in memory. -/
namespace Go.Proofs.Ytojofbmpknpggaa
open Go.RowKit

theorem eql_nil0 (W : World) : (binOp .eql 45 (.slice none 0 0) (.slice none 0 0)).run Try.prog W = .ok (.bool true) W := Lib.run_eql_slice_nil W 45 3 none 0 0 0 0 Try.underlying45
theorem eql_nil1 (W : World) (p : Addr) (n c : Nat) : (binOp .eql 45 (.slice (some p) n c) (.slice none 0 0)).run Try.prog W = .ok (.bool false) W := Lib.run_eql_slice_nil W 45 3 (some p) n c 0 0 Try.underlying45
theorem neq_nil0 (W : World) : (binOp .neq 45 (.slice none 0 0) (.slice none 0 0)).run Try.prog W = .ok (.bool false) W := run_neq_slice_nil W 45 3 none 0 0 Try.underlying45
theorem neq_nil1 (W : World) (p : Addr) (n c : Nat) : (binOp .neq 45 (.slice (some p) n c) (.slice none 0 0)).run Try.prog W = .ok (.bool true) W := run_neq_slice_nil W 45 3 (some p) n c Try.underlying45

section
variable {W W' : World} {d v : Nat} {im : List (List Int)}
end

end Go.Proofs.Ytojofbmpknpggaa

namespace Go.Proofs.Ytojofbmpknpggaa
open Go.RowKit
attribute [local go_sem] eql_nil0 eql_nil1 neq_nil0 neq_nil1

/-- Both readings go on side by side. -/
def Beside (ss : Sg) (a b : List Int) : Prop := ∃ n, scan ss n a = some [] ∧ scan ss n b = some []
theorem Beside.var {ss : Sg} {x : Int} {a b : List Int} (h : Beside ss (x :: a) b) (hx : x < 0) : PrtIs ss b 0 (prt ss b 0) ∧ Beside ss a (b.drop (prt ss b 0).length) := by
  obtain ⟨n, h1, h2⟩ := h
  obtain ⟨m, rfl, h1'⟩ := scan_ne h1
  rw [arOf_neg ss hx, Nat.add_zero] at h1'
  obtain ⟨hp, hs⟩ := scan_prt h2
  exact ⟨hp, m, h1', hs⟩
theorem Beside.ne {ss : Sg} {x : Int} {a b : List Int} (h : Beside ss (x :: a) b) : ∃ y b', b = y :: b' := by
  obtain ⟨n, h1, h2⟩ := h
  obtain ⟨m, rfl, h1'⟩ := scan_ne h1
  cases b with
  | nil => cases h2
  | cons y b' => exact ⟨y, b', rfl⟩
theorem Beside.sym {ss : Sg} {x : Int} {a b : List Int} (h : Beside ss (x :: a) (x :: b)) : Beside ss a b := by
  obtain ⟨n, h1, h2⟩ := h
  obtain ⟨m, rfl, h1'⟩ := scan_ne h1
  exact ⟨_, h1', h2⟩

end Go.Proofs.Ytojofbmpknpggaa
