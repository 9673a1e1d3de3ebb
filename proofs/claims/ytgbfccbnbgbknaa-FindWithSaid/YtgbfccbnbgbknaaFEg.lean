/- The walk of FindWithin. -/
import Derived.Test.YtgbfccbnbgbknaaFCg
import Derived.Test.YtgbfccbnbgbknaaB6g
import Derived.Test.YtgbfccbnbgbknaaW0g
import Derived.Test.YtgbfccbnbgbknaaY17g
import Derived.Test.YtgbfccbnbgbknaaN24g
/- Contracts: common, Closeness; the statements' own 'awake' of layer 5. -/
namespace Go.Proofs.Ytgbfccbnbgbknaa
open Go.RowKit

/-- How many symbols two terms have in common, f levels deep. -/
def cmnF (ss : Sg) : Nat → List Int → List Int → Nat
  | 0, _, _ => 0
  | f + 1, a, b => if a.headD 0 < 0 ∨ a.headD 0 ≠ b.headD 0 then 0 else 1 + ((List.range (arOf ss (a.headD 0))).map fun k => cmnF ss f (argL ss a k) (argL ss b k)).sum
/-- .. the first k arguments of a symbol -/
def cmnT (ss : Sg) (f : Nat) (a b : List Int) (k : Nat) : Nat := 1 + ((List.range k).map fun k => cmnF ss f (argL ss a k) (argL ss b k)).sum
theorem cmnT_zero (ss : Sg) (f : Nat) (a b : List Int) : cmnT ss f a b 0 = 1 := rfl
theorem cmnT_succ (ss : Sg) (f : Nat) (a b : List Int) (k : Nat) : cmnT ss f a b (k + 1) = cmnT ss f a b k + cmnF ss f (argL ss a k) (argL ss b k) := by
  unfold cmnT
  rw [List.range_succ]
  simp
  omega
theorem cmnF_no {ss : Sg} {f : Nat} {a b : List Int} (h : a.headD 0 < 0 ∨ a.headD 0 ≠ b.headD 0) : cmnF ss (f + 1) a b = 0 := by unfold cmnF; rw [if_pos h]
theorem cmnF_yes {ss : Sg} {f : Nat} {a b : List Int} (h : ¬ (a.headD 0 < 0 ∨ a.headD 0 ≠ b.headD 0)) : cmnF ss (f + 1) a b = cmnT ss f a b (arOf ss (a.headD 0)) := by unfold cmnF; rw [if_neg h]; rfl

theorem argL_facts {ss : Sg} {a : List Int} (h : valOk ss a = true) {k : Nat} (hk : k < arOf ss (a.headD 0)) :
    valOk ss (argL ss a k) = true ∧ (argL ss a k).length < a.length ∧ pos ss a (k + 1) = pos ss a k + (argL ss a k).length ∧ pos ss a (k + 1) ≤ a.length := by
  obtain ⟨h1, h60, hnum, hscan⟩ := valOk_term h
  have hh : a.headD 0 = a[0] := by cases a with
    | nil => simp at h1
    | cons z r => rfl
  rw [hh] at hk
  have hs := scan_head hscan h1
  obtain ⟨g1, g2⟩ := argL_ok hs h1 hk
  obtain ⟨_, p2, _⟩ := pos_step hs h1 hk
  obtain ⟨_, q2, _⟩ := pos_scan hs h1 (show k ≤ _ from Nat.le_of_lt hk)
  obtain ⟨_, r2, r3⟩ := pos_scan hs h1 (show k + 1 ≤ _ from hk)
  refine ⟨?_, by omega, by omega, r3⟩
  simp only [valOk, termOk, Bool.and_eq_true, decide_eq_true_eq, List.all_eq_true, numOk]
  refine ⟨valOk_sig h, by omega, by omega, fun z hz => ?_, g1⟩
  exact hnum z (List.mem_of_mem_drop (List.mem_of_mem_take hz))
theorem pos_ge1 {ss : Sg} {a : List Int} (h : valOk ss a = true) : 1 ≤ pos ss a 0 := by
  obtain ⟨h1, h60, hnum, hscan⟩ := valOk_term h
  obtain ⟨_, q2, _⟩ := pos_scan (scan_head hscan h1) h1 (Nat.zero_le _)
  omega
theorem cmnF_le {ss : Sg} : ∀ (f : Nat) (a b : List Int), valOk ss a = true → cmnF ss f a b ≤ a.length
  | 0, a, b, _ => Nat.zero_le _
  | f + 1, a, b, h => by
    by_cases hc : a.headD 0 < 0 ∨ a.headD 0 ≠ b.headD 0
    · rw [cmnF_no hc]; omega
    · rw [cmnF_yes hc]
      have key : ∀ k, k ≤ arOf ss (a.headD 0) → cmnT ss f a b k ≤ pos ss a k := by
        intro k
        induction k with
        | zero => intro _; rw [cmnT_zero]; exact pos_ge1 h
        | succ k ih =>
          intro hk
          obtain ⟨v1, _, v3, _⟩ := argL_facts h (show k < _ from hk)
          have := ih (by omega)
          have := cmnF_le f (argL ss a k) (argL ss b k) v1
          rw [cmnT_succ]; omega
      have h0 := key _ (Nat.le_refl _)
      obtain ⟨h1, _, _, hscan⟩ := valOk_term h
      have hh : a.headD 0 = a[0] := by cases a with
        | nil => simp at h1
        | cons z r => rfl
      obtain ⟨_, _, q3⟩ := pos_scan (scan_head hscan h1) h1 (Nat.le_refl _)
      rw [← hh] at q3
      omega
theorem cmnT_le {ss : Sg} {f : Nat} {a b : List Int} (h : valOk ss a = true) : ∀ k, k ≤ arOf ss (a.headD 0) → cmnT ss f a b k ≤ 60
  | 0, _ => by rw [cmnT_zero]; omega
  | k + 1, hk => by
    have key : ∀ k, k ≤ arOf ss (a.headD 0) → cmnT ss f a b k ≤ pos ss a k := by
      intro k
      induction k with
      | zero => intro _; rw [cmnT_zero]; exact pos_ge1 h
      | succ k ih =>
        intro hk
        obtain ⟨v1, _, v3, _⟩ := argL_facts h (show k < _ from hk)
        have := ih (by omega)
        have := cmnF_le f (argL ss a k) (argL ss b k) v1
        rw [cmnT_succ]; omega
    have := key _ hk
    obtain ⟨_, _, _, q⟩ := argL_facts h (show k < _ from hk)
    obtain ⟨_, h60, _, _⟩ := valOk_term h
    omega
theorem argsL_at {ss : Sg} {a : List Int} {k : Nat} (hk : k < arOf ss (a.headD 0)) : (argsL ss a)[k]? = some (argL ss a k) := by
  unfold argsL argsTo
  rw [List.getElem?_map, List.getElem?_range hk]
  rfl
theorem argsL_len (ss : Sg) (a : List Int) : (argsL ss a).length = arOf ss (a.headD 0) := by simp [argsL, argsTo]

set_option maxRecDepth 100000 in
set_option maxHeartbeats 2000000 in
theorem common5_any (As : Option Addr) (ns cs : Nat) (ss : Sg) : ∀ (m : Nat) (Aa Ab : Option Addr) (na ca nb cb : Nat) (za zb : List Int) (w : World), za.length < m → SigAt w w.heap.size As ns ss → IntsAt w w.heap.size Aa na za → IntsAt w w.heap.size Ab nb zb →
    (na ≤ ca ∧ ca ≤ 9223372036854775807) → (nb ≤ cb ∧ cb ≤ 9223372036854775807) → valOk ss za = true → valOk ss zb = true →
    Calls Try.prog 147 #[.slice As ns cs, .slice Aa na ca, .slice Ab nb cb] w fun e w' => e = .returned (.int .i64 (cmnF ss m za zb : Nat)) ∧ Below w.heap.size w w' := by
  intro m
  induction m with
  | zero => intro _ _ _ _ _ _ _ _ _ h; omega
  | succ m ih =>
    intro Aa Ab na ca nb cb za zb w hm hs ha hb hca hcb va vb
    obtain ⟨l1, l60, lnum, lscan⟩ := valOk_term va
    obtain ⟨m1, m60, mnum, mscan⟩ := valOk_term vb
    have hla := ha.len
    have hlb := hb.len
    obtain ⟨ba, offa, xa, rfl, ca0, ka1, ea1⟩ := ha.cellAt (show 0 < na by omega)
    obtain ⟨bb, offb, xb, rfl, cb0, kb1, eb1⟩ := hb.cellAt (show 0 < nb by omega)
    have hha : za.headD 0 = xa := by cases za with
      | nil => simp at l1
      | cons z r => exact ea1
    have hhb : zb.headD 0 = xb := by cases zb with
      | nil => simp at m1
      | cons z r => exact eb1
    rw [Nat.add_zero] at ca0 cb0
    have na0 : (0 : Int) < (na : Int) := by omega
    have nb0 : (0 : Int) < (nb : Int) := by omega
    have CA0 := Lib.hid (fun k : Nat => show (w.drewN k).cell? ⟨ba, offa, none⟩ = some (.int .i64 xa) from ca0)
    have CB0 := Lib.hid (fun k : Nat => show (w.drewN k).cell? ⟨bb, offb, none⟩ = some (.int .i64 xb) from cb0)
    by_cases hneg : xa < 0
    · have H := Lib.hid (cmnF_no (ss := ss) (f := m) (a := za) (b := zb) (.inl (by omega)))
      have hd : decide (xa < 0) = true := decide_eq_true hneg
      clear ih hm hs ha hb hca hcb va vb l1 l60 lnum lscan m1 m60 mnum mscan ka1 ea1 kb1 eb1 hha hhb hla hlb hneg
      go_enter Try.func147, Try.ntmps147
      go_wp2_with fail
      go_quiet (fail)
      go_wp2
      go_ret
      exact ⟨ret_i (by rw [H.out]; rfl), below_drewN (Below.refl _ _) _⟩
    · by_cases hne : xa = xb
      · subst hne
        have HY := Lib.hid (cmnF_yes (ss := ss) (f := m) (a := za) (b := zb) (by rw [hha, hhb]; omega))
        have hd : decide (xa < 0) = false := decide_eq_false hneg
        have hb0 : (xa != xa) = false := by simp
        obtain ⟨r, hr⟩ : ∃ r, arOf ss xa = r := ⟨_, rfl⟩
        have CArgA := Lib.hid (fun V (h : Below w.heap.size w V) => argsC_ok As (some ⟨ba, offa, none⟩) ns cs na ca ss za V (hs.up h) (ha.up h) hca.1 hca.2 va)
        have CArgB := Lib.hid (fun V (h : Below w.heap.size w V) => argsC_ok As (some ⟨bb, offb, none⟩) ns cs nb cb ss zb V (hs.up h) (hb.up h) hcb.1 hcb.2 vb)
        have HS := Lib.hid (fun V (h : Below w.heap.size w V) => hs.up h)
        have IH := Lib.hid ih
        have FA := Lib.hid (fun k (hk : k < r) => argL_facts (k := k) va (by rw [hha, hr]; exact hk))
        have FB := Lib.hid (fun k (hk : k < r) => argL_facts (k := k) vb (by rw [hhb, hr]; exact hk))
        have GA := Lib.hid (fun k (hk : k < r) => argsL_at (ss := ss) (a := za) (k := k) (by rw [hha, hr]; exact hk))
        have GB := Lib.hid (fun k (hk : k < r) => argsL_at (ss := ss) (a := zb) (k := k) (by rw [hhb, hr]; exact hk))
        have LA := Lib.hid (show (argsL ss za).length = r by rw [argsL_len, hha, hr])
        have LB := Lib.hid (show (argsL ss zb).length = r by rw [argsL_len, hhb, hr])
        have TL := Lib.hid (fun k (hk : k ≤ r) => cmnT_le (ss := ss) (f := m) (a := za) (b := zb) va k (by rw [hha, hr]; exact hk))
        have CL := Lib.hid (fun k (hk : k < r) => cmnF_le (ss := ss) m (argL ss za k) (argL ss zb k) (argL_facts (k := k) va (by rw [hha, hr]; exact hk)).1)
        have HM := Lib.hid (And.intro hm l60)
        rw [hha, hr] at HY
        clear ih hm hs ha hb hca hcb va vb l1 l60 lnum lscan m1 m60 mnum mscan ka1 ea1 kb1 eb1 hha hhb hla hlb hneg hr
        go_enter Try.func147, Try.ntmps147
        go_wp2_with fail
        go_quiet (fail)
        go_wp2_with (first
          | (go_at_call 188; (with_reducible refine (CArgA.out _ (below_drewN (Below.refl _ _) _)).mono ?_); rintro e w1 ⟨A1, n1, c1, l1, rfl, hT1, hB1, hk1⟩; have HT1 := Lib.hid hT1; have HK1 := Lib.hid hk1; have HB1 := Lib.hid (show Below w.heap.size w w1 from (below_drewN (Below.refl _ w) _).trans hB1); clear hT1 hk1 hB1)
          | (go_at_call 188; (with_reducible refine (CArgB.out _ HB1.out).mono ?_); rintro e w2 ⟨A2, n2, c2, l2, rfl, hT2, hB2, hk2⟩; have HT2 := Lib.hid hT2; have HK2 := Lib.hid hk2; have HB2 := Lib.hid (below_then HB1.out hB2); have HT1' := Lib.hid (HT1.out.up hB2); clear hT2 hk2 hB2))
        have hn1 : n1 = r := by have := HT1.out.len; have := LA.out; omega
        subst hn1
        have hn2 : n2 = n1 := by have := HT2.out.len; have := LB.out; omega
        subst hn2
        go_loopw [11, 41] (fun v i wr => ∃ k : Nat, k ≤ n2 ∧ i = .int .i64 k ∧ v = .int .i64 (cmnT ss m za zb k : Nat) ∧ Below w2.heap.size w2 wr) (fun _ i _ => n2 - (intOf i).toNat)
        case atStart => exact ⟨0, Nat.zero_le _, rfl, rfl, Below.refl _ _⟩
        case round =>
          obtain ⟨k, hk, rfl, rfl, hB⟩ := hrel
          have hmx := HT2.out.hds.max
          by_cases hlt : k < n2
          · obtain ⟨b3, off3, A3, n3, c3, rfl, hb3, q1, q2⟩ := HT1'.out.hds.cellAt hlt
            obtain ⟨b4, off4, A4, n4, c4, rfl, hb4, q3, q4⟩ := HT2.out.hds.cellAt hlt
            obtain ⟨t3, u1, _, hI3⟩ := HT1'.out.at q2
            obtain ⟨t4, u2, _, hI4⟩ := HT2.out.at q4
            rw [GA.out k hlt] at u1
            rw [GB.out k hlt] at u2
            cases u1
            cases u2
            have r1 := (hB.cell (p := ⟨b3, off3 + k, none⟩) hb3).trans q1
            have r2 := (hB.cell (p := ⟨b4, off4 + k, none⟩) hb4).trans q3
            have hk0 : (0 : Int) ≤ (k : Int) := by omega
            have hk1 : (k : Int) < (n2 : Int) := by omega
            have hlen := (FA.out k hlt).2.1
            have C := Lib.hid (IH.out A3 A4 n3 c3 n4 c4 _ _ wr (by have := HM.out.1; omega) (HS.out wr (below_then HB2.out hB)) ((hI3.below hB).more hB.size) ((hI4.below hB).more hB.size) (cap_at HK1.out q2) (cap_at HK2.out q4) (FA.out k hlt).1 (FB.out k hlt).1)
            have HN := Lib.hid (cmnT_succ ss m za zb k)
            have hS := TL.out k hk
            have hX := CL.out k hlt
            have h60 : (argL ss za k).length ≤ 60 := by have := HM.out.2; omega
            have HB := Lib.hid hB
            generalize cmnT ss m za zb k = S at *
            generalize cmnF ss m (argL ss za k) (argL ss zb k) = X at *
            have hX2 : X ≤ 60 := by omega
            clear hX h60 hlen hB q1 q2 q3 q4 hI3 hI4
            go_wp2_with (go_at_call 147; refine C.out.mono ?_; rintro e w5 ⟨rfl, hB5⟩; have HB5 := Lib.hid (below_then HB.out hB5); clear hB5)
            go_roundw
            case rel => exact ⟨k + 1, by omega, by go_num, by rw [HN.out]; go_num, HB5.out⟩
            case measure => simp [intOf]; omega
          · obtain rfl : k = n2 := by omega
            have HB := Lib.hid hB
            clear hB
            go_wp2
            go_ret
            exact ⟨ret_i (by rw [HY.out]), below_then HB2.out HB.out⟩
      · have H := Lib.hid (cmnF_no (ss := ss) (f := m) (a := za) (b := zb) (.inr (by rw [hha, hhb]; exact hne)))
        have hd : decide (xa < 0) = false := decide_eq_false hneg
        have hb0 : (xa != xb) = true := by simp [hne]
        clear ih hm hs ha hb hca hcb va vb l1 l60 lnum lscan m1 m60 mnum mscan ka1 ea1 kb1 eb1 hha hhb hla hlb hneg hne
        go_enter Try.func147, Try.ntmps147
        go_wp2_with fail
        go_quiet (fail)
        go_wp2
        go_ret
        exact ⟨ret_i (by rw [H.out]; rfl), below_drewN (Below.refl _ _) _⟩

/-- The closeness of two terms, and the error. -/
def cloZ (ss : Sg) (za zb : List Int) : Nat × Int := if (valOk ss za && valOk ss zb) = true then (cmnF ss 1000 za zb, 0) else (0, 1)

set_option maxRecDepth 100000 in
set_option maxHeartbeats 1000000 in
theorem closeness_any (As Aa Ab : Option Addr) (ns cs na ca nb cb : Nat) (ss : Sg) (za zb : List Int) (w : World) (hs : SigAt w w.heap.size As ns ss) (ha : IntsAt w w.heap.size Aa na za) (hb : IntsAt w w.heap.size Ab nb zb) (hca : na ≤ ca ∧ ca ≤ 9223372036854775807) (hcb : nb ≤ cb ∧ cb ≤ 9223372036854775807) :
    Calls Try.prog 79 #[.slice As ns cs, .slice Aa na ca, .slice Ab nb cb] w fun e w' => e = .returned (.tuple #[.int .i64 ((cloZ ss za zb).1 : Nat), .int .i64 (cloZ ss za zb).2]) ∧ Below w.heap.size w w' := by
  have C1 := Lib.hid (valid_any As Aa ns cs na ca ss za w hs ha)
  cases h1 : valOk ss za
  · have H : Hid (cloZ ss za zb = (0, 1)) := Lib.hid (by unfold cloZ; rw [h1]; simp)
    rw [h1] at C1
    clear hs ha hb hca hcb h1
    go_enter Try.func79, Try.ntmps79
    go_wp2_with (go_at_call 99; refine C1.out.mono ?_; rintro e w1 ⟨rfl, hB1⟩; have HB1 := Lib.hid hB1; clear hB1)
    go_ret2
    exact ⟨by rw [H.out]; rfl, HB1.out⟩
  · have C2 := Lib.hid (fun V (h : Below w.heap.size w V) => valid_any As Ab ns cs nb cb ss zb V (hs.up h) (hb.up h))
    cases h2 : valOk ss zb
    · have H : Hid (cloZ ss za zb = (0, 1)) := Lib.hid (by unfold cloZ; rw [h1, h2]; simp)
      rw [h1] at C1
      rw [h2] at C2
      clear hs ha hb hca hcb h1 h2
      go_enter Try.func79, Try.ntmps79
      go_wp2_with (first
        | (go_at_call 99; (with_reducible refine C1.out.mono ?_); rintro e w1 ⟨rfl, hB1⟩; have HB1 := Lib.hid hB1; clear hB1)
        | (go_at_call 99; (with_reducible refine (C2.out _ HB1.out).mono ?_); rintro e w2 ⟨rfl, hB2⟩; have HB2 := Lib.hid (below_then HB1.out hB2); clear hB2))
      go_ret2
      exact ⟨by rw [H.out]; rfl, HB2.out⟩
    · have H : Hid (cloZ ss za zb = (cmnF ss 1000 za zb, 0)) := Lib.hid (by unfold cloZ; rw [h1, h2]; simp)
      have hl : za.length < 1000 := by obtain ⟨_, h60, _⟩ := valOk_term h1; omega
      have C3 := Lib.hid (fun V (h : Below w.heap.size w V) => common5_any As ns cs ss 1000 Aa Ab na ca nb cb za zb V hl (hs.up h) (ha.up h) (hb.up h) hca hcb h1 h2)
      rw [h1] at C1
      rw [h2] at C2
      clear hs ha hb hca hcb h1 h2 hl
      go_enter Try.func79, Try.ntmps79
      go_wp2_with (first
        | (go_at_call 99; (with_reducible refine C1.out.mono ?_); rintro e w1 ⟨rfl, hB1⟩; have HB1 := Lib.hid hB1; clear hB1)
        | (go_at_call 99; (with_reducible refine (C2.out _ HB1.out).mono ?_); rintro e w2 ⟨rfl, hB2⟩; have HB2 := Lib.hid (below_then HB1.out hB2); clear hB2)
        | (go_at_call 147; refine (C3.out _ HB2.out).mono ?_; rintro e w3 ⟨rfl, hB3⟩; have HB3 := Lib.hid (below_then HB2.out hB3); clear hB3))
      go_ret2
      exact ⟨by rw [H.out]; rfl, HB3.out⟩

set_option maxRecDepth 100000 in
set_option maxHeartbeats 1000000 in
theorem awakeF_any (w : World) : Calls Try.prog 55 #[] w fun e w' => e = .returned (.bool true) ∧ Below w.heap.size w w' := by
  obtain ⟨W, hW⟩ : ∃ W, ((w.alloc (.cells cellsCN 77)).alloc (.cells #[.int .i64 0, .int .i64 1, .int .i64 (-1), .int .i64 (-2)] 3)).alloc (.cells #[.int .i64 0, .int .i64 1, .int .i64 (-1), .int .i64 1, .int .i64 (-1)] 3) = W := ⟨_, rfl⟩
  have k1 : Blk W w.heap.size 77 cellsCN := by rw [← hW]; exact ((Blk.new w _ _).alloc _).alloc _
  have k2 : Blk W (w.heap.size + 1) 3 #[.int .i64 0, .int .i64 1, .int .i64 (-1), .int .i64 (-2)] := by
    rw [← hW]
    have := (Blk.new (w.alloc (.cells cellsCN 77)) 3 #[.int .i64 0, .int .i64 1, .int .i64 (-1), .int .i64 (-2)]).alloc (.cells #[.int .i64 0, .int .i64 1, .int .i64 (-1), .int .i64 1, .int .i64 (-1)] 3)
    rw [World.size_alloc] at this
    exact this
  have k3 : Blk W (w.heap.size + 1 + 1) 3 #[.int .i64 0, .int .i64 1, .int .i64 (-1), .int .i64 1, .int .i64 (-1)] := by
    rw [← hW]
    have := Blk.new ((w.alloc (.cells cellsCN 77)).alloc (.cells #[.int .i64 0, .int .i64 1, .int .i64 (-1), .int .i64 (-2)] 3)) 3 #[.int .i64 0, .int .i64 1, .int .i64 (-1), .int .i64 1, .int .i64 (-1)]
    rw [World.size_alloc, World.size_alloc] at this
    exact this
  have hB : Below w.heap.size w W := by rw [← hW]; exact bel_al (bel_al (bel_al (Below.refl _ w) _) _) _
  have C := Lib.hid (closeness_any (some ⟨w.heap.size, 0, none⟩) (some ⟨w.heap.size + 1, 0, none⟩) (some ⟨w.heap.size + 1 + 1, 0, none⟩) 2 2 4 4 5 5 sgCN [0, 1, -1, -2] [0, 1, -1, 1, -1] W (sig_of_blk k1) (ints_of_blk _ _ _ rfl k2 rfl (by decide)) (ints_of_blk _ _ _ rfl k3 rfl (by decide)) (by omega) (by omega))
  rw [show cloZ sgCN [0, 1, -1, -2] [0, 1, -1, 1, -1] = (2, 0) by decide +kernel] at C
  have HW := Lib.hid hW
  have HB := Lib.hid hB
  clear k1 k2 k3 hB hW
  go_enter Try.func55, Try.ntmps55
  go_wp2_with (go_at_call 79; first | rw [HW.out] | (unfold cellsCN at HW; rw [HW.out]); refine C.out.mono ?_; rintro e w3 ⟨rfl, hB3⟩; have HB3 := Lib.hid (below_then HB.out hB3); clear hB3)
  go_ret
  exact ⟨rfl, HB3.out⟩

end Go.Proofs.Ytgbfccbnbgbknaa

namespace Go.Proofs.Ytgbfccbnbgbknaa
open Go.RowKit

theorem ren1_neg {seen : List Int} {z : Int} (h : z < 0) : ren1 seen z < 0 := by
  unfold ren1
  rw [if_neg (by omega)]
  unfold cnum
  omega
theorem flat_canonL : ∀ (zs seen : List Int), flat (canonL seen zs) = flat zs
  | [], _ => rfl
  | z :: r, seen => by
    have ih := flat_canonL r (addSeen seen z)
    unfold flat at ih ⊢
    simp only [canonL, List.map_cons, ih]
    congr 1
    by_cases h : z < 0
    · rw [if_pos h, if_pos (ren1_neg h)]
    · have e : ren1 seen z = z := by unfold ren1; rw [if_pos (by omega)]
      rw [e]
theorem flat_alike {ss : Sg} {a b : List Int} (h : alikeOk ss a b = true) : flat a = flat b := by
  unfold alikeOk at h
  simp only [Bool.and_eq_true, decide_eq_true_eq] at h
  rw [← flat_canonL a [], ← flat_canonL b []]
  exact congrArg flat h.2.2
/-- What is an instance meets; what is both is alike; what is alike has the same shape. -/
theorem within_is {ss : Sg} {t q : List Int} (ht : valOk ss t = true) (hq : valOk ss q = true) :
    ((insB ss q t || insB ss t q) = true → hasZ ss 12 t q = true) ∧ (insB ss q t && insB ss t q) = alikeOk ss t q ∧ (alikeOk ss t q = true → decide (flat t = flat q) = true) := by
  refine ⟨fun h => ?_, by rw [Bool.and_comm]; exact ins_alike, fun h => decide_eq_true (flat_alike h)⟩
  rw [Bool.or_eq_true] at h
  rcases h with h | h
  · exact (meet_bound (by rw [ins_refl]; exact ht) h).1
  · exact (meet_bound h (by rw [ins_refl]; exact hq)).1
/-- So many statements, no larger than can be looked at. -/
def fewB (ns n : Nat) (m : Int) (ls : List Hd) : Bool := decide ((n : Int) ≤ m) && smallOk ns ls
set_option maxHeartbeats 400000 in
theorem few5_any (As A : Option Addr) (ns cs n c : Nat) (m : Int) (ls : List Hd) (w : World) (B : Nat) (hl : HdsAt w B A n ls) :
    Calls Try.prog 54 #[.slice As ns cs, .slice A n c, .int .i64 m] w fun e w' => e = .returned (.bool (fewB ns n m ls)) ∧ w = w' := by
  have C := Lib.hid (small_any As A ns cs n c ls w B hl)
  have hmx := hl.max
  unfold fewB
  by_cases h : (n : Int) ≤ m
  · rw [decide_eq_true h]
    have d : decide ((n : Int) ≤ m) = true := decide_eq_true h
    clear hl h
    obtain ⟨q, hq⟩ : ∃ q, smallOk ns ls = q := ⟨_, rfl⟩
    rw [hq] at C ⊢
    clear hq
    go_enter Try.func54, Try.ntmps54
    go_wp2_with (go_at_call 17; refine C.out.mono ?_; rintro e w' ⟨rfl, rfl⟩)
    go_ret
    exact ⟨ret_b (by simp), rfl⟩
  · rw [decide_eq_false h]
    have d : decide ((n : Int) ≤ m) = false := decide_eq_false h
    clear hl h C
    go_enter Try.func54, Try.ntmps54
    go_wp2
    go_ret
    exact ⟨ret_b (by simp), rfl⟩
theorem hdF_one (w : World) (A : Option Addr) (n c : Nat) : HdsAt (w.alloc (.cells #[.slice A n c] 25)) (w.alloc (.cells #[.slice A n c] 25)).heap.size (some ⟨w.heap.size, 0, none⟩) 1 [(A, n, c)] :=
  HdsAt.of_blk [(A, n, c)] (Blk.new w _ _) rfl rfl (by simp)

end Go.Proofs.Ytgbfccbnbgbknaa
