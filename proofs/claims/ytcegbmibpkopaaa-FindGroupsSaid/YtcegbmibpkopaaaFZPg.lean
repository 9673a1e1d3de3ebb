/- lemmarylaw05.FindGroups: for every input the statement's function returns true, and its arguments read behind the call as they read before. No condition. -/
import Derived.Test.YtcegbmibpkopaaaFCg
import Derived.Test.YtcegbmibpkopaaaB6g
import Derived.Test.YtcegbmibpkopaaaW0g
import Derived.Test.YtcegbmibpkopaaaY17g
import Derived.Test.YtcegbmibpkopaaaN24g
import Derived.Test.YtcegbmibpkopaaaFXg
import Derived.Test.YtcegbmibpkopaaaFQg
import Derived.Test.YtcegbmibpkopaaaQ6g
import Derived.Test.YtcegbmibpkopaaaK11g
/- Contracts: common, Closeness; the statements' own 'awake' of layer 5. -/
namespace Go.Proofs.Ytcegbmibpkopaaa
open Go.RowKit

/-- How many symbols two terms have in common, f levels deep. -/
def cmnF (ss : Sg) : Nat → List Int → List Int → Nat
  | 0, _, _ => 0
  | f + 1, a, b => if a.headD 0 < 0 ∨ a.headD 0 ≠ b.headD 0 then 0 else 1 + ((List.range (arOf ss (a.headD 0))).map fun k => cmnF ss f (argL ss a k) (argL ss b k)).sum
/-- .. the first k arguments of a symbol -/
def cmnT (ss : Sg) (f : Nat) (a b : List Int) (k : Nat) : Nat := 1 + ((List.range k).map fun k => cmnF ss f (argL ss a k) (argL ss b k)).sum
theorem cmnT_zero (ss : Sg) (f : Nat) (a b : List Int) : cmnT ss f a b 0 = 1 := rfl
theorem cmnT_succ (ss : Sg) (f : Nat) (a b : List Int) (k : Nat) : cmnT ss f a b (k + 1) = cmnT ss f a b k + cmnF ss f (argL ss a k) (argL ss b k) := by
  unfold cmnT
  rw [List.range_succ]
  simp
  omega
theorem cmnF_no {ss : Sg} {f : Nat} {a b : List Int} (h : a.headD 0 < 0 ∨ a.headD 0 ≠ b.headD 0) : cmnF ss (f + 1) a b = 0 := by unfold cmnF; rw [if_pos h]
theorem cmnF_yes {ss : Sg} {f : Nat} {a b : List Int} (h : ¬ (a.headD 0 < 0 ∨ a.headD 0 ≠ b.headD 0)) : cmnF ss (f + 1) a b = cmnT ss f a b (arOf ss (a.headD 0)) := by unfold cmnF; rw [if_neg h]; rfl

theorem argL_facts {ss : Sg} {a : List Int} (h : valOk ss a = true) {k : Nat} (hk : k < arOf ss (a.headD 0)) :
    valOk ss (argL ss a k) = true ∧ (argL ss a k).length < a.length ∧ pos ss a (k + 1) = pos ss a k + (argL ss a k).length ∧ pos ss a (k + 1) ≤ a.length := by
  obtain ⟨h1, h60, hnum, hscan⟩ := valOk_term h
  have hh : a.headD 0 = a[0] := by cases a with
    | nil => simp at h1
    | cons z r => rfl
  rw [hh] at hk
  have hs := scan_head hscan h1
  obtain ⟨g1, g2⟩ := argL_ok hs h1 hk
  obtain ⟨_, p2, _⟩ := pos_step hs h1 hk
  obtain ⟨_, q2, _⟩ := pos_scan hs h1 (show k ≤ _ from Nat.le_of_lt hk)
  obtain ⟨_, r2, r3⟩ := pos_scan hs h1 (show k + 1 ≤ _ from hk)
  refine ⟨?_, by omega, by omega, r3⟩
  simp only [valOk, termOk, Bool.and_eq_true, decide_eq_true_eq, List.all_eq_true, numOk]
  refine ⟨valOk_sig h, by omega, by omega, fun z hz => ?_, g1⟩
  exact hnum z (List.mem_of_mem_drop (List.mem_of_mem_take hz))
theorem pos_ge1 {ss : Sg} {a : List Int} (h : valOk ss a = true) : 1 ≤ pos ss a 0 := by
  obtain ⟨h1, h60, hnum, hscan⟩ := valOk_term h
  obtain ⟨_, q2, _⟩ := pos_scan (scan_head hscan h1) h1 (Nat.zero_le _)
  omega
theorem cmnF_le {ss : Sg} : ∀ (f : Nat) (a b : List Int), valOk ss a = true → cmnF ss f a b ≤ a.length
  | 0, a, b, _ => Nat.zero_le _
  | f + 1, a, b, h => by
    by_cases hc : a.headD 0 < 0 ∨ a.headD 0 ≠ b.headD 0
    · rw [cmnF_no hc]; omega
    · rw [cmnF_yes hc]
      have key : ∀ k, k ≤ arOf ss (a.headD 0) → cmnT ss f a b k ≤ pos ss a k := by
        intro k
        induction k with
        | zero => intro _; rw [cmnT_zero]; exact pos_ge1 h
        | succ k ih =>
          intro hk
          obtain ⟨v1, _, v3, _⟩ := argL_facts h (show k < _ from hk)
          have := ih (by omega)
          have := cmnF_le f (argL ss a k) (argL ss b k) v1
          rw [cmnT_succ]; omega
      have h0 := key _ (Nat.le_refl _)
      obtain ⟨h1, _, _, hscan⟩ := valOk_term h
      have hh : a.headD 0 = a[0] := by cases a with
        | nil => simp at h1
        | cons z r => rfl
      obtain ⟨_, _, q3⟩ := pos_scan (scan_head hscan h1) h1 (Nat.le_refl _)
      rw [← hh] at q3
      omega
theorem cmnT_le {ss : Sg} {f : Nat} {a b : List Int} (h : valOk ss a = true) : ∀ k, k ≤ arOf ss (a.headD 0) → cmnT ss f a b k ≤ 60
  | 0, _ => by rw [cmnT_zero]; omega
  | k + 1, hk => by
    have key : ∀ k, k ≤ arOf ss (a.headD 0) → cmnT ss f a b k ≤ pos ss a k := by
      intro k
      induction k with
      | zero => intro _; rw [cmnT_zero]; exact pos_ge1 h
      | succ k ih =>
        intro hk
        obtain ⟨v1, _, v3, _⟩ := argL_facts h (show k < _ from hk)
        have := ih (by omega)
        have := cmnF_le f (argL ss a k) (argL ss b k) v1
        rw [cmnT_succ]; omega
    have := key _ hk
    obtain ⟨_, _, _, q⟩ := argL_facts h (show k < _ from hk)
    obtain ⟨_, h60, _, _⟩ := valOk_term h
    omega
theorem argsL_at {ss : Sg} {a : List Int} {k : Nat} (hk : k < arOf ss (a.headD 0)) : (argsL ss a)[k]? = some (argL ss a k) := by
  unfold argsL argsTo
  rw [List.getElem?_map, List.getElem?_range hk]
  rfl
theorem argsL_len (ss : Sg) (a : List Int) : (argsL ss a).length = arOf ss (a.headD 0) := by simp [argsL, argsTo]

set_option maxRecDepth 100000 in
set_option maxHeartbeats 2000000 in
theorem common5_any (As : Option Addr) (ns cs : Nat) (ss : Sg) : ∀ (m : Nat) (Aa Ab : Option Addr) (na ca nb cb : Nat) (za zb : List Int) (w : World), za.length < m → SigAt w w.heap.size As ns ss → IntsAt w w.heap.size Aa na za → IntsAt w w.heap.size Ab nb zb →
    (na ≤ ca ∧ ca ≤ 9223372036854775807) → (nb ≤ cb ∧ cb ≤ 9223372036854775807) → valOk ss za = true → valOk ss zb = true →
    Calls Try.prog 157 #[.slice As ns cs, .slice Aa na ca, .slice Ab nb cb] w fun e w' => e = .returned (.int .i64 (cmnF ss m za zb : Nat)) ∧ Below w.heap.size w w' := by
  intro m
  induction m with
  | zero => intro _ _ _ _ _ _ _ _ _ h; omega
  | succ m ih =>
    intro Aa Ab na ca nb cb za zb w hm hs ha hb hca hcb va vb
    obtain ⟨l1, l60, lnum, lscan⟩ := valOk_term va
    obtain ⟨m1, m60, mnum, mscan⟩ := valOk_term vb
    have hla := ha.len
    have hlb := hb.len
    obtain ⟨ba, offa, xa, rfl, ca0, ka1, ea1⟩ := ha.cellAt (show 0 < na by omega)
    obtain ⟨bb, offb, xb, rfl, cb0, kb1, eb1⟩ := hb.cellAt (show 0 < nb by omega)
    have hha : za.headD 0 = xa := by cases za with
      | nil => simp at l1
      | cons z r => exact ea1
    have hhb : zb.headD 0 = xb := by cases zb with
      | nil => simp at m1
      | cons z r => exact eb1
    rw [Nat.add_zero] at ca0 cb0
    have na0 : (0 : Int) < (na : Int) := by omega
    have nb0 : (0 : Int) < (nb : Int) := by omega
    have CA0 := Lib.hid (fun k : Nat => show (w.drewN k).cell? ⟨ba, offa, none⟩ = some (.int .i64 xa) from ca0)
    have CB0 := Lib.hid (fun k : Nat => show (w.drewN k).cell? ⟨bb, offb, none⟩ = some (.int .i64 xb) from cb0)
    by_cases hneg : xa < 0
    · have H := Lib.hid (cmnF_no (ss := ss) (f := m) (a := za) (b := zb) (.inl (by omega)))
      have hd : decide (xa < 0) = true := decide_eq_true hneg
      clear ih hm hs ha hb hca hcb va vb l1 l60 lnum lscan m1 m60 mnum mscan ka1 ea1 kb1 eb1 hha hhb hla hlb hneg
      go_enter Try.func157, Try.ntmps157
      go_wp2_with fail
      go_quiet (fail)
      go_wp2
      go_ret
      exact ⟨ret_i (by rw [H.out]; rfl), below_drewN (Below.refl _ _) _⟩
    · by_cases hne : xa = xb
      · subst hne
        have HY := Lib.hid (cmnF_yes (ss := ss) (f := m) (a := za) (b := zb) (by rw [hha, hhb]; omega))
        have hd : decide (xa < 0) = false := decide_eq_false hneg
        have hb0 : (xa != xa) = false := by simp
        obtain ⟨r, hr⟩ : ∃ r, arOf ss xa = r := ⟨_, rfl⟩
        have CArgA := Lib.hid (fun V (h : Below w.heap.size w V) => argsC_ok As (some ⟨ba, offa, none⟩) ns cs na ca ss za V (hs.up h) (ha.up h) hca.1 hca.2 va)
        have CArgB := Lib.hid (fun V (h : Below w.heap.size w V) => argsC_ok As (some ⟨bb, offb, none⟩) ns cs nb cb ss zb V (hs.up h) (hb.up h) hcb.1 hcb.2 vb)
        have HS := Lib.hid (fun V (h : Below w.heap.size w V) => hs.up h)
        have IH := Lib.hid ih
        have FA := Lib.hid (fun k (hk : k < r) => argL_facts (k := k) va (by rw [hha, hr]; exact hk))
        have FB := Lib.hid (fun k (hk : k < r) => argL_facts (k := k) vb (by rw [hhb, hr]; exact hk))
        have GA := Lib.hid (fun k (hk : k < r) => argsL_at (ss := ss) (a := za) (k := k) (by rw [hha, hr]; exact hk))
        have GB := Lib.hid (fun k (hk : k < r) => argsL_at (ss := ss) (a := zb) (k := k) (by rw [hhb, hr]; exact hk))
        have LA := Lib.hid (show (argsL ss za).length = r by rw [argsL_len, hha, hr])
        have LB := Lib.hid (show (argsL ss zb).length = r by rw [argsL_len, hhb, hr])
        have TL := Lib.hid (fun k (hk : k ≤ r) => cmnT_le (ss := ss) (f := m) (a := za) (b := zb) va k (by rw [hha, hr]; exact hk))
        have CL := Lib.hid (fun k (hk : k < r) => cmnF_le (ss := ss) m (argL ss za k) (argL ss zb k) (argL_facts (k := k) va (by rw [hha, hr]; exact hk)).1)
        have HM := Lib.hid (And.intro hm l60)
        rw [hha, hr] at HY
        clear ih hm hs ha hb hca hcb va vb l1 l60 lnum lscan m1 m60 mnum mscan ka1 ea1 kb1 eb1 hha hhb hla hlb hneg hr
        go_enter Try.func157, Try.ntmps157
        go_wp2_with fail
        go_quiet (fail)
        go_wp2_with (first
          | (go_at_call 181; (with_reducible refine (CArgA.out _ (below_drewN (Below.refl _ _) _)).mono ?_); rintro e w1 ⟨A1, n1, c1, l1, rfl, hT1, hB1, hk1⟩; have HT1 := Lib.hid hT1; have HK1 := Lib.hid hk1; have HB1 := Lib.hid (show Below w.heap.size w w1 from (below_drewN (Below.refl _ w) _).trans hB1); clear hT1 hk1 hB1)
          | (go_at_call 181; (with_reducible refine (CArgB.out _ HB1.out).mono ?_); rintro e w2 ⟨A2, n2, c2, l2, rfl, hT2, hB2, hk2⟩; have HT2 := Lib.hid hT2; have HK2 := Lib.hid hk2; have HB2 := Lib.hid (below_then HB1.out hB2); have HT1' := Lib.hid (HT1.out.up hB2); clear hT2 hk2 hB2))
        have hn1 : n1 = r := by have := HT1.out.len; have := LA.out; omega
        subst hn1
        have hn2 : n2 = n1 := by have := HT2.out.len; have := LB.out; omega
        subst hn2
        go_loopw [11, 41] (fun v i wr => ∃ k : Nat, k ≤ n2 ∧ i = .int .i64 k ∧ v = .int .i64 (cmnT ss m za zb k : Nat) ∧ Below w2.heap.size w2 wr) (fun _ i _ => n2 - (intOf i).toNat)
        case atStart => exact ⟨0, Nat.zero_le _, rfl, rfl, Below.refl _ _⟩
        case round =>
          obtain ⟨k, hk, rfl, rfl, hB⟩ := hrel
          have hmx := HT2.out.hds.max
          by_cases hlt : k < n2
          · obtain ⟨b3, off3, A3, n3, c3, rfl, hb3, q1, q2⟩ := HT1'.out.hds.cellAt hlt
            obtain ⟨b4, off4, A4, n4, c4, rfl, hb4, q3, q4⟩ := HT2.out.hds.cellAt hlt
            obtain ⟨t3, u1, _, hI3⟩ := HT1'.out.at q2
            obtain ⟨t4, u2, _, hI4⟩ := HT2.out.at q4
            rw [GA.out k hlt] at u1
            rw [GB.out k hlt] at u2
            cases u1
            cases u2
            have r1 := (hB.cell (p := ⟨b3, off3 + k, none⟩) hb3).trans q1
            have r2 := (hB.cell (p := ⟨b4, off4 + k, none⟩) hb4).trans q3
            have hk0 : (0 : Int) ≤ (k : Int) := by omega
            have hk1 : (k : Int) < (n2 : Int) := by omega
            have hlen := (FA.out k hlt).2.1
            have C := Lib.hid (IH.out A3 A4 n3 c3 n4 c4 _ _ wr (by have := HM.out.1; omega) (HS.out wr (below_then HB2.out hB)) ((hI3.below hB).more hB.size) ((hI4.below hB).more hB.size) (cap_at HK1.out q2) (cap_at HK2.out q4) (FA.out k hlt).1 (FB.out k hlt).1)
            have HN := Lib.hid (cmnT_succ ss m za zb k)
            have hS := TL.out k hk
            have hX := CL.out k hlt
            have h60 : (argL ss za k).length ≤ 60 := by have := HM.out.2; omega
            have HB := Lib.hid hB
            generalize cmnT ss m za zb k = S at *
            generalize cmnF ss m (argL ss za k) (argL ss zb k) = X at *
            have hX2 : X ≤ 60 := by omega
            clear hX h60 hlen hB q1 q2 q3 q4 hI3 hI4
            go_wp2_with (go_at_call 157; refine C.out.mono ?_; rintro e w5 ⟨rfl, hB5⟩; have HB5 := Lib.hid (below_then HB.out hB5); clear hB5)
            go_roundw
            case rel => exact ⟨k + 1, by omega, by go_num, by rw [HN.out]; go_num, HB5.out⟩
            case measure => simp [intOf]; omega
          · obtain rfl : k = n2 := by omega
            have HB := Lib.hid hB
            clear hB
            go_wp2
            go_ret
            exact ⟨ret_i (by rw [HY.out]), below_then HB2.out HB.out⟩
      · have H := Lib.hid (cmnF_no (ss := ss) (f := m) (a := za) (b := zb) (.inr (by rw [hha, hhb]; exact hne)))
        have hd : decide (xa < 0) = false := decide_eq_false hneg
        have hb0 : (xa != xb) = true := by simp [hne]
        clear ih hm hs ha hb hca hcb va vb l1 l60 lnum lscan m1 m60 mnum mscan ka1 ea1 kb1 eb1 hha hhb hla hlb hneg hne
        go_enter Try.func157, Try.ntmps157
        go_wp2_with fail
        go_quiet (fail)
        go_wp2
        go_ret
        exact ⟨ret_i (by rw [H.out]; rfl), below_drewN (Below.refl _ _) _⟩

/-- The closeness of two terms, and the error. -/
def cloZ (ss : Sg) (za zb : List Int) : Nat × Int := if (valOk ss za && valOk ss zb) = true then (cmnF ss 1000 za zb, 0) else (0, 1)

set_option maxRecDepth 100000 in
set_option maxHeartbeats 1000000 in
theorem closeness_any (As Aa Ab : Option Addr) (ns cs na ca nb cb : Nat) (ss : Sg) (za zb : List Int) (w : World) (hs : SigAt w w.heap.size As ns ss) (ha : IntsAt w w.heap.size Aa na za) (hb : IntsAt w w.heap.size Ab nb zb) (hca : na ≤ ca ∧ ca ≤ 9223372036854775807) (hcb : nb ≤ cb ∧ cb ≤ 9223372036854775807) :
    Calls Try.prog 111 #[.slice As ns cs, .slice Aa na ca, .slice Ab nb cb] w fun e w' => e = .returned (.tuple #[.int .i64 ((cloZ ss za zb).1 : Nat), .int .i64 (cloZ ss za zb).2]) ∧ Below w.heap.size w w' := by
  have C1 := Lib.hid (valid_any As Aa ns cs na ca ss za w hs ha)
  cases h1 : valOk ss za
  · have H : Hid (cloZ ss za zb = (0, 1)) := Lib.hid (by unfold cloZ; rw [h1]; simp)
    rw [h1] at C1
    clear hs ha hb hca hcb h1
    go_enter Try.func111, Try.ntmps111
    go_wp2_with (go_at_call 83; refine C1.out.mono ?_; rintro e w1 ⟨rfl, hB1⟩; have HB1 := Lib.hid hB1; clear hB1)
    go_ret2
    exact ⟨by rw [H.out]; rfl, HB1.out⟩
  · have C2 := Lib.hid (fun V (h : Below w.heap.size w V) => valid_any As Ab ns cs nb cb ss zb V (hs.up h) (hb.up h))
    cases h2 : valOk ss zb
    · have H : Hid (cloZ ss za zb = (0, 1)) := Lib.hid (by unfold cloZ; rw [h1, h2]; simp)
      rw [h1] at C1
      rw [h2] at C2
      clear hs ha hb hca hcb h1 h2
      go_enter Try.func111, Try.ntmps111
      go_wp2_with (first
        | (go_at_call 83; (with_reducible refine C1.out.mono ?_); rintro e w1 ⟨rfl, hB1⟩; have HB1 := Lib.hid hB1; clear hB1)
        | (go_at_call 83; (with_reducible refine (C2.out _ HB1.out).mono ?_); rintro e w2 ⟨rfl, hB2⟩; have HB2 := Lib.hid (below_then HB1.out hB2); clear hB2))
      go_ret2
      exact ⟨by rw [H.out]; rfl, HB2.out⟩
    · have H : Hid (cloZ ss za zb = (cmnF ss 1000 za zb, 0)) := Lib.hid (by unfold cloZ; rw [h1, h2]; simp)
      have hl : za.length < 1000 := by obtain ⟨_, h60, _⟩ := valOk_term h1; omega
      have C3 := Lib.hid (fun V (h : Below w.heap.size w V) => common5_any As ns cs ss 1000 Aa Ab na ca nb cb za zb V hl (hs.up h) (ha.up h) (hb.up h) hca hcb h1 h2)
      rw [h1] at C1
      rw [h2] at C2
      clear hs ha hb hca hcb h1 h2 hl
      go_enter Try.func111, Try.ntmps111
      go_wp2_with (first
        | (go_at_call 83; (with_reducible refine C1.out.mono ?_); rintro e w1 ⟨rfl, hB1⟩; have HB1 := Lib.hid hB1; clear hB1)
        | (go_at_call 83; (with_reducible refine (C2.out _ HB1.out).mono ?_); rintro e w2 ⟨rfl, hB2⟩; have HB2 := Lib.hid (below_then HB1.out hB2); clear hB2)
        | (go_at_call 157; refine (C3.out _ HB2.out).mono ?_; rintro e w3 ⟨rfl, hB3⟩; have HB3 := Lib.hid (below_then HB2.out hB3); clear hB3))
      go_ret2
      exact ⟨by rw [H.out]; rfl, HB3.out⟩

set_option maxRecDepth 100000 in
set_option maxHeartbeats 1000000 in
theorem awakeF_any (w : World) : Calls Try.prog 54 #[] w fun e w' => e = .returned (.bool true) ∧ Below w.heap.size w w' := by
  obtain ⟨W, hW⟩ : ∃ W, ((w.alloc (.cells cellsCN 68)).alloc (.cells #[.int .i64 0, .int .i64 1, .int .i64 (-1), .int .i64 (-2)] 3)).alloc (.cells #[.int .i64 0, .int .i64 1, .int .i64 (-1), .int .i64 1, .int .i64 (-1)] 3) = W := ⟨_, rfl⟩
  have k1 : Blk W w.heap.size 68 cellsCN := by rw [← hW]; exact ((Blk.new w _ _).alloc _).alloc _
  have k2 : Blk W (w.heap.size + 1) 3 #[.int .i64 0, .int .i64 1, .int .i64 (-1), .int .i64 (-2)] := by
    rw [← hW]
    have := (Blk.new (w.alloc (.cells cellsCN 68)) 3 #[.int .i64 0, .int .i64 1, .int .i64 (-1), .int .i64 (-2)]).alloc (.cells #[.int .i64 0, .int .i64 1, .int .i64 (-1), .int .i64 1, .int .i64 (-1)] 3)
    rw [World.size_alloc] at this
    exact this
  have k3 : Blk W (w.heap.size + 1 + 1) 3 #[.int .i64 0, .int .i64 1, .int .i64 (-1), .int .i64 1, .int .i64 (-1)] := by
    rw [← hW]
    have := Blk.new ((w.alloc (.cells cellsCN 68)).alloc (.cells #[.int .i64 0, .int .i64 1, .int .i64 (-1), .int .i64 (-2)] 3)) 3 #[.int .i64 0, .int .i64 1, .int .i64 (-1), .int .i64 1, .int .i64 (-1)]
    rw [World.size_alloc, World.size_alloc] at this
    exact this
  have hB : Below w.heap.size w W := by rw [← hW]; exact bel_al (bel_al (bel_al (Below.refl _ w) _) _) _
  have C := Lib.hid (closeness_any (some ⟨w.heap.size, 0, none⟩) (some ⟨w.heap.size + 1, 0, none⟩) (some ⟨w.heap.size + 1 + 1, 0, none⟩) 2 2 4 4 5 5 sgCN [0, 1, -1, -2] [0, 1, -1, 1, -1] W (sig_of_blk k1) (ints_of_blk _ _ _ rfl k2 rfl (by decide)) (ints_of_blk _ _ _ rfl k3 rfl (by decide)) (by omega) (by omega))
  rw [show cloZ sgCN [0, 1, -1, -2] [0, 1, -1, 1, -1] = (2, 0) by decide +kernel] at C
  have HW := Lib.hid hW
  have HB := Lib.hid hB
  clear k1 k2 k3 hB hW
  go_enter Try.func54, Try.ntmps54
  go_wp2_with (go_at_call 111; first | rw [HW.out] | (unfold cellsCN at HW; rw [HW.out]); refine C.out.mono ?_; rintro e w3 ⟨rfl, hB3⟩; have HB3 := Lib.hid (below_then HB.out hB3); clear hB3)
  go_ret
  exact ⟨rfl, HB3.out⟩

end Go.Proofs.Ytcegbmibpkopaaa

/- The walk of FindWithin. -/
namespace Go.Proofs.Ytcegbmibpkopaaa
open Go.RowKit

theorem ren1_neg {seen : List Int} {z : Int} (h : z < 0) : ren1 seen z < 0 := by
  unfold ren1
  rw [if_neg (by omega)]
  unfold cnum
  omega
theorem flat_canonL : ∀ (zs seen : List Int), flat (canonL seen zs) = flat zs
  | [], _ => rfl
  | z :: r, seen => by
    have ih := flat_canonL r (addSeen seen z)
    unfold flat at ih ⊢
    simp only [canonL, List.map_cons, ih]
    congr 1
    by_cases h : z < 0
    · rw [if_pos h, if_pos (ren1_neg h)]
    · have e : ren1 seen z = z := by unfold ren1; rw [if_pos (by omega)]
      rw [e]
theorem flat_alike {ss : Sg} {a b : List Int} (h : alikeOk ss a b = true) : flat a = flat b := by
  unfold alikeOk at h
  simp only [Bool.and_eq_true, decide_eq_true_eq] at h
  rw [← flat_canonL a [], ← flat_canonL b []]
  exact congrArg flat h.2.2
/-- What is an instance meets; what is both is alike; what is alike has the same shape. -/
theorem within_is {ss : Sg} {t q : List Int} (ht : valOk ss t = true) (hq : valOk ss q = true) :
    ((insB ss q t || insB ss t q) = true → hasZ ss 12 t q = true) ∧ (insB ss q t && insB ss t q) = alikeOk ss t q ∧ (alikeOk ss t q = true → decide (flat t = flat q) = true) := by
  refine ⟨fun h => ?_, by rw [Bool.and_comm]; exact ins_alike, fun h => decide_eq_true (flat_alike h)⟩
  rw [Bool.or_eq_true] at h
  rcases h with h | h
  · exact (meet_bound (by rw [ins_refl]; exact ht) h).1
  · exact (meet_bound h (by rw [ins_refl]; exact hq)).1
/-- So many statements, no larger than can be looked at. -/
def fewB (ns n : Nat) (m : Int) (ls : List Hd) : Bool := decide ((n : Int) ≤ m) && smallOk ns ls
set_option maxHeartbeats 400000 in
theorem few5_any (As A : Option Addr) (ns cs n c : Nat) (m : Int) (ls : List Hd) (w : World) (B : Nat) (hl : HdsAt w B A n ls) :
    Calls Try.prog 53 #[.slice As ns cs, .slice A n c, .int .i64 m] w fun e w' => e = .returned (.bool (fewB ns n m ls)) ∧ w = w' := by
  have C := Lib.hid (small_any As A ns cs n c ls w B hl)
  have hmx := hl.max
  unfold fewB
  by_cases h : (n : Int) ≤ m
  · rw [decide_eq_true h]
    have d : decide ((n : Int) ≤ m) = true := decide_eq_true h
    clear hl h
    obtain ⟨q, hq⟩ : ∃ q, smallOk ns ls = q := ⟨_, rfl⟩
    rw [hq] at C ⊢
    clear hq
    go_enter Try.func53, Try.ntmps53
    go_wp2_with (go_at_call 16; refine C.out.mono ?_; rintro e w' ⟨rfl, rfl⟩)
    go_ret
    exact ⟨ret_b (by simp), rfl⟩
  · rw [decide_eq_false h]
    have d : decide ((n : Int) ≤ m) = false := decide_eq_false h
    clear hl h C
    go_enter Try.func53, Try.ntmps53
    go_wp2
    go_ret
    exact ⟨ret_b (by simp), rfl⟩
theorem hdF_one (w : World) (A : Option Addr) (n c : Nat) : HdsAt (w.alloc (.cells #[.slice A n c] 25)) (w.alloc (.cells #[.slice A n c] 25)).heap.size (some ⟨w.heap.size, 0, none⟩) 1 [(A, n, c)] :=
  HdsAt.of_blk [(A, n, c)] (Blk.new w _ _) rfl rfl (by simp)

set_option maxRecDepth 100000 in
set_option maxHeartbeats 4000000 in
theorem within_small (As At Aq : Option Addr) (ns cs n c nq cq : Nat) (ls : List Hd) (w : World) (ht : HdsAt w w.heap.size At n ls) (h : (fewB ns n 70 ls && smallOk ns [(Aq, nq, cq)]) = false) :
    Calls Try.prog 11 #[.slice As ns cs, .slice At n c, .slice Aq nq cq] w fun e w' => e = .returned (.bool true) ∧ Below w.heap.size w w' := by
  have C1 := Lib.hid (few5_any As At ns cs n c 70 ls w _ ht)
  have C2 := Lib.hid (small_any As (some ⟨w.heap.size, 0, none⟩) ns cs 1 1 [(Aq, nq, cq)] _ _ (hdF_one w Aq nq cq))
  have HB := Lib.hid (bel_al (Below.refl w.heap.size w) (.cells #[.slice Aq nq cq] 25))
  cases h1 : fewB ns n 70 ls
  · rw [h1] at C1
    clear ht h h1
    go_enter Try.func11, Try.ntmps11
    go_wp2_with (first
      | (go_at_call 53; refine C1.out.mono ?_; rintro e w' ⟨rfl, rfl⟩)
      | (go_at_call 54; refine (awakeF_any _).mono ?_; rintro e w3 ⟨rfl, hB3⟩; have HB3 := Lib.hid hB3; clear hB3))
    go_ret
    exact ⟨rfl, HB3.out⟩
  · rw [h1, Bool.true_and] at h
    rw [h1] at C1
    rw [h] at C2
    clear ht h h1
    go_enter Try.func11, Try.ntmps11
    go_wp2_with (first
      | (go_at_call 53; refine C1.out.mono ?_; rintro e w' ⟨rfl, rfl⟩)
      | (go_at_call 16; refine C2.out.mono ?_; rintro e w' ⟨rfl, rfl⟩)
      | (go_at_call 54; refine (awakeF_any _).mono ?_; rintro e w3 ⟨rfl, hB3⟩; have HB3 := Lib.hid (below_then HB.out hB3); clear hB3))
    go_ret
    exact ⟨rfl, HB3.out⟩

set_option maxRecDepth 100000 in
set_option maxHeartbeats 8000000 in
theorem within_walk (As At Aq : Option Addr) (ns cs n c nq cq : Nat) (ss : Sg) (ls : List Hd) (tt : List (List Int)) (zq : List Int) (w : World)
    (hs : SigAt w w.heap.size As ns ss) (ht : TermsAt w w.heap.size At n ls tt) (hq : IntsAt w w.heap.size Aq nq zq) (hcap : ∀ x ∈ ls, capOk x) (hcq : nq ≤ cq ∧ cq ≤ 9223372036854775807) :
    Calls Try.prog 11 #[.slice As ns cs, .slice At n c, .slice Aq nq cq] w fun e w' => e = .returned (.bool true) ∧ Below w.heap.size w w' := by
  cases hsm : (fewB ns n 70 ls && smallOk ns [(Aq, nq, cq)])
  · exact within_small As At Aq ns cs n c nq cq ls w ht.hds hsm
  · rw [Bool.and_eq_true] at hsm
    obtain ⟨hf, hsm⟩ := hsm
    have hn : n ≤ 70 := by
      unfold fewB at hf
      rw [Bool.and_eq_true, decide_eq_true_eq] at hf
      omega
    have C1 := Lib.hid (few5_any As At ns cs n c 70 ls w _ ht.hds)
    have C2 := Lib.hid (small_any As (some ⟨w.heap.size, 0, none⟩) ns cs 1 1 [(Aq, nq, cq)] _ _ (hdF_one w Aq nq cq))
    rw [hf] at C1
    rw [hsm] at C2
    have HB0 := Lib.hid (bel_al (Below.refl w.heap.size w) (.cells #[.slice Aq nq cq] 25))
    have CM := Lib.hid (fun V (h : Below w.heap.size w V) => fMeeting_any As At Aq ns cs n c nq cq ss ls tt zq V (hs.up h) (ht.up h) (hq.up h) (by omega) hcap hcq)
    have CI := Lib.hid (fun V (h : Below w.heap.size w V) => fInstances_any As At Aq ns cs n c nq cq ss ls tt zq V (hs.up h) (ht.up h) (hq.up h) (by omega) hcap hcq)
    have CG := Lib.hid (fun V (h : Below w.heap.size w V) => fGenerals_any As At Aq ns cs n c nq cq ss ls tt zq V (hs.up h) (ht.up h) (hq.up h) (by omega) hcap hcq)
    have CA := Lib.hid (fun V (h : Below w.heap.size w V) => fAlike_any As At Aq ns cs n c nq cq ss ls tt zq V (hs.up h) (ht.up h) (hq.up h) (by omega) hcap hcq)
    have CS := Lib.hid (fun V (h : Below w.heap.size w V) => shaped_any As At Aq ns cs n c nq cq ss ls tt zq V (hs.up h) (ht.up h) (hq.up h) (by omega))
    have htl := ht.len
    cases hv : (shOk ss tt && valOk ss zq)
    · have e : ∀ p, srZ ss tt zq p = ([], 1) := fun p => by unfold srZ; rw [hv]; rfl
      simp only [e] at CM CI CG CA CS
      clear hs ht hq hcap hcq hf hsm e hv htl
      go_enter Try.func11, Try.ntmps11
      go_wp2_with (first
        | (go_at_call 53; refine C1.out.mono ?_; rintro e w' ⟨rfl, rfl⟩)
        | (go_at_call 16; refine C2.out.mono ?_; rintro e w' ⟨rfl, rfl⟩)
        | (go_at_call 55; refine (CM.out _ HB0.out).mono ?_; rintro e w1 ⟨A1, n1, c1, rfl, hI, hk, hB⟩; have HB1 := Lib.hid (below_then HB0.out hB); clear hI hk hB)
        | (go_at_call 60; refine (CI.out _ HB1.out).mono ?_; rintro e w2 ⟨A2, n2, c2, rfl, hI, hk, hB⟩; have HB2 := Lib.hid (below_then HB1.out hB); clear hI hk hB)
        | (go_at_call 62; refine (CG.out _ HB2.out).mono ?_; rintro e w3 ⟨A3, n3, c3, rfl, hI, hk, hB⟩; have HB3 := Lib.hid (below_then HB2.out hB); clear hI hk hB)
        | (go_at_call 64; refine (CA.out _ HB3.out).mono ?_; rintro e w4 ⟨A4, n4, c4, rfl, hI, hk, hB⟩; have HB4 := Lib.hid (below_then HB3.out hB); clear hI hk hB)
        | (go_at_call 66; refine (CS.out _ HB4.out).mono ?_; rintro e w5 ⟨A5, n5, c5, rfl, hI, hk, hB⟩; have HB5 := Lib.hid (below_then HB4.out hB); clear hI hk hB)
        | (go_at_call 54; refine (awakeF_any _).mono ?_; rintro e w6 ⟨rfl, hB⟩; have HB6 := Lib.hid (below_then HB5.out hB); clear hB))
      go_ret
      exact ⟨rfl, HB6.out⟩
    · rw [Bool.and_eq_true] at hv
      obtain ⟨hv1, hv2⟩ := hv
      have e : ∀ p, srZ ss tt zq p = (chF p n, 0) := fun p => by unfold srZ; rw [hv1, hv2, htl]; rfl
      simp only [e] at CM CI CG CA CS
      have HK : Hid (∀ k, k < n → ∃ m u o a s : Bool, hasZ ss 12 (tt.getD k []) zq = m ∧ insB ss zq (tt.getD k []) = u ∧ insB ss (tt.getD k []) zq = o ∧ alikeOk ss (tt.getD k []) zq = a ∧ decide (flat (tt.getD k []) = flat zq) = s ∧ ((u || o) = true → m = true) ∧ (u && o) = a ∧ (a = true → s = true)) := Lib.hid fun k hk => by
        have hk' : k < tt.length := by omega
        have hget : tt.getD k [] = tt[k] := by simp [List.getD_eq_getElem?_getD, List.getElem?_eq_getElem hk']
        have hval := shOk_each hv1 (List.getElem?_eq_getElem hk')
        rw [hget]
        obtain ⟨f1, f2, f3⟩ := within_is hval hv2
        exact ⟨_, _, _, _, _, rfl, rfl, rfl, rfl, rfl, f1, f2, f3⟩
      have hh : ∀ (p : Nat → Bool) (k : Nat), k < n → (chF p n).contains (k : Int) = p k := fun p k hk => chF_has p hk
      obtain ⟨LM, hLM⟩ : ∃ L, chF (fun k => hasZ ss 12 (tt.getD k []) zq) n = L := ⟨_, rfl⟩
      obtain ⟨LI, hLI⟩ : ∃ L, chF (fun k => insB ss zq (tt.getD k [])) n = L := ⟨_, rfl⟩
      obtain ⟨LG, hLG⟩ : ∃ L, chF (fun k => insB ss (tt.getD k []) zq) n = L := ⟨_, rfl⟩
      obtain ⟨LA, hLA⟩ : ∃ L, chF (fun k => alikeOk ss (tt.getD k []) zq) n = L := ⟨_, rfl⟩
      obtain ⟨LS, hLS⟩ : ∃ L, chF (fun k => decide (flat (tt.getD k []) = flat zq)) n = L := ⟨_, rfl⟩
      have HM := Lib.hid (fun k hk => hLM ▸ hh (fun k => hasZ ss 12 (tt.getD k []) zq) k hk)
      have HI := Lib.hid (fun k hk => hLI ▸ hh (fun k => insB ss zq (tt.getD k [])) k hk)
      have HG := Lib.hid (fun k hk => hLG ▸ hh (fun k => insB ss (tt.getD k []) zq) k hk)
      have HA := Lib.hid (fun k hk => hLA ▸ hh (fun k => alikeOk ss (tt.getD k []) zq) k hk)
      have HS := Lib.hid (fun k hk => hLS ▸ hh (fun k => decide (flat (tt.getD k []) = flat zq)) k hk)
      rw [hLM] at CM
      rw [hLI] at CI
      rw [hLG] at CG
      rw [hLA] at CA
      rw [hLS] at CS
      clear hs ht hq hcap hcq hf hsm e hv1 hv2 htl hh hLM hLI hLG hLA hLS
      go_enter Try.func11, Try.ntmps11
      go_wp2_with (first
        | (go_at_call 53; refine C1.out.mono ?_; rintro e w' ⟨rfl, rfl⟩)
        | (go_at_call 16; refine C2.out.mono ?_; rintro e w' ⟨rfl, rfl⟩)
        | (go_at_call 55; refine (CM.out _ HB0.out).mono ?_; rintro e w1 ⟨A1, n1, c1, rfl, hI, hk, hB⟩; have HB1 := Lib.hid (below_then HB0.out hB); have HI1 := Lib.hid hI; clear hI hk hB)
        | (go_at_call 60; refine (CI.out _ HB1.out).mono ?_; rintro e w2 ⟨A2, n2, c2, rfl, hI, hk, hB⟩; have HB2 := Lib.hid (below_then HB1.out hB); have HI1b := Lib.hid (HI1.out.up hB); have HI2 := Lib.hid hI; clear hI hk hB)
        | (go_at_call 62; refine (CG.out _ HB2.out).mono ?_; rintro e w3 ⟨A3, n3, c3, rfl, hI, hk, hB⟩; have HB3 := Lib.hid (below_then HB2.out hB); have HI1c := Lib.hid (HI1b.out.up hB); have HI2c := Lib.hid (HI2.out.up hB); have HI3 := Lib.hid hI; clear hI hk hB)
        | (go_at_call 64; refine (CA.out _ HB3.out).mono ?_; rintro e w4 ⟨A4, n4, c4, rfl, hI, hk, hB⟩; have HB4 := Lib.hid (below_then HB3.out hB); have HI1d := Lib.hid (HI1c.out.up hB); have HI2d := Lib.hid (HI2c.out.up hB); have HI3d := Lib.hid (HI3.out.up hB); have HI4 := Lib.hid hI; clear hI hk hB)
        | (go_at_call 66; refine (CS.out _ HB4.out).mono ?_; rintro e w5 ⟨A5, n5, c5, rfl, hI, hk, hB⟩; have HB5 := Lib.hid (below_then HB4.out hB); have HI1e := Lib.hid (HI1d.out.up hB); have HI2e := Lib.hid (HI2d.out.up hB); have HI3e := Lib.hid (HI3d.out.up hB); have HI4e := Lib.hid (HI4.out.up hB); have HI5 := Lib.hid hI; clear hI hk hB))
      go_loopw [17] (fun i wr => ∃ k : Nat, k ≤ n ∧ i = .int .i64 k ∧ wr = w5) (fun i _ => n - (intOf i).toNat)
      case atStart => exact ⟨0, Nat.zero_le _, rfl, rfl⟩
      case round =>
        obtain ⟨k, hk, rfl, hwr⟩ := hrel
        subst hwr
        by_cases hlt : k < n
        · have D1 := Lib.hid (has_any A1 n1 c1 LM (k : Int) _ _ HI1e.out)
          have D2 := Lib.hid (has_any A2 n2 c2 LI (k : Int) _ _ HI2e.out)
          have D3 := Lib.hid (has_any A3 n3 c3 LG (k : Int) _ _ HI3e.out)
          have D4 := Lib.hid (has_any A4 n4 c4 LA (k : Int) _ _ HI4e.out)
          have D5 := Lib.hid (has_any A5 n5 c5 LS (k : Int) _ _ HI5.out)
          rw [HM.out k hlt] at D1
          rw [HI.out k hlt] at D2
          rw [HG.out k hlt] at D3
          rw [HA.out k hlt] at D4
          rw [HS.out k hlt] at D5
          obtain ⟨m, u, o, a, s, e1, e2, e3, e4, e5, f1, f2, f3⟩ := HK.out k hlt
          simp only [e1] at D1
          simp only [e2] at D2
          simp only [e3] at D3
          simp only [e4] at D4
          simp only [e5] at D5
          clear e1 e2 e3 e4 e5
          subst f2
          cases u <;> cases o
          all_goals
            simp only [Bool.or_true, Bool.or_false, Bool.and_true, Bool.and_false, forall_const, reduceCtorEq, false_implies] at f1 f3 D4
          all_goals (first | subst f1 | skip)
          all_goals (first | subst f3 | skip)
          all_goals
            go_wp2_with (first
              | (go_at_call 68; (with_reducible refine D1.out.mono ?_); rintro e w' ⟨rfl, rfl⟩)
              | (go_at_call 68; (with_reducible refine D2.out.mono ?_); rintro e w' ⟨rfl, rfl⟩)
              | (go_at_call 68; (with_reducible refine D3.out.mono ?_); rintro e w' ⟨rfl, rfl⟩)
              | (go_at_call 68; (with_reducible refine D4.out.mono ?_); rintro e w' ⟨rfl, rfl⟩)
              | (go_at_call 68; (with_reducible refine D5.out.mono ?_); rintro e w' ⟨rfl, rfl⟩))
          all_goals go_roundw
          all_goals first
            | exact ⟨k + 1, by omega, by go_num, rfl⟩
            | exact ⟨k + 1, by omega, by go_num, trivial⟩
            | exact ⟨k + 1, by omega, by go_num⟩
            | (simp [intOf]; omega)
        · obtain rfl : k = n := by omega
          go_wp2_with (go_at_call 54; refine (awakeF_any _).mono ?_; rintro e w6 ⟨rfl, hB⟩; have HB6 := Lib.hid (below_then HB5.out hB); clear hB)
          go_ret
          exact ⟨rfl, HB6.out⟩

end Go.Proofs.Ytcegbmibpkopaaa

/- Groups lie in groups of shapes, each statement in one; what is sorted: the mathematics. -/
namespace Go.Proofs.Ytcegbmibpkopaaa
open Go.RowKit

theorem nodup_of_len {α : Type} [DecidableEq α] : ∀ (l m : List α), l.Nodup → (∀ x ∈ l, x ∈ m) → m.length ≤ l.length → m.Nodup
  | [], m, _, _, h => by
    have : m = [] := List.eq_nil_of_length_eq_zero (by simpa using h)
    subst this
    exact List.nodup_nil
  | x :: r, m, hn, hs, hl => by
    have hx := hs x (List.mem_cons_self ..)
    have hn' := hn
    rw [List.nodup_cons] at hn
    have hr : ∀ y ∈ r, y ∈ m.erase x := fun y hy => (List.mem_erase_of_ne (fun e => hn.1 (by rw [← e]; exact hy))).2 (hs y (List.mem_cons_of_mem _ hy))
    have he := List.length_erase_of_mem hx
    have h0 : 0 < m.length := List.length_pos_of_mem hx
    simp only [List.length_cons] at hl
    have ih := nodup_of_len r (m.erase x) hn.2 hr (by omega)
    rw [(List.perm_cons_erase hx).nodup_iff, List.nodup_cons]
    refine ⟨fun hxm => ?_, ih⟩
    have := nodup_leT (x :: r) (m.erase x) hn' (fun y hy => by
      rcases List.mem_cons.1 hy with rfl | hy
      · exact hxm
      · exact hr y hy)
    simp only [List.length_cons] at this
    omega

/-- What the program sorts is what the reference puts in order. -/
theorem sorted_same {ss : Sg} {tt tt' : List (List Int)} (hv : shOk ss tt = true) (h : SortOf ss tt tt') : tt' = withT (tt.map canon) tt.length := by
  obtain ⟨h1, h2, h3⟩ := h.1 hv
  obtain ⟨g1, g2, _⟩ := grp_is (fun k => canon (tt.getD k [])) tt.length
  have hnd : tt'.Nodup := nodup_of_len _ _ g1 (fun x hx => (h1 x).2 hx) (by omega)
  refine InOrd.same _ _ ?_ (withT_ord _ _ (by simp)) fun z => ?_
  · refine List.pairwise_iff_getElem.2 fun i j hi hj hij => ?_
    have h4 := h3 i j hi hj hij
    have h5 : cmpL tt'[i] tt'[j] ≠ 0 := fun e => (List.pairwise_iff_getElem.1 hnd) i j hi hj hij (cmpL_eq.1 e)
    show cmpL tt'[i] tt'[j] < 0
    omega
  · rw [h1, g2, withT_mem _ _ _ (by simp)]
    constructor
    · rintro ⟨i, hi, rfl⟩
      refine ⟨i, hi, ?_⟩
      rw [List.getElem?_map, List.getD_eq_getElem?_getD, List.getElem?_eq_getElem hi]
      rfl
    · rintro ⟨i, hi, e⟩
      refine ⟨i, hi, ?_⟩
      rw [List.getElem?_map, List.getElem?_eq_getElem hi] at e
      simp only [List.getD_eq_getElem?_getD, List.getElem?_eq_getElem hi]
      exact Option.some.inj e

/-- How many indexes the first groups have. -/
def sumL (G : List (List Int)) (k : Nat) : Nat := ((G.take k).map List.length).sum
theorem sumL_succ {G : List (List Int)} {k : Nat} {g : List Int} (h : G[k]? = some g) : sumL G (k + 1) = sumL G k + g.length := by
  obtain ⟨hk, rfl⟩ := List.getElem?_eq_some_iff.1 h
  unfold sumL
  rw [List.take_succ_eq_append_getElem hk, List.map_append, List.sum_append]
  simp only [List.map_cons, List.map_nil, List.sum_cons, List.sum_nil, Nat.add_zero]
theorem sumL_all (G : List (List Int)) : sumL G G.length = (G.map List.length).sum := by unfold sumL; rw [List.take_length]
theorem sumL_le (G : List (List Int)) (k : Nat) : sumL G k ≤ (G.map List.length).sum := by
  have e : (G.map List.length).sum = ((G.take k).map List.length).sum + ((G.drop k).map List.length).sum := by
    rw [← List.sum_append, ← List.map_append, List.take_append_drop]
  unfold sumL
  omega
theorem sum_set : ∀ (G : List (List Int)) (j : Nat) (g : List Int) (x : Int), G[j]? = some g → ((G.set j (g ++ [x])).map List.length).sum = (G.map List.length).sum + 1
  | [], j, g, x, h => by simp at h
  | a :: r, 0, g, x, h => by
    simp at h
    subst h
    simp
    omega
  | a :: r, j + 1, g, x, h => by
    simp only [List.getElem?_cons_succ] at h
    have := sum_set r j g x h
    simp only [List.set_cons_succ, List.map_cons, List.sum_cons, this]
    omega
theorem grp_sum (fs : Nat → List Int) : ∀ k, ((grpS fs k).2.map List.length).sum = k
  | 0 => rfl
  | k + 1 => by
    have ih := grp_sum fs k
    obtain ⟨h1, h2, h3⟩ := grp_is fs k
    obtain ⟨hl, _⟩ := grpS_len fs k
    cases hq : (grpS fs k).1.contains (fs k)
    · rw [grpS_new hq]
      simp only [List.map_append, List.sum_append, ih]
      rfl
    · have hlt := List.idxOf_lt_length_iff.2 (List.contains_iff_mem.1 hq)
      rw [grpS_old hq]
      have hg : (grpS fs k).2[(grpS fs k).1.idxOf (fs k)]? = some ((grpS fs k).2[(grpS fs k).1.idxOf (fs k)]'(by omega)) := List.getElem?_eq_getElem _
      simp only [List.getD_eq_getElem?_getD, hg, Option.getD_some]
      rw [sum_set _ _ _ _ hg, ih]

/-- Whether the first m indexes of a group are in another one. -/
def okI (ga gs : List Int) : Nat → Bool
  | 0 => true
  | m + 1 => okI ga gs m && gs.contains (ga.getD m 0)
/-- Whether a group lies in one of the first groups. -/
def inJ (S : List (List Int)) (ga : List Int) : Nat → Bool
  | 0 => false
  | j + 1 => inJ S ga j || okI ga (S.getD j []) ga.length
theorem inJ_of {S : List (List Int)} {ga : List Int} {j : Nat} (h : okI ga (S.getD j []) ga.length = true) : ∀ {b : Nat}, j < b → inJ S ga b = true
  | 0, hb => by omega
  | b + 1, hb => by
    show (inJ S ga b || okI ga (S.getD b []) ga.length) = true
    by_cases e : j = b
    · subst e; rw [h]; simp
    · rw [inJ_of h (show j < b by omega)]; simp
theorem okI_of {ga gs : List Int} (h : ∀ z ∈ ga, gs.contains z = true) : ∀ m, m ≤ ga.length → okI ga gs m = true
  | 0, _ => rfl
  | m + 1, hm => by
    show (okI ga gs m && _) = true
    rw [okI_of h m (by omega), Bool.true_and, List.getD_eq_getElem?_getD, List.getElem?_eq_getElem (by omega)]
    exact h _ (List.getElem_mem _)
/-- Each group lies in a group of shapes. -/
theorem groups_in (tt : List (List Int)) (n : Nat) : ∀ (i : Nat) (ga : List Int), (grpS (fun k => canon (tt.getD k [])) n).2[i]? = some ga → inJ (grpS (fun k => flat (tt.getD k [])) n).2 ga (grpS (fun k => flat (tt.getD k [])) n).2.length = true := by
  intro i ga hi
  obtain ⟨a1, a2, a3⟩ := grp_is (fun k => canon (tt.getD k [])) n
  obtain ⟨b1, b2, b3⟩ := grp_is (fun k => flat (tt.getD k [])) n
  obtain ⟨la, _⟩ := grpS_len (fun k => canon (tt.getD k [])) n
  obtain ⟨lb, _⟩ := grpS_len (fun k => flat (tt.getD k [])) n
  obtain ⟨hil, _⟩ := List.getElem?_eq_some_iff.1 hi
  obtain ⟨x, hx⟩ : ∃ x, (grpS (fun k => canon (tt.getD k [])) n).1[i]? = some x := ⟨_, List.getElem?_eq_getElem (by omega)⟩
  have hga := a3 i x hx
  rw [hi] at hga
  have hga' := Option.some.inj hga
  obtain ⟨i0, hi0, e0⟩ := (a2 x).1 (List.mem_of_getElem? hx)
  have hy : flat (tt.getD i0 []) ∈ (grpS (fun k => flat (tt.getD k [])) n).1 := (b2 _).2 ⟨i0, hi0, rfl⟩
  obtain ⟨j, hj, ej⟩ := List.mem_iff_getElem.1 hy
  have hgs := b3 j _ (by rw [List.getElem?_eq_getElem hj, ej])
  refine inJ_of (j := j) ?_ (by omega)
  rw [List.getD_eq_getElem?_getD, hgs]
  refine okI_of (fun z hz => ?_) _ (Nat.le_refl _)
  rw [hga'] at hz
  obtain ⟨y, hyn, hp, rfl⟩ := chF_mem.1 hz
  have e1 : canon (tt.getD y []) = x := of_decide_eq_true hp
  have e2 : flat (tt.getD y []) = flat (tt.getD i0 []) := by
    rw [← flat_canonL (tt.getD y []) [], ← flat_canonL (tt.getD i0 []) []]
    show flat (canon _) = flat (canon _)
    rw [e1, e0]
  rw [Option.getD_some, List.contains_iff_mem]
  exact chF_mem.2 ⟨y, hyn, decide_eq_true e2, rfl⟩

end Go.Proofs.Ytcegbmibpkopaaa

/- The walk of FindGroups. -/
namespace Go.Proofs.Ytcegbmibpkopaaa
open Go.RowKit

set_option maxRecDepth 100000 in
set_option maxHeartbeats 4000000 in
theorem groups_small (As At : Option Addr) (ns cs n c : Nat) (ls : List Hd) (w : World) (ht : HdsAt w w.heap.size At n ls) (h : fewB ns n 70 ls = false) :
    Calls Try.prog 12 #[.slice As ns cs, .slice At n c] w fun e w' => e = .returned (.bool true) ∧ Below w.heap.size w w' := by
  have C1 := Lib.hid (few5_any As At ns cs n c 70 ls w _ ht)
  rw [h] at C1
  clear ht h
  go_enter Try.func12, Try.ntmps12
  go_wp2_with (first
    | (go_at_call 53; refine C1.out.mono ?_; rintro e w' ⟨rfl, rfl⟩)
    | (go_at_call 54; refine (awakeF_any _).mono ?_; rintro e w3 ⟨rfl, hB3⟩; have HB3 := Lib.hid hB3; clear hB3))
  go_ret
  exact ⟨rfl, HB3.out⟩

set_option maxRecDepth 100000 in
set_option maxHeartbeats 8000000 in
theorem groups_walk (As At : Option Addr) (ns cs n c : Nat) (ss : Sg) (ls : List Hd) (tt : List (List Int)) (w : World) (hs : SigAt w w.heap.size As ns ss) (ht : TermsAt w w.heap.size At n ls tt) :
    Calls Try.prog 12 #[.slice As ns cs, .slice At n c] w fun e w' => e = .returned (.bool true) ∧ Below w.heap.size w w' := by
  cases hf : fewB ns n 70 ls
  · exact groups_small As At ns cs n c ls w ht.hds hf
  have h70 : n ≤ 70 := by
    unfold fewB at hf
    rw [Bool.and_eq_true, decide_eq_true_eq] at hf
    omega
  have C1 := Lib.hid (few5_any As At ns cs n c 70 ls w _ ht.hds)
  rw [hf] at C1
  have hlt := ht.len
  have PG := Lib.hid (fGroups_any As At ns cs n c ss ls tt w hs ht (by omega))
  have RG := Lib.hid (fun V (h : Below w.heap.size w V) => rGroups_any As At ns cs n c ss ls tt V (hs.up h) (ht.up h) (by omega))
  have PS := Lib.hid (fun V (h : Below w.heap.size w V) => fShapes_any As At ns cs n c ss ls tt V (hs.up h) (ht.up h) (by omega))
  have RS := Lib.hid (fun V (h : Below w.heap.size w V) => rShapes_any As At ns cs n c ss ls tt V (hs.up h) (ht.up h) (by omega))
  have PT := Lib.hid (fun V (h : Below w.heap.size w V) => fSorted_any As At ns cs n c ss ls tt V (hs.up h) (ht.up h) (by omega))
  have RT := Lib.hid (fun V (h : Below w.heap.size w V) => rSorted_any As At ns cs n c ss ls tt V (hs.up h) (ht.up h) (by omega))
  obtain ⟨g1, g2, _, _⟩ := grpZ_facts ss tt canon
  obtain ⟨s1, s2, _, _⟩ := grpZ_facts ss tt flat
  cases hv : shOk ss tt
  · have e1 : grpZ ss tt canon = ([], 1) := by unfold grpZ; rw [hv]; simp
    have e2 : grpZ ss tt flat = ([], 1) := by unfold grpZ; rw [hv]; simp
    rw [e1] at PG
    simp only [e1] at RG PT
    simp only [e2] at PS RS
    rw [hv] at RT
    simp only [Bool.false_eq_true, if_false] at RT
    have HSB := Lib.hid (fun (t' : List (List Int)) (h : SortOf ss tt t') => h.2 hv)
    clear hs ht hf hlt g1 g2 s1 s2 hv e1 e2
    go_enter Try.func12, Try.ntmps12
    go_wp2_with (first
      | (go_at_call 53; refine C1.out.mono ?_; rintro e w' ⟨rfl, rfl⟩)
      | (go_at_call 69; refine PG.out.mono ?_; rintro e w1 ⟨A1, m1, c1, h1, rfl, hG, hB⟩; have hz := hG.len; have HG1 := Lib.hid (hG.reads (by simp at hz; omega) (fun j g h => by simp at h)); have HB1 := Lib.hid hB; clear hG hB hz)
      | (go_at_call 70; refine (RG.out _ HB1.out).mono ?_; rintro e w2 ⟨A2, m2, c2, l2, rfl, hT, hB⟩; have HG1b := Lib.hid (HG1.out.up hB); have HT2 := Lib.hid hT; have HB2 := Lib.hid (below_then HB1.out hB); clear hT hB)
      | (go_at_call 71; (with_reducible refine (samePaths_self A1 A2 m1 c1 m2 c2 h1 l2 [] _ _ HG1b.out HT2.out (by simp)).mono ?_); rintro e w3 ⟨rfl, k3, hw3⟩; have HB3 := Lib.hid (show Below w.heap.size w w3 from by rw [hw3]; exact below_drewN HB2.out _); clear hw3)
      | (go_at_call 72; refine (PS.out _ HB3.out).mono ?_; rintro e w4 ⟨A4, m4, c4, h4, rfl, hG, hB⟩; have hz := hG.len; have HG4 := Lib.hid (hG.reads (by simp at hz; omega) (fun j g h => by simp at h)); have HB4 := Lib.hid (below_then HB3.out hB); clear hG hB hz)
      | (go_at_call 73; refine (RS.out _ HB4.out).mono ?_; rintro e w5 ⟨A5, m5, c5, l5, rfl, hT, hB⟩; have HG4b := Lib.hid (HG4.out.up hB); have HT5 := Lib.hid hT; have HB5 := Lib.hid (below_then HB4.out hB); clear hT hB)
      | (go_at_call 71; (with_reducible refine (samePaths_self A4 A5 m4 c4 m5 c5 h4 l5 [] _ _ HG4b.out HT5.out (by simp)).mono ?_); rintro e w6 ⟨rfl, k6, hw6⟩; have HB6 := Lib.hid (show Below w.heap.size w w6 from by rw [hw6]; exact below_drewN HB5.out _); clear hw6)
      | (go_at_call 74; refine (PT.out _ HB6.out).mono ?_; rintro e w7 ⟨A7, m7, c7, l7, t7, rfl, hT, hB, hS⟩; obtain rfl := HSB.out t7 hS; have HT7 := Lib.hid hT; have HB7 := Lib.hid (below_then HB6.out hB); clear hT hB hS)
      | (go_at_call 75; refine (RT.out _ HB7.out).mono ?_; rintro e w8 ⟨A8, m8, c8, l8, rfl, hT, hB⟩; have HT7b := Lib.hid (HT7.out.up hB); have HT8 := Lib.hid hT; have HB8 := Lib.hid (below_then HB7.out hB); clear hT hB)
      | (go_at_call 76; (with_reducible refine (sameTerms_self A7 A8 m7 c7 m8 c8 l7 l8 [] _ _ HT7b.out HT8.out (by simp)).mono ?_); rintro e w9 ⟨rfl, k9, hw9⟩; have HB9 := Lib.hid (show Below w.heap.size w w9 from by rw [hw9]; exact below_drewN HB8.out _); clear hw9)
      | (go_at_call 54; refine (awakeF_any _).mono ?_; rintro e wx ⟨rfl, hB⟩; have HBX := Lib.hid (below_then HB9.out hB); clear hB))
    go_ret
    exact ⟨rfl, HBX.out⟩
  · have hsl := shOk_len hv
    have hn60 : n ≤ 60 := by omega
    have e1 : grpZ ss tt canon = ((grpS (fun k => canon (tt.getD k [])) n).2, 0) := by unfold grpZ; rw [hv, hlt]; rfl
    have e2 : grpZ ss tt flat = ((grpS (fun k => flat (tt.getD k [])) n).2, 0) := by unfold grpZ; rw [hv, hlt]; rfl
    rw [e1] at PG g1 g2
    simp only [e1] at RG PT
    simp only [e2] at PS RS
    rw [e2] at s1 s2
    simp only at PG g1 g2 s1 s2
    rw [hv] at RT
    simp only [if_true] at RT
    have HSB := Lib.hid (fun (t' : List (List Int)) (h : SortOf ss tt t') => show t' = withT (tt.map canon) n from by rw [hlt]; exact sorted_same hv h)
    have HTL := Lib.hid (fun (t' : List (List Int)) (h : SortOf ss tt t') => show t'.length = (grpS (fun k => canon (tt.getD k [])) n).2.length from by
      have := (h.1 hv).2.1
      rw [this, ← hlt]
      exact (grpS_len _ _).1)
    have hin := groups_in tt n
    have hsum : sumL (grpS (fun k => canon (tt.getD k [])) n).2 (grpS (fun k => canon (tt.getD k [])) n).2.length = n := by
      unfold sumL
      rw [List.take_length]
      exact grp_sum _ n
    have hwl : (withT (tt.map canon) n).length ≤ 60 := by
      have := withT_len (tt.map canon) n (by rw [List.length_map]; omega)
      omega
    generalize withT (tt.map canon) n = TT at *
    generalize (grpS (fun k => canon (tt.getD k [])) n).2 = GA at *
    generalize (grpS (fun k => flat (tt.getD k [])) n).2 = GS at *
    rw [← hlt] at g1 g2 s1 s2
    have HSUM := Lib.hid hsum
    have HIN := Lib.hid hin
    have HG2 := Lib.hid (fun j g h => (g2 j g h).2)
    have HS2 := Lib.hid (fun j g h => (s2 j g h).2)
    have HGL := Lib.hid g1
    have HSL := Lib.hid s1
    have HWL := Lib.hid hwl
    clear hs ht hf hlt g1 s1 hwl g2 s2 hv e1 e2 hin hsum hsl
    go_enter Try.func12, Try.ntmps12
    go_wp2_with (first
      | (go_at_call 53; refine C1.out.mono ?_; rintro e w' ⟨rfl, rfl⟩)
      | (go_at_call 69; refine PG.out.mono ?_; rintro e w1 ⟨A1, m1, c1, h1, rfl, hG, hB⟩; have hz := hG.len; have HZ1 := Lib.hid hz; have HG1 := Lib.hid (hG.reads (by have := HGL.out; simp only at hz; omega) (fun j g h => by have := HG2.out j g h; omega)); have HB1 := Lib.hid hB; clear hG hB hz)
      | (go_at_call 70; refine (RG.out _ HB1.out).mono ?_; rintro e w2 ⟨A2, m2, c2, l2, rfl, hT, hB⟩; have HG1b := Lib.hid (HG1.out.up hB); have HT2 := Lib.hid hT; have HB2 := Lib.hid (below_then HB1.out hB); clear hT hB)
      | (go_at_call 71; (with_reducible refine (samePaths_self A1 A2 m1 c1 m2 c2 h1 l2 GA _ _ HG1b.out HT2.out (by have := HGL.out; omega)).mono ?_); rintro e w3 ⟨rfl, k3, hw3⟩; have HB3 := Lib.hid (show Below w.heap.size w w3 from by rw [hw3]; exact below_drewN HB2.out _); have HG1c := Lib.hid (HG1b.out.up (show Below w2.heap.size w2 w3 from by rw [hw3]; exact below_drewN (Below.refl _ _) _)); clear hw3)
      | (go_at_call 72; refine (PS.out _ HB3.out).mono ?_; rintro e w4 ⟨A4, m4, c4, h4, rfl, hG, hB⟩; have hz := hG.len; have HZ4 := Lib.hid hz; have HG1d := Lib.hid (HG1c.out.up hB); have HG4 := Lib.hid (hG.reads (by have := HSL.out; simp only at hz; omega) (fun j g h => by have := HS2.out j g h; omega)); have HB4 := Lib.hid (below_then HB3.out hB); clear hG hB hz)
      | (go_at_call 73; refine (RS.out _ HB4.out).mono ?_; rintro e w5 ⟨A5, m5, c5, l5, rfl, hT, hB⟩; have HG4b := Lib.hid (HG4.out.up hB); have HG1e := Lib.hid (HG1d.out.up hB); have HT5 := Lib.hid hT; have HB5 := Lib.hid (below_then HB4.out hB); clear hT hB)
      | (go_at_call 71; (with_reducible refine (samePaths_self A4 A5 m4 c4 m5 c5 h4 l5 GS _ _ HG4b.out HT5.out (by have := HSL.out; omega)).mono ?_); rintro e w6 ⟨rfl, k6, hw6⟩; have HB6 := Lib.hid (show Below w.heap.size w w6 from by rw [hw6]; exact below_drewN HB5.out _); have HG1f := Lib.hid (HG1e.out.up (show Below w5.heap.size w5 w6 from by rw [hw6]; exact below_drewN (Below.refl _ _) _)); have HG4c := Lib.hid (HG4b.out.up (show Below w5.heap.size w5 w6 from by rw [hw6]; exact below_drewN (Below.refl _ _) _)); clear hw6)
      | (go_at_call 74; refine (PT.out _ HB6.out).mono ?_; rintro e w7 ⟨A7, m7, c7, l7, t7, rfl, hT, hB, hS⟩; have h7l := HTL.out t7 hS; obtain rfl := HSB.out t7 hS; have HT7 := Lib.hid hT; have H7L := Lib.hid h7l; have HG1g := Lib.hid (HG1f.out.up hB); have HG4d := Lib.hid (HG4c.out.up hB); have HB7 := Lib.hid (below_then HB6.out hB); clear hT hB hS h7l)
      | (go_at_call 75; refine (RT.out _ HB7.out).mono ?_; rintro e w8 ⟨A8, m8, c8, l8, rfl, hT, hB⟩; have HT7b := Lib.hid (HT7.out.up hB); have HG1h := Lib.hid (HG1g.out.up hB); have HG4e := Lib.hid (HG4d.out.up hB); have HT8 := Lib.hid hT; have HB8 := Lib.hid (below_then HB7.out hB); clear hT hB)
      | (go_at_call 76; (with_reducible refine (sameTerms_self A7 A8 m7 c7 m8 c8 l7 l8 _ _ _ HT7b.out HT8.out (by have := HWL.out; omega)).mono ?_); rintro e w9 ⟨rfl, k9, hw9⟩; have HB9 := Lib.hid (show Below w.heap.size w w9 from by rw [hw9]; exact below_drewN HB8.out _); have HTA := Lib.hid (HG1h.out.up (show Below w8.heap.size w8 w9 from by rw [hw9]; exact below_drewN (Below.refl _ _) _)); have HTS := Lib.hid (HG4e.out.up (show Below w8.heap.size w8 w9 from by rw [hw9]; exact below_drewN (Below.refl _ _) _)); clear hw9))
    have hm1 : m1 ≤ 60 := by have := HZ1.out; have := HGL.out; omega
    have hm4 : m4 ≤ 60 := by have := HZ4.out; have := HSL.out; omega
    have hm7 : m7 = m1 := by have := HT7.out.len; have := H7L.out; have := HZ1.out; omega
    have hq7 : ((m7 : Int) == (m1 : Int)) = true := by rw [hm7]; simp
    have hqn : ((n : Int) == (n : Int)) = true := by simp
    go_loopw [13, 14] (fun a iv wr => ∃ q i : Nat, i ≤ m1 ∧ iv = .int .i64 i ∧ a = .int .i64 (sumL GA i : Nat) ∧ wr = w9.drewN q) (fun _ iv _ => m1 - (intOf iv).toNat)
    case atStart => exact ⟨0, 0, Nat.zero_le _, rfl, rfl, rfl⟩
    case round =>
      obtain ⟨q, i, hi, rfl, rfl, rfl⟩ := hrel
      by_cases hlti : i < m1
      · obtain ⟨bb, offb, Xb, nb, cb, rfl, hbb, p1, p2⟩ := HTA.out.hds.cellAt hlti
        obtain ⟨gb, gb1, _, hIb⟩ := HTA.out.at p2
        have hin := HIN.out i gb gb1
        have HLB := Lib.hid hIb.len
        have hgb := HG2.out i gb gb1
        have HINJ := Lib.hid hin
        have HIB := Lib.hid hIb
        have HSS := Lib.hid (sumL_succ gb1)
        have hsl : sumL GA i ≤ 60 := by
          have := sumL_le GA i
          have := HSUM.out
          have e := sumL_all GA
          omega
        have p1' : ∀ z, (w9.drewN z).cell? ⟨bb, offb + i, none⟩ = some (.slice Xb nb cb) := fun _ => p1
        have hi0 : (0 : Int) ≤ (i : Int) := by omega
        have hi1' : (i : Int) < (m1 : Int) := by omega
        have hnb : nb ≤ 60 := by have := HLB.out; omega
        have HSN := Lib.hid (show sumL GA (i + 1) = sumL GA i + nb by rw [HSS.out, HLB.out])
        clear hin hIb gb1 hgb p1 p2
        generalize sumL GA i = S at *
        go_wp2
        go_loopw [15, 16] (fun s jv wr => ∃ q j : Nat, j ≤ m4 ∧ jv = .int .i64 j ∧ s = .bool (inJ GS gb j) ∧ wr = w9.drewN q) (fun _ jv _ => m4 - (intOf jv).toNat)
        case atStart => exact ⟨q, 0, Nat.zero_le _, rfl, rfl, rfl⟩
        case round =>
          obtain ⟨q2, j, hj, rfl, rfl, rfl⟩ := hrel
          by_cases hltj : j < m4
          · obtain ⟨ba, offa, Xa, na, ca, rfl, hba, r1, r2⟩ := HTS.out.hds.cellAt hltj
            obtain ⟨gA, ga1, ga2, hIa⟩ := HTS.out.at r2
            have HIA := Lib.hid hIa
            have r1' : ∀ z, (w9.drewN z).cell? ⟨ba, offa + j, none⟩ = some (.slice Xa na ca) := fun _ => r1
            have hj0 : (0 : Int) ≤ (j : Int) := by omega
            have hj1' : (j : Int) < (m4 : Int) := by omega
            have HSJ := Lib.hid (show inJ GS gb (j + 1) = (inJ GS gb j || okI gb gA gb.length) by show (_ || okI gb (GS.getD j []) gb.length) = _; rw [ga2])
            clear hIa ga1 ga2 r1 r2
            generalize inJ GS gb j = S0 at *
            go_wp2
            go_loopw [17, 18] (fun l mv wr => ∃ q m : Nat, m ≤ nb ∧ mv = .int .i64 m ∧ l = .bool (okI gb gA m) ∧ wr = w9.drewN q) (fun _ mv _ => nb - (intOf mv).toNat)
            case atStart => exact ⟨_, 0, Nat.zero_le _, rfl, rfl, rfl⟩
            case round =>
              obtain ⟨q3, m, hm, rfl, rfl, rfl⟩ := hrel
              by_cases hltm : m < nb
              · obtain ⟨bz, offz, z, rfl, c0, k1, e1⟩ := HIB.out.cellAt hltm
                obtain ⟨qv, hqv⟩ : ∃ qv, gA.contains z = qv := ⟨_, rfl⟩
                have HN := Lib.hid (show okI gb gA (m + 1) = (okI gb gA m && qv) by
                  show (okI gb gA m && gA.contains (gb.getD m 0)) = _
                  rw [List.getD_eq_getElem?_getD, List.getElem?_eq_getElem k1, e1, Option.getD_some, hqv])
                obtain ⟨WQ, hWQ⟩ : ∃ WQ, w9.drewN q3 = WQ := ⟨_, rfl⟩
                have CH : Hid (∀ j, Calls Try.prog 68 #[.slice Xa na ca, .int .i64 z] (WQ.drewN j) fun e w'' => e = .returned (.bool qv) ∧ ∃ m, w'' = WQ.drewN m) := Lib.hid (fun j => by
                  rw [← hqv]
                  refine (has_any Xa na ca gA z (WQ.drewN j) w9.heap.size (HIA.out.keep fun _ _ => by rw [← hWQ]; rfl)).mono ?_
                  rintro e w'' ⟨rfl, rfl⟩
                  exact ⟨rfl, j, rfl⟩)
                have s1 : WQ.cell? ⟨bb, offb + i, none⟩ = some (.slice (some ⟨bz, offz, none⟩) nb cb) := by rw [← hWQ]; exact p1' _
                have s2 : WQ.cell? ⟨ba, offa + j, none⟩ = some (.slice Xa na ca) := by rw [← hWQ]; exact r1' _
                have s3 : WQ.cell? ⟨bz, offz + m, none⟩ = some (.int .i64 z) := by rw [← hWQ]; exact c0
                have hm0 : (0 : Int) ≤ (m : Int) := by omega
                have hm1' : (m : Int) < (nb : Int) := by omega
                have HWQ := Lib.hid hWQ
                rw [hWQ]
                clear c0 k1 e1 hqv hWQ p1' r1'
                cases hS : okI gb gA m
                · have HF := Lib.hid (show okI gb gA (m + 1) = false by rw [HN.out, hS]; rfl)
                  clear hS CH
                  go_wp2_with fail
                  go_quiet (fail)
                  go_wp2
                  go_roundw
                  case rel => exact ⟨_, m + 1, by omega, by go_num, by rw [HF.out], by rw [← HWQ.out, World.drewN_drewN]⟩
                  case measure => simp [intOf]; omega
                · have HF := Lib.hid (show okI gb gA (m + 1) = qv by rw [HN.out, hS]; rfl)
                  clear hS
                  go_wp2_with fail
                  go_quiet ((go_at_call 68; with_reducible exact CH.out _))
                  go_wp2
                  go_roundw
                  case rel => exact ⟨_, m + 1, by omega, by go_num, by rw [HF.out], by rw [← HWQ.out, World.drewN_drewN]⟩
                  case measure => simp [intOf]; omega
              · obtain rfl : m = nb := by omega
                have HL := Lib.hid (show inJ GS gb (j + 1) = (S0 || okI gb gA m) by rw [HSJ.out, HLB.out])
                generalize okI gb gA m = S1 at *
                cases S0 <;> cases S1
                all_goals
                  go_wp2
                  go_roundw
                  case rel => exact ⟨_, j + 1, by omega, by go_num, by rw [HL.out]; rfl, rfl⟩
                  case measure => simp [intOf]; omega
          · obtain rfl : j = m4 := by omega
            have HT := Lib.hid (show inJ GS gb j = true by have := HINJ.out; rw [HZ4.out] at this; exact this)
            rw [HT.out]
            go_wp2
            go_roundw
            case rel => exact ⟨_, i + 1, by omega, by go_num, by rw [HSN.out]; go_num, rfl⟩
            case measure => simp [intOf]; omega
      · obtain rfl : i = m1 := by omega
        have HA := Lib.hid (show sumL GA i = n by have := HSUM.out; rw [HZ1.out] at this; exact this)
        rw [HA.out]
        go_wp2_with (go_at_call 54; refine (awakeF_any _).mono ?_; rintro e VX ⟨rfl, hBX⟩; have HBX := Lib.hid (below_then (below_drewN HB9.out _) hBX); clear hBX)
        go_ret
        exact ⟨rfl, HBX.out⟩

end Go.Proofs.Ytcegbmibpkopaaa

namespace Go.Proofs.Ytcegbmibpkopaaa
open Go.ChangeShapes Go.WideShapes Go.ChangeAt Go.RowKit Go.Deep

set_option maxRecDepth 100000 in
theorem groups_lifted (os : Os) (started : os.Started) (H : Type) (enc : TypeId × Value → H) :
    ReturnsInHanded {} Try.checked os 12 .any (Rows.findGroupsSpec.pre6 enc Try.prog Try.f12 Rows.findGroupsRow.domain false) (Rows.findGroupsSpec.post enc Try.prog Try.f12 false true false false) := by
  refine returnsInHanded_of_change (C := Try.checked) own started (by kernel_rfl) Try.func12
    (ChangeSpec.witness6 (enc := enc) (C := Try.checked) false ⟨#[], #[.slice none 0 0, .slice none 0 0], []⟩ 8 (by kernel_rfl) (by kernel_rfl) (by kernel_rfl) (by kernel_rfl)) ?_
  intro W base args ds gs before hval0 hW hcnd _
  have hval : ∀ (j : Nat) t v, Try.f12.params[j]? = some t → args[j]? = some v → Value.okWide Try.prog W .any base t v := hval0
  have hW' := hW
  obtain ⟨p, q, hA0, hV, rfl, hfz, hnd⟩ := hW
  have hA : DataW.TrodAll enc Try.prog W 0 (fun _ => true) true Try.f12.params.toList args.toList ds p := hA0
  rw [Try.params12] at hA hval
  obtain ⟨v0, vs0, d0, ds0, p0, q0, hargs, rfl, rfl, h0, r0⟩ := trodAll_cons hA
  obtain ⟨v1, vs1, d1, ds1, p1, q1, rfl, rfl, rfl, h1, r1⟩ := trodAll_cons r0
  obtain ⟨rfl, rfl, rfl⟩ := trodAll_nil r1
  obtain rfl : args = #[v0, v1] := by cases args; simp_all
  obtain ⟨rfl, rfl⟩ := trodVars_none hV
  obtain ⟨a0, len0, cap0, rfl⟩ := okWide_slice Try.underlying23 (hval 0 23 v0 rfl rfl)
  obtain ⟨a1, len1, cap1, rfl⟩ := okWide_slice Try.underlying49 (hval 1 49 v1 rfl rfl)
  have k0 := h0
  have k1 := h1
  have lt0 : ∀ x ∈ p0, x.block < W.heap.size := by obtain ⟨m, hm⟩ := k0; exact DataW.trod_lt m _ _ _ hm
  have lt1 : ∀ x ∈ p1, x.block < W.heap.size := by obtain ⟨m, hm⟩ := k1; exact DataW.trod_lt m _ _ _ hm
  obtain ⟨f0, e0⟩ := h0
  obtain ⟨f1, e1⟩ := h1
  obtain ⟨As, ns, cs, ss, es, hs⟩ := read_sign e0
  cases es
  obtain ⟨At, nt, ct, ls, tt, et, ht, hkt, hcap⟩ := read_termsk e1
  cases et
  clear hA0 hval0
  refine (groups_walk _ _ _ _ _ _ ss ls tt W hs ht).mono fun e W' ⟨he, bel⟩ => ?_
  subst he
  exact ⟨_, rfl, _, _, _, [], _, [], hW', trodAll_mk1 (shut_bool Try.underlying4 _), (trodAll_cons_mk (Below.trod laidOut (by kernel_rfl) (of_decide_eq_true (by kernel_rfl)) k0 bel lt0) (trodAll_cons_mk (Below.trod laidOut (by kernel_rfl) (of_decide_eq_true (by kernel_rfl)) k1 bel lt1) trodAll_mk0)), rfl, bel.frame _, fun h => by cases h⟩

theorem groups_holds : Rows.FindGroupsSaid :=
  OpenClaim.holds_of_wide 12 Try.f12 rfl rfl rfl rfl rfl rfl rfl ⟨rfl, rfl, rfl, rfl, rfl⟩ rfl rfl rfl rfl rfl (by kernel_rfl) Try.func12 (by kernel_rfl)
    (of_decide_eq_true (by kernel_rfl)) (by unfold Func.isWrapper; first | (rw [if_pos (by decide +kernel)]; kernel_rfl) | (rw [if_neg (by decide +kernel)]; exact ⟨rfl, rfl⟩))
    (fun os started H enc _ => groups_lifted os started H enc)

end Go.Proofs.Ytcegbmibpkopaaa
