/- lemmarytop.TopPutInstance: for every sign and every swap (a list of numbers, a path and a list of numbers) the statement's function returns true, and its arguments read behind the call as they read before. No condition. -/
import Derived.Test.YtlciaecclcckbaaH8g
import Derived.Test.YtlciaecclcckbaaN24g
import Derived.Test.YtlciaecclcckbaaN33g
import Derived.Test.YtlciaecclcckbaaN29g
import Derived.Test.YtlciaecclcckbaaY21g
import Derived.Test.YtlciaecclcckbaaC3g
import Derived.Test.YtlciaecclcckbaaO3g
import Derived.Test.YtlciaecclcckbaaQ2g
import Derived.Test.YtlciaecclcckbaaK2g
/- What is put in the place of a variable: the plain mathematics. -/
namespace Go.Proofs.Ytlciaecclcckbaa
open Go.RowKit

theorem apN_but {v : Nat} {us : List Int} : ∀ {l : List Int}, (-(v : Int) - 1) ∉ l → apN (fun u => if u = v then us else [-(u : Int) - 1]) l = l
  | [], _ => rfl
  | z :: l, h => by
    rw [apN_cons, apN_but fun hm => h (List.mem_cons_of_mem _ hm)]
    by_cases hz : z < 0
    · have hne : (-z - 1).toNat ≠ v := fun e => h (by rw [List.mem_cons]; exact .inl (by omega))
      rw [if_pos hz]
      show (if (-z - 1).toNat = v then us else [-(((-z - 1).toNat : Nat) : Int) - 1]) ++ l = z :: l
      rw [if_neg hne, show -(((-z - 1).toNat : Nat) : Int) - 1 = z by omega]
      rfl
    · rw [if_neg hz]
      rfl
theorem putL_inst {ss : Sg} {zs us : List Int} {a v : Nat} (hv : (-(v : Int) - 1) ∉ zs) (hu : scan ss 1 us = some []) (h1 : valOk ss (putL ss zs [-(v : Int) - 1] a) = true) (h2 : valOk ss (putL ss zs us a) = true) : insB ss (putL ss zs [-(v : Int) - 1] a) (putL ss zs us a) = true := by
  refine ins_in (σ := fun u => if u = v then us else [-(u : Int) - 1]) h1 h2 (fun u _ => ?_) ?_
  · show scan ss 1 (if u = v then us else [-(u : Int) - 1]) = some []
    split
    · exact hu
    · exact scan_neg (by omega)
  · unfold putL
    rw [apN_append, apN_append, apN_but fun hm => hv (List.mem_of_mem_take hm), apN_but fun hm => hv (List.mem_of_mem_drop hm)]
    congr 2
    rw [apN_cons, if_pos (by omega)]
    show (if (-(-(v : Int) - 1) - 1).toNat = v then us else _) ++ [] = us
    rw [if_pos (by omega), List.append_nil]
theorem putR_inv {ss : Sg} {zs p us c : List Int} (h : putR ss zs p us = (c, 0)) : valOk ss zs = true ∧ valOk ss us = true ∧ ∃ a, locN ss zs p 0 = some a ∧ PartAt ss zs a ∧ c = putL ss zs us a ∧ valOk ss c = true := by
  unfold putR at h
  split at h
  · cases h
  · rename_i hv
    have hv' : (valOk ss zs && valOk ss us) = true := by simpa using hv
    rw [Bool.and_eq_true] at hv'
    cases e : locN ss zs p 0 with
    | none => rw [e] at h; cases h
    | some a =>
      rw [e] at h
      simp only at h
      split at h
      · cases h
      · rename_i hl
        have hp := (locN_part p 0 a (PartAt.zero hv'.1) e).1
        cases h
        exact ⟨hv'.1, hv'.2, a, rfl, hp, rfl, valid_put hv'.1 hv'.2 hp (by omega)⟩
/-- With a variable in the place of a part the term has both the term with anything there, and itself, as instances. -/
theorem put_inst {ss : Sg} {zs p us c d : List Int} {v : Nat} (hv : (-(v : Int) - 1) ∉ zs) (h1 : putR ss zs p [-(v : Int) - 1] = (c, 0)) (h2 : putR ss zs p us = (d, 0)) : insB ss c d = true ∧ insB ss c zs = true := by
  obtain ⟨v1, _, a, e1, hp, rfl, w1⟩ := putR_inv h1
  obtain ⟨_, v2, a2, e2, _, rfl, w2⟩ := putR_inv h2
  rw [e1] at e2
  cases e2
  refine ⟨putL_inst hv (valOk_term v2).2.2.2 w1 w2, ?_⟩
  have hx := atR_mk v1 e1
  have hw := valid_prt v1 hp
  have e3 := at_put hx
  obtain ⟨_, _, a3, e4, _, e5, _⟩ := putR_inv e3
  rw [e1] at e4
  cases e4
  rw [e5] at v1 ⊢
  exact e5 ▸ putL_inst (us := prt ss zs a) hv (valOk_term hw).2.2.2 w1 (e5 ▸ v1)
end Go.Proofs.Ytlciaecclcckbaa

/- Contracts: Unified, Unifiable, Meet, Meets at any arguments; Join with its capacity. -/
namespace Go.Proofs.Ytlciaecclcckbaa
open Go.RowKit

/-- What two terms, the second one shifted, both become, and the error. -/
def comZ (ss : Sg) (sh : Int) (za zb : List Int) : List Int × Int := if (valOk ss za && valOk ss zb) = true then (commonF ss sh 10000 za zb).getD ([], 0) else ([], 1)
/-- Whether there is such a term. -/
def hasZ (ss : Sg) (sh : Int) (za zb : List Int) : Bool := valOk ss za && valOk ss zb && (match uniteF ss sh 10000 za zb Fd.none with | none => false | some r => r.2.1)
theorem comZ_bad {ss : Sg} {sh : Int} {za zb : List Int} (h : (valOk ss za && valOk ss zb) = false) : comZ ss sh za zb = ([], 1) ∧ hasZ ss sh za zb = false := by
  unfold comZ hasZ; rw [h]; simp
theorem comZ_good {ss : Sg} {sh : Int} {za zb : List Int} (hsh : 0 ≤ sh ∧ sh ≤ 1000) (ha : valOk ss za = true) (hb : valOk ss zb = true) : commonF ss sh 10000 za zb = some (comZ ss sh za zb) := by
  obtain ⟨_, _, r, hr⟩ := common_some hsh ha hb
  unfold comZ
  rw [if_pos (by simp [ha, hb]), hr]; rfl
theorem hasZ_good {ss : Sg} {sh : Int} {za zb : List Int} (ha : valOk ss za = true) (hb : valOk ss zb = true) {k : Nat} {b : Bool} {G : Fd} (h : uniteF ss sh 10000 za zb Fd.none = some (k, b, G)) : hasZ ss sh za zb = b := by
  unfold hasZ
  rw [ha, hb, h]
  simp

set_option maxRecDepth 100000 in
set_option maxHeartbeats 1000000 in
theorem common_all (As Aa Ab : Option Addr) (ns cs na ca nb cb : Nat) (sh : Int) (ss : Sg) (za zb : List Int) (w : World) (hs : SigAt w w.heap.size As ns ss) (ha : IntsAt w w.heap.size Aa na za) (hb : IntsAt w w.heap.size Ab nb zb) (hsh : 0 ≤ sh ∧ sh ≤ 1000) :
    Calls Try.prog 80 #[.slice As ns cs, .slice Aa na ca, .slice Ab nb cb, .int .i64 sh] w (RetK w (comZ ss sh za zb).1 (comZ ss sh za zb).2) := by
  cases hv : (valOk ss za && valOk ss zb)
  · have C1 := Lib.hid (uvalid_two As Aa Ab ns cs na ca nb cb ss za zb w hs ha hb)
    rw [(comZ_bad hv).1]
    rw [hv] at C1
    clear hs ha hb hv
    go_enter Try.func80, Try.ntmps80
    go_wp2_with (go_at_call 64; refine C1.out.mono ?_; rintro e w1 ⟨rfl, hB1⟩; have HB1 := Lib.hid hB1; clear hB1)
    go_ret2
    exact ⟨none, 0, 0, rfl, IntsAt.nil _ _ 0, by omega, HB1.out⟩
  · rw [Bool.and_eq_true] at hv
    exact commonk_any As Aa Ab ns cs na ca nb cb sh ss za zb 10000 _ w hs ha hb hsh hv.1 hv.2 (by omega) (comZ_good hsh hv.1 hv.2)

set_option maxRecDepth 100000 in
set_option maxHeartbeats 1000000 in
theorem has_all (As Aa Ab : Option Addr) (ns cs na ca nb cb : Nat) (sh : Int) (ss : Sg) (za zb : List Int) (w : World) (hs : SigAt w w.heap.size As ns ss) (ha : IntsAt w w.heap.size Aa na za) (hb : IntsAt w w.heap.size Ab nb zb) (hsh : 0 ≤ sh ∧ sh ≤ 1000) :
    Calls Try.prog 79 #[.slice As ns cs, .slice Aa na ca, .slice Ab nb cb, .int .i64 sh] w fun e w' => e = .returned (.bool (hasZ ss sh za zb)) ∧ Below w.heap.size w w' := by
  have C1 := Lib.hid (uvalid_two As Aa Ab ns cs na ca nb cb ss za zb w hs ha hb)
  cases hv : (valOk ss za && valOk ss zb)
  · rw [(comZ_bad hv).2]
    rw [hv] at C1
    clear hs ha hb hv
    go_enter Try.func79, Try.ntmps79
    go_wp2_with (go_at_call 64; refine C1.out.mono ?_; rintro e w1 ⟨rfl, hB1⟩; have HB1 := Lib.hid hB1; clear hB1)
    go_ret
    exact ⟨rfl, HB1.out⟩
  · rw [hv] at C1
    rw [Bool.and_eq_true] at hv
    obtain ⟨hva, hvb⟩ := hv
    obtain ⟨⟨k, b, G, hu, hG⟩, har, _⟩ := common_some hsh hva hvb
    have HZ := Lib.hid (hasZ_good hva hvb hu)
    have CU : Hid (∀ W1 W2 : World, Below w.heap.size w W1 → FAt W2 (fun b => b < W1.heap.size) (W1.heap.size + 1) (.slice As ns cs) Fd.none → Below W1.heap.size W1 W2 →
        Calls Try.prog 100 #[.pointer (some ⟨W1.heap.size + 1, 0, none⟩), .slice Aa na ca, .slice Ab nb cb, .int .i64 sh] W2 fun e w' => e = .returned (.tuple #[.int .i64 (k : Int), .bool b]) ∧ FAt w' (fun b => b < W1.heap.size) (W1.heap.size + 1) (.slice As ns cs) G ∧ KeepE (fun b => b < W1.heap.size) W2 w') :=
      Lib.hid fun W1 W2 h1 hA h2 => unite_any _ W1.heap.size _ na ca nb cb ns cs As Aa Ab sh ss za zb Fd.none G 10000 k b W2 hva hvb hsh (fun b hb => hb) (fun b hb => Nat.lt_of_lt_of_le hb h2.size) ((hs.up h1).below h2) ((ha.up h1).below h2) ((hb.up h1).below h2) h2.size hA Fd.none_ok (by decide) (by omega) har hu
    clear hs ha hb hva hvb har hu hG
    go_enter Try.func79, Try.ntmps79
    go_wp2_with (first
      | (go_at_call 64; refine C1.out.mono ?_; rintro e w1 ⟨rfl, hB1⟩; have HB1 := Lib.hid hB1; clear hB1)
      | (go_at_call 99; refine (search_any As ns cs w1).mono ?_; rintro e w2 ⟨rfl, hA2, hB2⟩; have HA2 := Lib.hid hA2; have HB2 := Lib.hid hB2; clear hA2 hB2)
      | (go_at_call 100; refine (CU.out w1 w2 HB1.out HA2.out HB2.out).mono ?_; rintro e w3 ⟨rfl, hA3, hK3⟩; have HK3 := Lib.hid hK3; clear hA3 hK3))
    go_ret
    exact ⟨by rw [HZ.out]; rfl, (HB1.out.trans (HB2.out.mono HB1.out.size)).trans (HK3.out.below (fun b hb => Nat.lt_of_lt_of_le hb HB1.out.size))⟩

set_option maxRecDepth 100000 in
set_option maxHeartbeats 400000 in
theorem meet_all (As Aa Ab : Option Addr) (ns cs na ca nb cb : Nat) (ss : Sg) (za zb : List Int) (w : World) (hs : SigAt w w.heap.size As ns ss) (ha : IntsAt w w.heap.size Aa na za) (hb : IntsAt w w.heap.size Ab nb zb) :
    Calls Try.prog 44 #[.slice As ns cs, .slice Aa na ca, .slice Ab nb cb] w (RetK w (comZ ss 12 za zb).1 (comZ ss 12 za zb).2) := by
  have C := Lib.hid (common_all As Aa Ab ns cs na ca nb cb 12 ss za zb w hs ha hb (by omega))
  obtain ⟨R, hR⟩ : ∃ R, comZ ss 12 za zb = R := ⟨_, rfl⟩
  rw [hR] at C ⊢
  clear hs ha hb hR
  go_enter Try.func44, Try.ntmps44
  go_wp2_with (go_at_call 80; refine C.out.mono ?_; rintro e w4 ⟨A, n, c, rfl, hI, hk, hB4⟩; have HK := Lib.hid hk; clear hk; have HI := Lib.hid hI; have HB4 := Lib.hid hB4; clear hI hB4)
  go_ret2
  exact ⟨A, n, c, rfl, HI.out, HK.out, HB4.out⟩

set_option maxRecDepth 100000 in
set_option maxHeartbeats 400000 in
theorem unified_all (As Aa Ab : Option Addr) (ns cs na ca nb cb : Nat) (ss : Sg) (za zb : List Int) (w : World) (hs : SigAt w w.heap.size As ns ss) (ha : IntsAt w w.heap.size Aa na za) (hb : IntsAt w w.heap.size Ab nb zb) :
    Calls Try.prog 43 #[.slice As ns cs, .slice Aa na ca, .slice Ab nb cb] w (RetK w (comZ ss 0 za zb).1 (comZ ss 0 za zb).2) := by
  have C := Lib.hid (common_all As Aa Ab ns cs na ca nb cb 0 ss za zb w hs ha hb (by omega))
  obtain ⟨R, hR⟩ : ∃ R, comZ ss 0 za zb = R := ⟨_, rfl⟩
  rw [hR] at C ⊢
  clear hs ha hb hR
  go_enter Try.func43, Try.ntmps43
  go_wp2_with (go_at_call 80; refine C.out.mono ?_; rintro e w4 ⟨A, n, c, rfl, hI, hk, hB4⟩; have HK := Lib.hid hk; clear hk; have HI := Lib.hid hI; have HB4 := Lib.hid hB4; clear hI hB4)
  go_ret2
  exact ⟨A, n, c, rfl, HI.out, HK.out, HB4.out⟩

set_option maxRecDepth 100000 in
set_option maxHeartbeats 400000 in
theorem meets_all (As Aa Ab : Option Addr) (ns cs na ca nb cb : Nat) (ss : Sg) (za zb : List Int) (w : World) (hs : SigAt w w.heap.size As ns ss) (ha : IntsAt w w.heap.size Aa na za) (hb : IntsAt w w.heap.size Ab nb zb) :
    Calls Try.prog 46 #[.slice As ns cs, .slice Aa na ca, .slice Ab nb cb] w fun e w' => e = .returned (.bool (hasZ ss 12 za zb)) ∧ Below w.heap.size w w' := by
  have C := Lib.hid (has_all As Aa Ab ns cs na ca nb cb 12 ss za zb w hs ha hb (by omega))
  obtain ⟨R, hR⟩ : ∃ R, hasZ ss 12 za zb = R := ⟨_, rfl⟩
  rw [hR] at C ⊢
  clear hs ha hb hR
  go_enter Try.func46, Try.ntmps46
  go_wp2_with (go_at_call 79; refine C.out.mono ?_; rintro e w4 ⟨rfl, hB4⟩; have HB4 := Lib.hid hB4; clear hB4)
  go_ret
  exact ⟨rfl, HB4.out⟩

set_option maxRecDepth 100000 in
set_option maxHeartbeats 400000 in
theorem unifiable_all (As Aa Ab : Option Addr) (ns cs na ca nb cb : Nat) (ss : Sg) (za zb : List Int) (w : World) (hs : SigAt w w.heap.size As ns ss) (ha : IntsAt w w.heap.size Aa na za) (hb : IntsAt w w.heap.size Ab nb zb) :
    Calls Try.prog 42 #[.slice As ns cs, .slice Aa na ca, .slice Ab nb cb] w fun e w' => e = .returned (.bool (hasZ ss 0 za zb)) ∧ Below w.heap.size w w' := by
  have C := Lib.hid (has_all As Aa Ab ns cs na ca nb cb 0 ss za zb w hs ha hb (by omega))
  obtain ⟨R, hR⟩ : ∃ R, hasZ ss 0 za zb = R := ⟨_, rfl⟩
  rw [hR] at C ⊢
  clear hs ha hb hR
  go_enter Try.func42, Try.ntmps42
  go_wp2_with (go_at_call 79; refine C.out.mono ?_; rintro e w4 ⟨rfl, hB4⟩; have HB4 := Lib.hid hB4; clear hB4)
  go_ret
  exact ⟨rfl, HB4.out⟩

set_option maxRecDepth 100000 in
set_option maxHeartbeats 2000000 in
theorem join_allk (As Aa Ab : Option Addr) (ns cs na ca nb cb : Nat) (ss : Sg) (za zb : List Int) (w : World) (hs : SigAt w w.heap.size As ns ss) (ha : IntsAt w w.heap.size Aa na za) (hb : IntsAt w w.heap.size Ab nb zb)
    (hca : na ≤ ca) (hca2 : ca ≤ 9223372036854775807) (hcb : nb ≤ cb) (hcb2 : cb ≤ 9223372036854775807) :
    Calls Try.prog 49 #[.slice As ns cs, .slice Aa na ca, .slice Ab nb cb] w (RetK w (joZ ss za zb).1 (joZ ss za zb).2) := by
  cases hv : (valOk ss za && valOk ss zb)
  · have C1 := Lib.hid (uvalid_two As Aa Ab ns cs na ca nb cb ss za zb w hs ha hb)
    rw [hv] at C1
    have hz : joZ ss za zb = ([], 1) := by unfold joZ; rw [if_neg (by simp [hv])]
    rw [hz]
    clear hs ha hb hv hz
    go_enter Try.func49, Try.ntmps49
    go_wp2_with (go_at_call 64; refine C1.out.mono ?_; rintro e w1 ⟨rfl, hB1⟩; have HB1 := Lib.hid hB1; clear hB1)
    go_ret2
    exact ⟨none, 0, 0, rfl, IntsAt.nil _ _ 0, by omega, HB1.out⟩
  · have hz : joZ ss za zb = joinZ ss za zb := by unfold joZ; rw [if_pos hv]
    rw [hz]
    rw [Bool.and_eq_true] at hv
    exact ujoink_any As Aa Ab ns cs na ca nb cb ss za zb w hs ha hb hca hca2 hcb hcb2 hv.1 hv.2

/-- Two terms that become one, each by terms of its own. -/
theorem ins_apart {ss : Sg} {za zb c : List Int} (h1 : insB ss za c = true) (h2 : insB ss zb c = true) : ∃ σ : Int → List Int, (∀ z, z < 0 → scan ss 1 (σ z) = some []) ∧ apV (sft σ 0) za = c ∧ apV (sft σ 12) zb = c := by
  obtain ⟨va, _⟩ := ins_valid h1
  obtain ⟨vb, _⟩ := ins_valid h2
  obtain ⟨σ, s1, s2⟩ := ins_out h1
  obtain ⟨τ, t1, t2⟩ := ins_out h2
  refine ⟨fun z => if -12 ≤ z then σ (-z - 1).toNat else if -24 ≤ z then τ (-z - 13).toNat else [-1], fun z hz => ?_, ?_, ?_⟩
  · simp only
    split
    · exact (valOk_term (s1 _ (by omega))).2.2.2
    · split
      · exact (valOk_term (t1 _ (by omega))).2.2.2
      · exact scan_neg (by omega)
  · rw [← s2]
    unfold apV apN
    have hz := (valOk_term va).2.2.1
    revert hz
    generalize za = l
    intro hz
    induction l with
    | nil => rfl
    | cons z l ih =>
      rw [List.flatMap_cons, List.flatMap_cons, ih fun x hx => hz x (List.mem_cons_of_mem _ hx)]
      congr 1
      have := hz z (List.mem_cons_self ..)
      unfold sft
      simp only [Int.sub_zero]
      rw [if_pos (by omega : (-12 : Int) ≤ z)]
  · rw [← t2]
    unfold apV apN
    have hz := (valOk_term vb).2.2.1
    revert hz
    generalize zb = l
    intro hz
    induction l with
    | nil => rfl
    | cons z l ih =>
      rw [List.flatMap_cons, List.flatMap_cons, ih fun x hx => hz x (List.mem_cons_of_mem _ hx)]
      congr 1
      have := hz z (List.mem_cons_self ..)
      unfold sft
      simp only
      by_cases hn : z < 0
      · rw [if_pos hn, if_pos hn, if_neg (by omega), if_pos (by omega), show -(z - 12) - 13 = -z - 1 by omega]
      · rw [if_neg hn, if_neg hn]
/-- A common instance is one of the meet. -/
theorem meet_bound {ss : Sg} {za zb c : List Int} (h1 : insB ss za c = true) (h2 : insB ss zb c = true) : hasZ ss 12 za zb = true ∧ (comZ ss 12 za zb = ([], 4) ∨ (comZ ss 12 za zb).2 = 0 ∧ insB ss (comZ ss 12 za zb).1 c = true) := by
  obtain ⟨va, vc⟩ := ins_valid h1
  obtain ⟨vb, _⟩ := ins_valid h2
  obtain ⟨σ, s1, s2, s3⟩ := ins_apart h1 h2
  obtain ⟨⟨k, b, G, hu, _⟩, _, _⟩ := common_some (sh := 12) (by omega) va vb
  obtain ⟨e, _⟩ := unite_val (by omega) va vb s1 (s2.trans s3.symm) hu
  refine ⟨by rw [hasZ_good va vb hu]; exact e, ?_⟩
  exact (common_val (by omega) va vb s1 s2 s3 vc (comZ_good (by omega) va vb)).1
end Go.Proofs.Ytlciaecclcckbaa

/- lemmarytop.awake5. -/
namespace Go.Proofs.Ytlciaecclcckbaa
open Go.RowKit

theorem awake5_meets {W : World} {b b2 b3 : Nat} (h : Blk W b 64 cellsCN) (h2 : Blk W b2 3 #[.int .i64 (-1)]) (h3 : Blk W b3 3 #[.int .i64 1, .int .i64 (-1)]) :
    Calls Try.prog 46 #[.slice (some ⟨b, 0, none⟩) 2 2, .slice (some ⟨b2, 0, none⟩) 1 1, .slice (some ⟨b3, 0, none⟩) 2 2] W fun e w' => e = .returned (.bool true) ∧ Below W.heap.size W w' := by
  have hd : hasZ sgCN 12 [-1] [1, -1] = true := by decide +kernel
  have := meets_all _ _ _ 2 2 1 1 2 2 sgCN [-1] [1, -1] W (sig_of_blk h) (ints_of_blk _ _ _ rfl h2 rfl (by decide)) (ints_of_blk _ _ _ rfl h3 rfl (by decide))
  rw [hd] at this
  exact this
theorem awake5_not {W : World} {b b2 b3 : Nat} (h : Blk W b 64 cellsCN) (h2 : Blk W b2 3 #[.int .i64 (-1)]) (h3 : Blk W b3 3 #[.int .i64 1, .int .i64 (-1)]) :
    Calls Try.prog 42 #[.slice (some ⟨b, 0, none⟩) 2 2, .slice (some ⟨b2, 0, none⟩) 1 1, .slice (some ⟨b3, 0, none⟩) 2 2] W fun e w' => e = .returned (.bool false) ∧ Below W.heap.size W w' := by
  have hd : hasZ sgCN 0 [-1] [1, -1] = false := by decide +kernel
  have := unifiable_all _ _ _ 2 2 1 1 2 2 sgCN [-1] [1, -1] W (sig_of_blk h) (ints_of_blk _ _ _ rfl h2 rfl (by decide)) (ints_of_blk _ _ _ rfl h3 rfl (by decide))
  rw [hd] at this
  exact this

set_option maxRecDepth 100000 in
set_option maxHeartbeats 1000000 in
theorem awake5_any (w : World) : Calls Try.prog 51 #[] w fun e w' => e = .returned (.bool true) ∧ Below w.heap.size w w' := by
  have HM : Hid (Calls Try.prog 46 #[.slice (some ⟨w.heap.size, 0, none⟩) 2 2, .slice (some ⟨w.heap.size + 1, 0, none⟩) 1 1, .slice (some ⟨w.heap.size + 1 + 1, 0, none⟩) 2 2] (((w.alloc (.cells cellsCN 64)).alloc (.cells #[.int .i64 (-1)] 3)).alloc (.cells #[.int .i64 1, .int .i64 (-1)] 3)) fun e w' =>
      e = .returned (.bool true) ∧ Below w.heap.size w w' ∧ Blk w' w.heap.size 64 cellsCN) := by
    have k1 : Blk (((w.alloc (.cells cellsCN 64)).alloc (.cells #[.int .i64 (-1)] 3)).alloc (.cells #[.int .i64 1, .int .i64 (-1)] 3)) w.heap.size 64 cellsCN := ((Blk.new w _ _).alloc _).alloc _
    have k2 : Blk (((w.alloc (.cells cellsCN 64)).alloc (.cells #[.int .i64 (-1)] 3)).alloc (.cells #[.int .i64 1, .int .i64 (-1)] 3)) (w.heap.size + 1) 3 #[.int .i64 (-1)] := by
      have := (Blk.new (w.alloc (.cells cellsCN 64)) 3 #[.int .i64 (-1)]).alloc (.cells #[.int .i64 1, .int .i64 (-1)] 3)
      rw [World.size_alloc] at this
      exact this
    have k3 : Blk (((w.alloc (.cells cellsCN 64)).alloc (.cells #[.int .i64 (-1)] 3)).alloc (.cells #[.int .i64 1, .int .i64 (-1)] 3)) (w.heap.size + 1 + 1) 3 #[.int .i64 1, .int .i64 (-1)] := by
      have := Blk.new ((w.alloc (.cells cellsCN 64)).alloc (.cells #[.int .i64 (-1)] 3)) 3 #[.int .i64 1, .int .i64 (-1)]
      rw [World.size_alloc, World.size_alloc] at this
      exact this
    refine (awake5_meets k1 k2 k3).mono ?_
    rintro e w' ⟨rfl, hB⟩
    exact ⟨rfl, below_then (below_al (below_al (below_al (Below.refl _ w) _) _) _) hB, k1.below hB k1.lt⟩
  have HU : Hid (∀ V : World, Blk V w.heap.size 64 cellsCN → Calls Try.prog 42 #[.slice (some ⟨w.heap.size, 0, none⟩) 2 2, .slice (some ⟨V.heap.size, 0, none⟩) 1 1, .slice (some ⟨V.heap.size + 1, 0, none⟩) 2 2] ((V.alloc (.cells #[.int .i64 (-1)] 3)).alloc (.cells #[.int .i64 1, .int .i64 (-1)] 3)) fun e w' =>
      e = .returned (.bool false) ∧ Below V.heap.size V w') := by
    refine Lib.hid fun V kS => ?_
    have k2 : Blk ((V.alloc (.cells #[.int .i64 (-1)] 3)).alloc (.cells #[.int .i64 1, .int .i64 (-1)] 3)) (V.heap.size + 1) 3 #[.int .i64 1, .int .i64 (-1)] := by
      have := Blk.new (V.alloc (.cells #[.int .i64 (-1)] 3)) 3 #[.int .i64 1, .int .i64 (-1)]
      rw [World.size_alloc] at this
      exact this
    refine (awake5_not ((kS.alloc _).alloc _) ((Blk.new V _ _).alloc _) k2).mono ?_
    rintro e w' ⟨rfl, hB⟩
    exact ⟨rfl, below_then (below_al (below_al (Below.refl _ V) _) _) hB⟩
  go_enter Try.func51, Try.ntmps51
  go_wp2_with (first
    | (go_at_call 46; refine HM.out.mono ?_; rintro e w3 ⟨rfl, hB3, kS⟩; have HB3 := Lib.hid hB3; have HU' := Lib.hid (HU.out w3 kS); clear hB3 kS)
    | (go_at_call 42; refine HU'.out.mono ?_; rintro e w4 ⟨rfl, hB4⟩; have HB4 := Lib.hid (below_then HB3.out hB4); clear hB4))
  go_ret
  exact ⟨rfl, HB4.out⟩

end Go.Proofs.Ytlciaecclcckbaa

/- The walk of TopPutInstance. -/
namespace Go.Proofs.Ytlciaecclcckbaa
open Go.RowKit

theorem nodup_leI : ∀ (l m : List Int), l.Nodup → (∀ x ∈ l, x ∈ m) → l.length ≤ m.length
  | [], m, _, _ => Nat.zero_le _
  | x :: l, m, hn, h => by
    rw [List.nodup_cons] at hn
    have hx := h x (List.mem_cons_self ..)
    have := nodup_leI l (m.erase x) hn.2 fun y hy => (List.mem_erase_of_ne (fun e : y = x => hn.1 (by rw [← e]; exact hy))).2 (h y (List.mem_cons_of_mem _ hy))
    rw [List.length_erase_of_mem hx] at this
    have := List.length_pos_of_mem hx
    simp only [List.length_cons]
    omega
/-- The numbers of a list's first variables stand apart. -/
def negs (v : Nat) : List Int := (List.range v).map fun u : Nat => -(u : Int) - 1
theorem negs_le {zs : List Int} {v : Nat} (h : ∀ u, u < v → (-(u : Int) - 1) ∈ zs) : v ≤ zs.length := by
  have h1 : (negs v).length = v := by simp [negs]
  rw [← h1]
  refine nodup_leI _ _ ?_ fun x hx => ?_
  · unfold negs
    rw [List.nodup_iff_pairwise_ne, List.pairwise_map]
    refine List.Pairwise.imp ?_ List.nodup_range
    intro a b hab e
    omega
  · obtain ⟨u, hu, rfl⟩ := List.mem_map.1 hx
    exact h u (List.mem_range.1 hu)
theorem fst_from (zs : List Int) : ∀ (d k : Nat), zs.length < k + d → (∀ u, u < k → (-(u : Int) - 1) ∈ zs) → ∃ v : Nat, (∀ u, u < v → (-(u : Int) - 1) ∈ zs) ∧ (-(v : Int) - 1) ∉ zs
  | 0, k, hd, h => absurd (negs_le h) (by omega)
  | d + 1, k, hd, h => by
    by_cases hk : (-(k : Int) - 1) ∈ zs
    · exact fst_from zs d (k + 1) (by omega) fun u hu => by
        by_cases e : u = k
        · rw [e]; exact hk
        · exact h u (by omega)
    · exact ⟨k, h, hk⟩
/-- The first variable that a list has not. -/
theorem fst_var (zs : List Int) : ∃ v : Nat, (∀ u, u < v → (-(u : Int) - 1) ∈ zs) ∧ (-(v : Int) - 1) ∉ zs ∧ v ≤ zs.length := by
  obtain ⟨v, h1, h2⟩ := fst_from zs (zs.length + 1) 0 (by omega) fun u hu => absurd hu (by omega)
  exact ⟨v, h1, h2, negs_le h1⟩

set_option maxRecDepth 100000 in
set_option maxHeartbeats 4000000 in
theorem tpi_small (As At Ap Au : Option Addr) (ns cs nt ct np cp nu cu : Nat) (ss : Sg) (zs path us : List Int) (w : World) (hs : SigAt w w.heap.size As ns ss) (ht : IntsAt w w.heap.size At nt zs) (hp : IntsAt w w.heap.size Ap np path) (hu : IntsAt w w.heap.size Au nu us) (hc1 : nt ≤ ct) (hc2 : ct ≤ 9223372036854775807) (hc3 : nu ≤ cu) (hc4 : cu ≤ 9223372036854775807) (hsm : smallOk ns [(At, nt, ct), (Au, nu, cu)] = false) :
    Calls Try.prog 13 #[.slice As ns cs, .agg #[.slice At nt ct, .slice Ap np cp, .slice Au nu cu]] w fun e w' => e = .returned (.bool true) ∧ Below w.heap.size w w' := by
  obtain ⟨N, hN⟩ : ∃ N, w.heap.size = N := ⟨_, rfl⟩
  obtain ⟨W2, hW2⟩ : ∃ W2, (w.alloc (.cells #[.slice At nt ct, .slice Ap np cp, .slice Au nu cu] 59)).alloc (.cells #[.slice At nt ct, .slice Au nu cu] 25) = W2 := ⟨_, rfl⟩
  have hB : Below w.heap.size w W2 := by rw [← hW2]; exact ((Below.refl _ w).alloc (Nat.le_refl _) _).alloc (by simp) _
  have hz : W2.heap.size = N + 2 := by rw [← hW2]; simp [hN]
  have hsm0 : HdsAt W2 W2.heap.size (some ⟨w.heap.size + 1, 0, none⟩) 2 [(At, nt, ct), (Au, nu, cu)] := by
    have := Blk.new (w.alloc (.cells #[.slice At nt ct, .slice Ap np cp, .slice Au nu cu] 59)) 25 #[.slice At nt ct, .slice Au nu cu]
    rw [World.size_alloc, hW2] at this
    exact HdsAt.of_blk _ this rfl rfl (by simp)
  have HS := Lib.hid (small_any As _ ns cs 2 2 _ W2 _ hsm0)
  have bx : Blk W2 w.heap.size 59 #[.slice At nt ct, .slice Ap np cp, .slice Au nu cu] := by
    rw [← hW2]; exact (Blk.new w _ _).alloc _
  rw [hN] at bx HS
  have b0 : W2.cell? ⟨N, 0, none⟩ = some (.slice At nt ct) := bx.cell 0
  have b1 : W2.cell? ⟨N, 1, none⟩ = some (.slice Ap np cp) := bx.cell 1
  have b2 : W2.cell? ⟨N, 2, none⟩ = some (.slice Au nu cu) := bx.cell 2
  have hNlt : N < W2.heap.size := by omega
  have up : ∀ V, Below W2.heap.size W2 V → Below w.heap.size w V := fun V hb => hB.trans (hb.mono hB.size)
  have HCE := Lib.hid (fun V' (hb : Below W2.heap.size W2 V') => show V'.cell? ⟨N, 0, none⟩ = some (.slice At nt ct) ∧ V'.cell? ⟨N, 1, none⟩ = some (.slice Ap np cp) ∧ V'.cell? ⟨N, 2, none⟩ = some (.slice Au nu cu) from
    ⟨(hb.cell (p := ⟨N, 0, none⟩) hNlt).trans b0, (hb.cell (p := ⟨N, 1, none⟩) hNlt).trans b1, (hb.cell (p := ⟨N, 2, none⟩) hNlt).trans b2⟩)
  have HUP := Lib.hid up
  have HW2 := Lib.hid hW2
  have HN := Lib.hid hN
  have HB0 := Lib.hid (Below.refl W2.heap.size W2)
  have HSM := Lib.hid hsm
  clear bx hsm0 hs ht hu hp hsm hB up hz hW2
  rw [hN]
  clear hN
  go_enter Try.func13, Try.ntmps13
  go_wp2_with fail
  rw [HW2.out, HN.out]
  go_wp2_with (first
    | (go_at_call 14; refine HS.out.mono ?_; rintro e w' ⟨rfl, rfl⟩; rw [HSM.out])
    | (go_at_call 51; refine (awake5_any _).mono ?_; rintro e Vz ⟨rfl, hBz⟩; have HBz := Lib.hid (below_then HB0.out hBz); clear hBz))
  go_ret
  exact ⟨rfl, by rw [← HN.out]; exact HUP.out _ HBz.out⟩

set_option maxRecDepth 100000 in
set_option maxHeartbeats 4000000 in
theorem tpi_long (As At Ap Au : Option Addr) (ns cs nt ct np cp nu cu : Nat) (ss : Sg) (zs path us : List Int) (w : World) (hs : SigAt w w.heap.size As ns ss) (ht : IntsAt w w.heap.size At nt zs) (hp : IntsAt w w.heap.size Ap np path) (hu : IntsAt w w.heap.size Au nu us) (hc1 : nt ≤ ct) (hc2 : ct ≤ 9223372036854775807) (hc3 : nu ≤ cu) (hc4 : cu ≤ 9223372036854775807) (hsm : smallOk ns [(At, nt, ct), (Au, nu, cu)] = true) (hnp : 100 < np) :
    Calls Try.prog 13 #[.slice As ns cs, .agg #[.slice At nt ct, .slice Ap np cp, .slice Au nu cu]] w fun e w' => e = .returned (.bool true) ∧ Below w.heap.size w w' := by
  obtain ⟨N, hN⟩ : ∃ N, w.heap.size = N := ⟨_, rfl⟩
  obtain ⟨W2, hW2⟩ : ∃ W2, (w.alloc (.cells #[.slice At nt ct, .slice Ap np cp, .slice Au nu cu] 59)).alloc (.cells #[.slice At nt ct, .slice Au nu cu] 25) = W2 := ⟨_, rfl⟩
  have hB : Below w.heap.size w W2 := by rw [← hW2]; exact ((Below.refl _ w).alloc (Nat.le_refl _) _).alloc (by simp) _
  have hz : W2.heap.size = N + 2 := by rw [← hW2]; simp [hN]
  have hsm0 : HdsAt W2 W2.heap.size (some ⟨w.heap.size + 1, 0, none⟩) 2 [(At, nt, ct), (Au, nu, cu)] := by
    have := Blk.new (w.alloc (.cells #[.slice At nt ct, .slice Ap np cp, .slice Au nu cu] 59)) 25 #[.slice At nt ct, .slice Au nu cu]
    rw [World.size_alloc, hW2] at this
    exact HdsAt.of_blk _ this rfl rfl (by simp)
  have HS := Lib.hid (small_any As _ ns cs 2 2 _ W2 _ hsm0)
  have bx : Blk W2 w.heap.size 59 #[.slice At nt ct, .slice Ap np cp, .slice Au nu cu] := by
    rw [← hW2]; exact (Blk.new w _ _).alloc _
  rw [hN] at bx HS
  have b0 : W2.cell? ⟨N, 0, none⟩ = some (.slice At nt ct) := bx.cell 0
  have b1 : W2.cell? ⟨N, 1, none⟩ = some (.slice Ap np cp) := bx.cell 1
  have b2 : W2.cell? ⟨N, 2, none⟩ = some (.slice Au nu cu) := bx.cell 2
  have hNlt : N < W2.heap.size := by omega
  have up : ∀ V, Below W2.heap.size W2 V → Below w.heap.size w V := fun V hb => hB.trans (hb.mono hB.size)
  have HCE := Lib.hid (fun V' (hb : Below W2.heap.size W2 V') => show V'.cell? ⟨N, 0, none⟩ = some (.slice At nt ct) ∧ V'.cell? ⟨N, 1, none⟩ = some (.slice Ap np cp) ∧ V'.cell? ⟨N, 2, none⟩ = some (.slice Au nu cu) from
    ⟨(hb.cell (p := ⟨N, 0, none⟩) hNlt).trans b0, (hb.cell (p := ⟨N, 1, none⟩) hNlt).trans b1, (hb.cell (p := ⟨N, 2, none⟩) hNlt).trans b2⟩)
  have HUP := Lib.hid up
  have HW2 := Lib.hid hW2
  have HN := Lib.hid hN
  have HB0 := Lib.hid (Below.refl W2.heap.size W2)
  have HSM := Lib.hid hsm
  have hnp' : (100 : Int) < (np : Int) := by omega
  clear bx hsm0 hs ht hu hp hsm hB up hz hW2
  rw [hN]
  clear hN
  go_enter Try.func13, Try.ntmps13
  go_wp2_with fail
  rw [HW2.out, HN.out]
  go_wp2_with (first
    | (go_at_call 14; refine HS.out.mono ?_; rintro e w' ⟨rfl, rfl⟩; rw [HSM.out])
    | (go_at_call 51; refine (awake5_any _).mono ?_; rintro e Vz ⟨rfl, hBz⟩; have HBz := Lib.hid (below_then HB0.out hBz); clear hBz))
  go_ret
  exact ⟨rfl, by rw [← HN.out]; exact HUP.out _ HBz.out⟩

set_option maxRecDepth 100000 in
set_option maxHeartbeats 4000000 in
theorem tpi_main (As At Ap Au : Option Addr) (ns cs nt ct np cp nu cu : Nat) (ss : Sg) (zs path us : List Int) (w : World) (hs : SigAt w w.heap.size As ns ss) (ht : IntsAt w w.heap.size At nt zs) (hp : IntsAt w w.heap.size Ap np path) (hu : IntsAt w w.heap.size Au nu us) (hc1 : nt ≤ ct) (hc2 : ct ≤ 9223372036854775807) (hc3 : nu ≤ cu) (hc4 : cu ≤ 9223372036854775807) (hsm : smallOk ns [(At, nt, ct), (Au, nu, cu)] = true) (hnp : np ≤ 100) :
    Calls Try.prog 13 #[.slice As ns cs, .agg #[.slice At nt ct, .slice Ap np cp, .slice Au nu cu]] w fun e w' => e = .returned (.bool true) ∧ Below w.heap.size w w' := by
  obtain ⟨N, hN⟩ : ∃ N, w.heap.size = N := ⟨_, rfl⟩
  obtain ⟨W2, hW2⟩ : ∃ W2, (w.alloc (.cells #[.slice At nt ct, .slice Ap np cp, .slice Au nu cu] 59)).alloc (.cells #[.slice At nt ct, .slice Au nu cu] 25) = W2 := ⟨_, rfl⟩
  have hB : Below w.heap.size w W2 := by rw [← hW2]; exact ((Below.refl _ w).alloc (Nat.le_refl _) _).alloc (by simp) _
  have hz : W2.heap.size = N + 2 := by rw [← hW2]; simp [hN]
  have hsm0 : HdsAt W2 W2.heap.size (some ⟨w.heap.size + 1, 0, none⟩) 2 [(At, nt, ct), (Au, nu, cu)] := by
    have := Blk.new (w.alloc (.cells #[.slice At nt ct, .slice Ap np cp, .slice Au nu cu] 59)) 25 #[.slice At nt ct, .slice Au nu cu]
    rw [World.size_alloc, hW2] at this
    exact HdsAt.of_blk _ this rfl rfl (by simp)
  have HS := Lib.hid (small_any As _ ns cs 2 2 _ W2 _ hsm0)
  have bx : Blk W2 w.heap.size 59 #[.slice At nt ct, .slice Ap np cp, .slice Au nu cu] := by
    rw [← hW2]; exact (Blk.new w _ _).alloc _
  rw [hN] at bx HS
  have b0 : W2.cell? ⟨N, 0, none⟩ = some (.slice At nt ct) := bx.cell 0
  have b1 : W2.cell? ⟨N, 1, none⟩ = some (.slice Ap np cp) := bx.cell 1
  have b2 : W2.cell? ⟨N, 2, none⟩ = some (.slice Au nu cu) := bx.cell 2
  have hNlt : N < W2.heap.size := by omega
  have up : ∀ V, Below W2.heap.size W2 V → Below w.heap.size w V := fun V hb => hB.trans (hb.mono hB.size)
  have HCE := Lib.hid (fun V' (hb : Below W2.heap.size W2 V') => show V'.cell? ⟨N, 0, none⟩ = some (.slice At nt ct) ∧ V'.cell? ⟨N, 1, none⟩ = some (.slice Ap np cp) ∧ V'.cell? ⟨N, 2, none⟩ = some (.slice Au nu cu) from
    ⟨(hb.cell (p := ⟨N, 0, none⟩) hNlt).trans b0, (hb.cell (p := ⟨N, 1, none⟩) hNlt).trans b1, (hb.cell (p := ⟨N, 2, none⟩) hNlt).trans b2⟩)
  have HUP := Lib.hid up
  have HW2 := Lib.hid hW2
  have HN := Lib.hid hN
  have HB0 := Lib.hid (Below.refl W2.heap.size W2)
  have HSM := Lib.hid hsm
  have hnp' : ¬ (100 : Int) < (np : Int) := by omega
  obtain ⟨v, hv1, hv2, hv3⟩ := fst_var zs
  have hntl := ht.len
  have hnt : nt ≤ 200 := by
    unfold smallOk at hsm
    simp at hsm
    omega
  have hv200 : v ≤ 200 := by omega
  have HHAS := Lib.hid (fun k : Nat => has_any At nt ct zs (-(k : Int) - 1) W2 W2.heap.size (ht.up hB))
  have HYES := Lib.hid (fun (k : Nat) (hk : k < v) => show zs.contains (-(k : Int) - 1) = true from List.contains_iff_mem.2 (hv1 k hk))
  have HNO := Lib.hid (show zs.contains (-(v : Int) - 1) = false from by
    cases h : zs.contains (-(v : Int) - 1)
    · rfl
    · exact absurd (List.contains_iff_mem.1 h) hv2)
  by_cases hmv : 12 ≤ v
  · clear bx hsm0 hs ht hu hp hsm hB up hz hW2 hv1 hv2 hntl
    rw [hN]
    clear hN
    go_enter Try.func13, Try.ntmps13
    go_wp2_with fail
    rw [HW2.out, HN.out]
    go_wp2_with (go_at_call 14; refine HS.out.mono ?_; rintro e w' ⟨rfl, rfl⟩; rw [HSM.out])
    go_loopw [5] (fun i wr => ∃ k : Nat, k ≤ v ∧ i = .int .i64 k ∧ wr = W2) (fun i _ => v - (intOf i).toNat)
    case atStart => exact ⟨0, Nat.zero_le _, rfl, rfl⟩
    case round =>
      obtain ⟨k, hk, rfl, rfl⟩ := hrel
      by_cases hlt : k < v
      · have HH := Lib.hid (HHAS.out k)
        rw [(HYES.out k hlt)] at HH
        go_wp2_with (go_at_call 52; ((with_reducible refine HH.out.mono ?_); rintro e w4 ⟨rfl, rfl⟩))
        go_roundw
        case rel => exact ⟨k + 1, by omega, by go_num, trivial⟩
        case measure => simp [intOf]; omega
      · obtain rfl : k = v := by omega
        have HH := Lib.hid (HHAS.out k)
        rw [HNO.out] at HH
        clear HHAS HYES HNO
        go_wp2_with (first
          | (go_at_call 52; ((with_reducible refine HH.out.mono ?_); rintro e w4 ⟨rfl, rfl⟩; clear HH))
          | (go_at_call 51; refine (awake5_any _).mono ?_; rintro e Vz ⟨rfl, hBz⟩; have HBz := Lib.hid (below_then HB0.out hBz); clear hBz))
        all_goals
          go_ret
          exact ⟨rfl, by rw [← HN.out]; exact HUP.out _ HBz.out⟩
  · have C1 := Lib.hid (fun V (hb : Below W2.heap.size W2 V) => put_any As At Ap (some ⟨V.heap.size, 0, none⟩) ns cs nt ct np cp 1 1 ss zs path [-(v : Int) - 1] (V.alloc (.cells #[.int .i64 (-(v : Int) - 1)] 3)) ((hs.up (up V hb)).alloc _) ((ht.up (up V hb)).alloc _) ((hp.up (up V hb)).alloc _) (ints_of_blk [-(v : Int) - 1] 1 _ rfl (Blk.new V _ _) rfl (by simp)) hc1 hc2 (by omega))
    have C2 := Lib.hid (fun V (hb : Below W2.heap.size W2 V) => put_any As At Ap Au ns cs nt ct np cp nu cu ss zs path us V (hs.up (up V hb)) (ht.up (up V hb)) (hp.up (up V hb)) (hu.up (up V hb)) hc1 hc2 (by omega))
    have CI0 := Lib.hid (fun xs ys V (hb : Below W2.heap.size W2 V) A1 A2 n1 n2 k1 k2 (h1 : IntsAt V V.heap.size A1 n1 xs) (h2 : IntsAt V V.heap.size A2 n2 ys) (hk : n2 ≤ k2 ∧ k2 ≤ 9223372036854775807) => instance_any As A1 A2 ns cs n1 k1 n2 k2 ss xs ys V (hs.up (up V hb)) h1 h2 hk.1 hk.2)
    have HTT := Lib.hid (fun V (hb : Below W2.heap.size W2 V) => ht.up (up V hb))
    have HCT := Lib.hid (show nt ≤ ct ∧ ct ≤ 9223372036854775807 from ⟨hc1, hc2⟩)
    obtain ⟨P1, hP1⟩ : ∃ P1, putR ss zs path [-(v : Int) - 1] = P1 := ⟨_, rfl⟩
    obtain ⟨P2, hP2⟩ : ∃ P2, putR ss zs path us = P2 := ⟨_, rfl⟩
    simp only [hP1] at C1
    simp only [hP2] at C2
    obtain ⟨x1, e1⟩ := P1
    obtain ⟨x2, e2⟩ := P2
    simp only at C1 C2
    have HIN := Lib.hid (fun (h1 : e1 = 0) (h2 : e2 = 0) => put_inst hv2 (h1 ▸ hP1) (h2 ▸ hP2))
    have hmv' : ¬ (12 : Int) ≤ (v : Int) := by omega
    clear bx hsm0 hs ht hu hp hsm hB up hz hW2 hv1 hv2 hntl hP1 hP2
    rw [hN]
    clear hN
    by_cases h1 : e1 = 0
    · subst h1
      by_cases h2 : e2 = 0
      · subst h2
        obtain ⟨i1, i2⟩ := HIN.out rfl rfl
        have CI := Lib.hid (CI0.out x1 x2)
        simp only [i1] at CI
        have CJ := Lib.hid (CI0.out x1 zs)
        simp only [i2] at CJ
        clear HIN CI0 i1 i2
        go_enter Try.func13, Try.ntmps13
        go_wp2_with fail
        rw [HW2.out, HN.out]
        go_wp2_with (go_at_call 14; refine HS.out.mono ?_; rintro e w' ⟨rfl, rfl⟩; rw [HSM.out])
        go_loopw [5] (fun i wr => ∃ k : Nat, k ≤ v ∧ i = .int .i64 k ∧ wr = W2) (fun i _ => v - (intOf i).toNat)
        case atStart => exact ⟨0, Nat.zero_le _, rfl, rfl⟩
        case round =>
          obtain ⟨k, hk, rfl, rfl⟩ := hrel
          by_cases hlt : k < v
          · have HH := Lib.hid (HHAS.out k)
            rw [(HYES.out k hlt)] at HH
            go_wp2_with (go_at_call 52; ((with_reducible refine HH.out.mono ?_); rintro e w4 ⟨rfl, rfl⟩))
            go_roundw
            case rel => exact ⟨k + 1, by omega, by go_num, trivial⟩
            case measure => simp [intOf]; omega
          · obtain rfl : k = v := by omega
            have HH := Lib.hid (HHAS.out k)
            rw [HNO.out] at HH
            clear HHAS HYES HNO
            go_wp2_with (first
              | (go_at_call 52; ((with_reducible refine HH.out.mono ?_); rintro e w4 ⟨rfl, rfl⟩; clear HH))
              | (go_at_call 19; ((with_reducible refine (C1.out _ HB0.out).mono ?_); clear C1; rintro e V1 ⟨A1, n1, d1, rfl, hI1, hB1, hk1⟩; have HI1 := Lib.hid hI1; have HB1 := Lib.hid (below_then (bel_al HB0.out _) hB1); obtain ⟨u10, u11, u12⟩ := HCE.out _ HB1.out; clear hI1 hB1 hk1))
              | (go_at_call 19; ((with_reducible refine (C2.out _ HB1.out).mono ?_); clear C2; rintro e V2 ⟨A2, n2, d2, rfl, hI2, hB2, hk2⟩; have HK2 := Lib.hid hk2; have HI2 := Lib.hid hI2; have HI12 := Lib.hid (HI1.out.up hB2); have HB2 := Lib.hid (below_then HB1.out hB2); obtain ⟨u20, u21, u22⟩ := HCE.out _ HB2.out; clear hI2 hB2 hk2))
              | (go_at_call 38; ((with_reducible refine (CI.out _ HB2.out _ _ _ _ _ _ HI12.out HI2.out HK2.out).mono ?_); clear CI; rintro e V3 ⟨rfl, hB3⟩; have HI13 := Lib.hid (HI12.out.up hB3); have HB3 := Lib.hid (below_then HB2.out hB3); obtain ⟨u30, u31, u32⟩ := HCE.out _ HB3.out; clear hB3))
              | (go_at_call 38; ((with_reducible refine (CJ.out _ HB3.out _ _ _ _ _ _ HI13.out (HTT.out _ HB3.out) HCT.out).mono ?_); clear CJ; rintro e V4 ⟨rfl, hB4⟩; have HB4 := Lib.hid (below_then HB3.out hB4); clear hB4))
              | (go_at_call 51; refine (awake5_any _).mono ?_; rintro e Vz ⟨rfl, hBz⟩; have HBz := Lib.hid (below_then HB4.out hBz); clear hBz))
            all_goals
              go_ret
              exact ⟨rfl, by rw [← HN.out]; exact HUP.out _ HBz.out⟩
      · have hne2 : (e2 != 0) = true := by simpa using h2
        clear HIN CI0
        go_enter Try.func13, Try.ntmps13
        go_wp2_with fail
        rw [HW2.out, HN.out]
        go_wp2_with (go_at_call 14; refine HS.out.mono ?_; rintro e w' ⟨rfl, rfl⟩; rw [HSM.out])
        go_loopw [5] (fun i wr => ∃ k : Nat, k ≤ v ∧ i = .int .i64 k ∧ wr = W2) (fun i _ => v - (intOf i).toNat)
        case atStart => exact ⟨0, Nat.zero_le _, rfl, rfl⟩
        case round =>
          obtain ⟨k, hk, rfl, rfl⟩ := hrel
          by_cases hlt : k < v
          · have HH := Lib.hid (HHAS.out k)
            rw [(HYES.out k hlt)] at HH
            go_wp2_with (go_at_call 52; ((with_reducible refine HH.out.mono ?_); rintro e w4 ⟨rfl, rfl⟩))
            go_roundw
            case rel => exact ⟨k + 1, by omega, by go_num, trivial⟩
            case measure => simp [intOf]; omega
          · obtain rfl : k = v := by omega
            have HH := Lib.hid (HHAS.out k)
            rw [HNO.out] at HH
            clear HHAS HYES HNO
            go_wp2_with (first
              | (go_at_call 52; ((with_reducible refine HH.out.mono ?_); rintro e w4 ⟨rfl, rfl⟩; clear HH))
              | (go_at_call 19; ((with_reducible refine (C1.out _ HB0.out).mono ?_); clear C1; rintro e V1 ⟨A1, n1, d1, rfl, hI1, hB1, hk1⟩; have HI1 := Lib.hid hI1; have HB1 := Lib.hid (below_then (bel_al HB0.out _) hB1); obtain ⟨u10, u11, u12⟩ := HCE.out _ HB1.out; clear hI1 hB1 hk1))
              | (go_at_call 19; ((with_reducible refine (C2.out _ HB1.out).mono ?_); clear C2; rintro e V2 ⟨A2, n2, d2, rfl, hI2, hB2, hk2⟩; have HK2 := Lib.hid hk2; have HI2 := Lib.hid hI2; have HI12 := Lib.hid (HI1.out.up hB2); have HB2 := Lib.hid (below_then HB1.out hB2); obtain ⟨u20, u21, u22⟩ := HCE.out _ HB2.out; clear hI2 hB2 hk2))
              | (go_at_call 51; refine (awake5_any _).mono ?_; rintro e Vz ⟨rfl, hBz⟩; have HBz := Lib.hid (below_then HB2.out hBz); clear hBz))
            all_goals
              go_ret
              exact ⟨rfl, by rw [← HN.out]; exact HUP.out _ HBz.out⟩
    · have hne1 : (e1 != 0) = true := by simpa using h1
      clear HIN CI0
      go_enter Try.func13, Try.ntmps13
      go_wp2_with fail
      rw [HW2.out, HN.out]
      go_wp2_with (go_at_call 14; refine HS.out.mono ?_; rintro e w' ⟨rfl, rfl⟩; rw [HSM.out])
      go_loopw [5] (fun i wr => ∃ k : Nat, k ≤ v ∧ i = .int .i64 k ∧ wr = W2) (fun i _ => v - (intOf i).toNat)
      case atStart => exact ⟨0, Nat.zero_le _, rfl, rfl⟩
      case round =>
        obtain ⟨k, hk, rfl, rfl⟩ := hrel
        by_cases hlt : k < v
        · have HH := Lib.hid (HHAS.out k)
          rw [(HYES.out k hlt)] at HH
          go_wp2_with (go_at_call 52; ((with_reducible refine HH.out.mono ?_); rintro e w4 ⟨rfl, rfl⟩))
          go_roundw
          case rel => exact ⟨k + 1, by omega, by go_num, trivial⟩
          case measure => simp [intOf]; omega
        · obtain rfl : k = v := by omega
          have HH := Lib.hid (HHAS.out k)
          rw [HNO.out] at HH
          clear HHAS HYES HNO
          go_wp2_with (first
            | (go_at_call 52; ((with_reducible refine HH.out.mono ?_); rintro e w4 ⟨rfl, rfl⟩; clear HH))
            | (go_at_call 19; ((with_reducible refine (C1.out _ HB0.out).mono ?_); clear C1; rintro e V1 ⟨A1, n1, d1, rfl, hI1, hB1, hk1⟩; have HI1 := Lib.hid hI1; have HB1 := Lib.hid (below_then (bel_al HB0.out _) hB1); obtain ⟨u10, u11, u12⟩ := HCE.out _ HB1.out; clear hI1 hB1 hk1))
            | (go_at_call 19; ((with_reducible refine (C2.out _ HB1.out).mono ?_); clear C2; rintro e V2 ⟨A2, n2, d2, rfl, hI2, hB2, hk2⟩; have HK2 := Lib.hid hk2; have HI2 := Lib.hid hI2; have HI12 := Lib.hid (HI1.out.up hB2); have HB2 := Lib.hid (below_then HB1.out hB2); obtain ⟨u20, u21, u22⟩ := HCE.out _ HB2.out; clear hI2 hB2 hk2))
            | (go_at_call 51; refine (awake5_any _).mono ?_; rintro e Vz ⟨rfl, hBz⟩; have HBz := Lib.hid (below_then HB2.out hBz); clear hBz))
          all_goals
            go_ret
            exact ⟨rfl, by rw [← HN.out]; exact HUP.out _ HBz.out⟩

theorem tpi_walk (As At Ap Au : Option Addr) (ns cs nt ct np cp nu cu : Nat) (ss : Sg) (zs path us : List Int) (w : World) (hs : SigAt w w.heap.size As ns ss) (ht : IntsAt w w.heap.size At nt zs) (hp : IntsAt w w.heap.size Ap np path) (hu : IntsAt w w.heap.size Au nu us) (hc1 : nt ≤ ct) (hc2 : ct ≤ 9223372036854775807) (hc3 : nu ≤ cu) (hc4 : cu ≤ 9223372036854775807) :
    Calls Try.prog 13 #[.slice As ns cs, .agg #[.slice At nt ct, .slice Ap np cp, .slice Au nu cu]] w fun e w' => e = .returned (.bool true) ∧ Below w.heap.size w w' := by
  cases hsm : smallOk ns [(At, nt, ct), (Au, nu, cu)]
  · exact tpi_small As At Ap Au ns cs nt ct np cp nu cu ss zs path us w hs ht hp hu hc1 hc2 hc3 hc4 hsm
  · by_cases hnp : np ≤ 100
    · exact tpi_main As At Ap Au ns cs nt ct np cp nu cu ss zs path us w hs ht hp hu hc1 hc2 hc3 hc4 hsm hnp
    · exact tpi_long As At Ap Au ns cs nt ct np cp nu cu ss zs path us w hs ht hp hu hc1 hc2 hc3 hc4 hsm (by omega)

end Go.Proofs.Ytlciaecclcckbaa

/- Arguments opened: a term with a path, and another term. -/
namespace Go.Proofs.Ytlciaecclcckbaa
open Go.ChangeShapes Go.WideShapes Go.ChangeAt Go.RowKit Go.Deep

theorem agg_of_cells4 {v : Value} (h : v.cells.size ≠ 1) : ∃ cs, v = .agg cs ∧ v.cells = cs := by
  cases v <;> first | exact ⟨_, rfl, rfl⟩ | exact absurd rfl h

theorem cells_swap : Try.prog.cellsOf 59 = 3 := by kernel_rfl
theorem cells_path : Try.prog.cellsOf 24 = 1 := by kernel_rfl

set_option maxRecDepth 100000 in
/-- What is read as a swap is a term, a path and a term. -/
theorem read_swap {H : Type} {enc : TypeId × Value → H} {w : World} {base : Nat} {spare : Nat → Bool} {held : Bool} {v : Value} {d : DataW H} {p : List MemPlace} (h : DataW.Trod enc Try.prog w base spare held 59 v d p) :
    ∃ A0 n0 c0 A1 n1 c1 A2 n2 c2 x y z, v = .agg #[.slice A0 n0 c0, .slice A1 n1 c1, .slice A2 n2 c2] ∧ IntsAt w w.heap.size A0 n0 x ∧ IntsAt w w.heap.size A1 n1 y ∧ IntsAt w w.heap.size A2 n2 z ∧ n0 ≤ c0 ∧ c0 ≤ 9223372036854775807 ∧ n2 ≤ c2 ∧ c2 ≤ 9223372036854775807 := by
  obtain ⟨fuel, hf⟩ := h
  obtain ⟨ys, m, _, _, hl, hyl, hi⟩ := DataW.trod_struct Try.underlying59 hf
  rw [cells_swap] at hl
  obtain ⟨cs, rfl, hcs⟩ := agg_of_cells4 (v := v) (by have : v.cells.size = 3 := by simpa using hl
                                                      omega)
  rw [hcs] at hl hi
  obtain ⟨l⟩ := cs
  match l, hl, ys, hyl with
  | [c0, c1, c2], _, [y0, y1, y2], _ =>
    have f0 : DataW.trod enc Try.prog w base spare held m 25 (([c0, c1, c2].drop 0).take (Try.prog.cellsOf 25)) = some y0 := hi 0 _ rfl
    have f1 : DataW.trod enc Try.prog w base spare held m 24 (([c0, c1, c2].drop 1).take (Try.prog.cellsOf 24)) = some y1 := hi 1 _ rfl
    have f2 : DataW.trod enc Try.prog w base spare held m 25 (([c0, c1, c2].drop 2).take (Try.prog.cellsOf 25)) = some y2 := hi 2 _ rfl
    rw [cells_term] at f0 f2
    rw [cells_path] at f1
    obtain ⟨A0, n0, k0, x, e0, h0, q1, q2, _⟩ := read_ints Try.underlying25 (v := c0) f0
    obtain ⟨A1, n1, k1, y, e1, h1, _⟩ := read_ints Try.underlying24 (v := c1) f1
    obtain ⟨A2, n2, k2, z, e2, h2, q3, q4, _⟩ := read_ints Try.underlying25 (v := c2) f2
    subst e0 e1 e2
    exact ⟨A0, n0, k0, A1, n1, k1, A2, n2, k2, x, y, z, rfl, h0, h1, h2, q1, q2, q3, q4⟩

end Go.Proofs.Ytlciaecclcckbaa

namespace Go.Proofs.Ytlciaecclcckbaa
open Go.ChangeShapes Go.WideShapes Go.ChangeAt Go.RowKit Go.Deep

set_option maxRecDepth 100000 in
theorem tputs_lifted (os : Os) (started : os.Started) (H : Type) (enc : TypeId × Value → H) :
    ReturnsInHanded {} Try.checked os 13 .any (Rows.topPutInstanceSpec.pre6 enc Try.prog Try.f13 Rows.topPutInstanceRow.domain false) (Rows.topPutInstanceSpec.post enc Try.prog Try.f13 false true false false) := by
  refine returnsInHanded_of_change (C := Try.checked) own started (by kernel_rfl) Try.func13
    (ChangeSpec.witness6 (enc := enc) (C := Try.checked) false ⟨#[], #[.slice none 0 0, .agg #[.slice none 0 0, .slice none 0 0, .slice none 0 0]], []⟩ 8 (by kernel_rfl) (by kernel_rfl) (by kernel_rfl) (by kernel_rfl)) ?_
  intro W base args ds gs before hval0 hW hcnd _
  have hval : ∀ (j : Nat) t v, Try.f13.params[j]? = some t → args[j]? = some v → Value.okWide Try.prog W .any base t v := hval0
  have hW' := hW
  obtain ⟨p, q, hA0, hV, rfl, hfz, hnd⟩ := hW
  have hA : DataW.TrodAll enc Try.prog W 0 (fun _ => true) true Try.f13.params.toList args.toList ds p := hA0
  rw [Try.params13] at hA hval
  obtain ⟨v0, vs0, d0, ds0, p0, q0, hargs, rfl, rfl, h0, r0⟩ := trodAll_cons hA
  obtain ⟨v1, vs1, d1, ds1, p1, q1, rfl, rfl, rfl, h1, r1⟩ := trodAll_cons r0
  obtain ⟨rfl, rfl, rfl⟩ := trodAll_nil r1
  obtain rfl : args = #[v0, v1] := by cases args; simp_all
  obtain ⟨rfl, rfl⟩ := trodVars_none hV
  obtain ⟨a0, len0, cap0, rfl⟩ := okWide_slice Try.underlying23 (hval 0 23 v0 rfl rfl)
  have k0 := h0
  have k1 := h1
  have lt0 : ∀ x ∈ p0, x.block < W.heap.size := by obtain ⟨m, hm⟩ := k0; exact DataW.trod_lt m _ _ _ hm
  have lt1 : ∀ x ∈ p1, x.block < W.heap.size := by obtain ⟨m, hm⟩ := k1; exact DataW.trod_lt m _ _ _ hm
  obtain ⟨f0, e0⟩ := h0
  obtain ⟨As, ns, cs, ss, es, hs⟩ := read_sign e0
  obtain ⟨A0, n0, c0, A1, n1, c1, A2, n2, c2, x, y, z, rfl, hx, hy, hz, g1, g2, g3, g4⟩ := read_swap h1
  cases es
  clear hA0 hval0
  refine (tpi_walk _ A0 A1 A2 _ _ n0 c0 n1 c1 n2 c2 ss x y z W hs hx hy hz g1 g2 g3 g4).mono fun e W' ⟨he, bel⟩ => ?_
  subst he
  exact ⟨_, rfl, _, _, _, [], _, [], hW', trodAll_mk1 (shut_bool Try.underlying4 _), (trodAll_cons_mk (Below.trod laidOut (by kernel_rfl) (of_decide_eq_true (by kernel_rfl)) k0 bel lt0) (trodAll_cons_mk (Below.trod laidOut (by kernel_rfl) (of_decide_eq_true (by kernel_rfl)) k1 bel lt1) trodAll_mk0)), rfl, bel.frame _, fun h => by cases h⟩

theorem tputs_holds : Rows.TopPutInstanceSaid :=
  OpenClaim.holds_of_wide 13 Try.f13 rfl rfl rfl rfl rfl rfl rfl ⟨rfl, rfl, rfl, rfl, rfl⟩ rfl rfl rfl rfl rfl (by kernel_rfl) Try.func13 (by kernel_rfl)
    (of_decide_eq_true (by kernel_rfl)) (by unfold Func.isWrapper; first | (rw [if_pos (by decide +kernel)]; kernel_rfl) | (rw [if_neg (by decide +kernel)]; exact ⟨rfl, rfl⟩))
    (fun os started H enc _ => tputs_lifted os started H enc)

end Go.Proofs.Ytlciaecclcckbaa
