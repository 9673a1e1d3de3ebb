/- The walk of ShortDrops. -/
import Derived.Test.YtojofbmpknpggaaVKg
import Derived.Test.YtojofbmpknpggaaVXg
import Derived.Test.YtojofbmpknpggaaVNg
import Derived.Test.YtojofbmpknpggaaQGg
import Derived.Test.YtojofbmpknpggaaVTg
/- Contract: the seventh statements' awake (the chapter's examples). -/
namespace Go.Proofs.Ytojofbmpknpggaa
open Go.RowKit

def pf7 : List Stp := [(1, 1, 0), (1, 0, 0), (1, 0, 0), (2, 0, 1), (2, 3, 2)]
def sayX : List Int := [0, 0, -1, -2, 0, -1, -1]
theorem say_K (L : List (List Int)) : saysZ sgC [gvK, gvS] L (1, 0, 0) = (gvK, 0) := by
  unfold saysZ
  rw [if_pos rfl]
  exact congrArg (fun x => (x, (0 : Int))) (by decide +kernel)
theorem say_7a : saysZ sgC [gvK, gvS] [gvS, gvK, gvK] (2, 0, 1) = (sayX, 0) := by
  unfold saysZ
  rw [if_neg (by decide)]
  exact det_SK
theorem say_7b : saysZ sgC [gvK, gvS] [gvS, gvK, gvK, sayX] (2, 3, 2) = ([0, -1, -1], 0) := by
  unfold saysZ
  rw [if_neg (by decide)]
  exact det_TK
theorem sayL7_1 : sayL sgC [gvK, gvS] pf7 1 = [gvS] := by
  show [] ++ [(saysZ sgC [gvK, gvS] [] (1, 1, 0)).1] = _
  rw [say_0]; rfl
theorem sayL7_2 : sayL sgC [gvK, gvS] pf7 2 = [gvS, gvK] := by
  show sayL sgC [gvK, gvS] pf7 1 ++ [(saysZ sgC [gvK, gvS] (sayL sgC [gvK, gvS] pf7 1) (1, 0, 0)).1] = _
  rw [sayL7_1, say_K]; rfl
theorem sayL7_3 : sayL sgC [gvK, gvS] pf7 3 = [gvS, gvK, gvK] := by
  show sayL sgC [gvK, gvS] pf7 2 ++ [(saysZ sgC [gvK, gvS] (sayL sgC [gvK, gvS] pf7 2) (1, 0, 0)).1] = _
  rw [sayL7_2, say_K]; rfl
theorem sayL7_4 : sayL sgC [gvK, gvS] pf7 4 = [gvS, gvK, gvK, sayX] := by
  show sayL sgC [gvK, gvS] pf7 3 ++ [(saysZ sgC [gvK, gvS] (sayL sgC [gvK, gvS] pf7 3) (2, 0, 1)).1] = _
  rw [sayL7_3, say_7a]; rfl
theorem sayL7_5 : sayL sgC [gvK, gvS] pf7 5 = [gvS, gvK, gvK, sayX, [0, -1, -1]] := by
  show sayL sgC [gvK, gvS] pf7 4 ++ [(saysZ sgC [gvK, gvS] (sayL sgC [gvK, gvS] pf7 4) (2, 3, 2)).1] = _
  rw [sayL7_4, say_7b]; rfl
theorem sayTo_7 : sayTo sgC [gvK, gvS] pf7 5 := by
  intro j hj
  unfold sayE
  rcases j with _ | _ | _ | _ | _ | j
  · show (saysZ sgC [gvK, gvS] [] (1, 1, 0)).2 = 0
    rw [say_0]
  · show (saysZ sgC [gvK, gvS] (sayL sgC [gvK, gvS] pf7 1) (1, 0, 0)).2 = 0
    rw [say_K]
  · show (saysZ sgC [gvK, gvS] (sayL sgC [gvK, gvS] pf7 2) (1, 0, 0)).2 = 0
    rw [say_K]
  · show (saysZ sgC [gvK, gvS] (sayL sgC [gvK, gvS] pf7 3) (2, 0, 1)).2 = 0
    rw [sayL7_3, say_7a]
  · show (saysZ sgC [gvK, gvS] (sayL sgC [gvK, gvS] pf7 4) (2, 3, 2)).2 = 0
    rw [sayL7_4, say_7b]
  · omega
theorem merg_7 : mergZ sgC [gvK, gvS] pf7 = (pfI, 0) := by
  have h : runZ sgC [gvK, gvS] pf7 = ([gvS, gvK, gvK, sayX, [0, -1, -1]], -1, 0) := by
    unfold runZ
    rw [if_pos (by decide +kernel)]
    show runF sgC [gvK, gvS] pf7 5 0 = _
    rw [runF_to 5 5 (Nat.le_refl _) sayTo_7, Nat.sub_self, runF, sayL7_5]
  have h2 : toldZ sgC [gvK, gvS] pf7 = ([gvS, gvK, gvK, sayX, [0, -1, -1]], 0) := by
    unfold toldZ
    rw [h]
    rfl
  unfold mergZ
  rw [h2, if_pos rfl]
  exact congrArg (fun x => (x, (0 : Int))) (by decide +kernel)
theorem tim_7 : timZ 2 pfI = ([1, 2, 1, 1], 0) := by decide +kernel
theorem cut_7 : cutZ 2 pfI 2 = ([(1, 1, 0), (1, 0, 0), (2, 0, 1)], [(1, 0, 0), (1, 2, 0), (2, 1, 0)], 0) := by decide +kernel
theorem steps_of_blk {W : World} {b n : Nat} (pp : List Stp) (cs : Array Value) (hcs : cs = (flatS pp).toArray) (h : Blk W b 33 cs) (hn : n = pp.length) (hm : pp.length ≤ 1000000) : StepsAt W W.heap.size (some ⟨b, 0, none⟩) n pp := by
  subst hcs
  refine ⟨hn, by omega, fun _ => ⟨b, 0, rfl, h.lt, fun j hj => ?_⟩⟩
  obtain ⟨q1, q2, q3⟩ := flatS_get pp j hj
  rw [Nat.zero_add]
  refine ⟨?_, ?_, ?_⟩ <;> rw [h.cell, List.getElem?_toArray] <;> assumption
theorem lcite_any (g : Int) (w : World) : Calls Try.prog 21 #[.int .i64 g] w fun e w' => e = .returned (.agg #[.int .i64 1, .int .i64 g, .int .i64 0]) ∧ Below w.heap.size w w' := by
  go_enter Try.func21, Try.ntmps21
  go_wp2
  exact bodyPost_ret (v := .agg #[.int .i64 1, .int .i64 g, .int .i64 0]) (results_cell_row (p := 2) rfl _ _ w.heap.size _ _ _ _ rfl (heap_alloc_new w _) Try.underlying33 rfl info_step7) rfl ⟨rfl, bel_al0 _ _⟩
theorem ldetach_any (a b : Int) (w : World) : Calls Try.prog 22 #[.int .i64 a, .int .i64 b] w fun e w' => e = .returned (.agg #[.int .i64 2, .int .i64 a, .int .i64 b]) ∧ Below w.heap.size w w' := by
  go_enter Try.func22, Try.ntmps22
  go_wp2
  exact bodyPost_ret (v := .agg #[.int .i64 2, .int .i64 a, .int .i64 b]) (results_cell_row (p := 4) rfl _ _ w.heap.size _ _ _ _ rfl (heap_alloc_new w _) Try.underlying33 rfl info_step7) rfl ⟨rfl, bel_al0 _ _⟩

set_option maxRecDepth 100000 in
set_option maxHeartbeats 4000000 in
theorem awake7_any (w : World) : Calls Try.prog 5 #[] w fun e w' => e = .returned (.bool true) ∧ Below w.heap.size w w' := by
  obtain ⟨N, hN⟩ : ∃ N, w.heap.size = N := ⟨_, rfl⟩
  let W1 := w.alloc (.cells #[.string ⟨#[67]⟩, .int .i64 2] 42)
  let W2 := W1.alloc (.cells (gvK.map (Value.int .i64)).toArray 3)
  let W3 := W2.alloc (.cells (gvS.map (Value.int .i64)).toArray 3)
  let W4 := W3.alloc (.cells #[.slice (some ⟨N + 1, 0, none⟩) 5 5, .slice (some ⟨N + 2, 0, none⟩) 13 13] 45)
  have z1 : W1.heap.size = N + 1 := by simp [W1, hN]
  have z2 : W2.heap.size = N + 2 := by simp [W2, z1]
  have z3 : W3.heap.size = N + 3 := by simp [W3, z2]
  have b1 : Blk W1 N 42 #[.string ⟨#[67]⟩, .int .i64 2] := by have := Blk.new w 42 #[.string ⟨#[67]⟩, .int .i64 2]; rw [hN] at this; exact this
  have b2 : Blk W2 (N + 1) 3 (gvK.map (Value.int .i64)).toArray := by have := Blk.new W1 3 (gvK.map (Value.int .i64)).toArray; rw [z1] at this; exact this
  have b3 : Blk W3 (N + 2) 3 (gvS.map (Value.int .i64)).toArray := by have := Blk.new W2 3 (gvS.map (Value.int .i64)).toArray; rw [z2] at this; exact this
  have b4 : Blk W4 (N + 3) 45 #[.slice (some ⟨N + 1, 0, none⟩) 5 5, .slice (some ⟨N + 2, 0, none⟩) 13 13] := by have := Blk.new W3 45 #[.slice (some ⟨N + 1, 0, none⟩) 5 5, .slice (some ⟨N + 2, 0, none⟩) 13 13]; rw [z3] at this; exact this
  have uw : Below w.heap.size w W4 := bel_al (bel_al (bel_al (bel_al (Below.refl _ w) _) _) _) _
  have hsg : SigAt W4 W4.heap.size (some ⟨N, 0, none⟩) 1 sgC := sig_C (((b1.alloc _).alloc _).alloc _)
  have hgv : TermsAt W4 W4.heap.size (some ⟨N + 3, 0, none⟩) 2 _ [gvK, gvS] := givens_C b4 ((b2.alloc _).alloc _) (b3.alloc _)
  have HCM := Lib.hid (fun (V : World) (A : Option Addr) (h : Below W4.heap.size W4 V) (hp : StepsAt V V.heap.size A 5 pf7) => show Calls Try.prog 20 #[.slice (some ⟨N, 0, none⟩) 1 1, .slice (some ⟨N + 3, 0, none⟩) 2 2, .slice A 5 5] V (RetSc V (pfI, 0)) from by
    have := merged_any (some ⟨N, 0, none⟩) (some ⟨N + 3, 0, none⟩) A 1 1 2 2 5 5 sgC _ [gvK, gvS] pf7 V (hsg.up h) (hgv.up h) hp (by omega) (by omega) (by omega)
    rw [merg_7] at this
    exact this)
  have HCT := Lib.hid (fun (V : World) (A : Option Addr) (n c : Nat) (hp : StepsAt V V.heap.size A n pfI) => show Calls Try.prog 6 #[.int .i64 2, .slice A n c] V (RetT V [1, 2, 1, 1] 0) from by
    have := times_any 2 A n c pfI V hp
    rw [tim_7] at this
    exact this)
  have HCC := Lib.hid (fun (V : World) (A : Option Addr) (n c : Nat) (hp : StepsAt V V.heap.size A n pfI) (h1 : n ≤ c) (h2 : c ≤ 9223372036854775807) => show Calls Try.prog 23 #[.int .i64 2, .slice A n c, .int .i64 2] V (RetCut V ([(1, 1, 0), (1, 0, 0), (2, 0, 1)], [(1, 0, 0), (1, 2, 0), (2, 1, 0)], 0)) from by
    have := cut_any 2 A n c pfI 2 V hp h1 h2 (by have := hp.len; rw [show pfI.length = 4 from rfl] at this; omega)
    rw [cut_7] at this
    exact this)
  have HUW := Lib.hid uw
  obtain ⟨WX, hWX⟩ : ∃ WX, W4 = WX := ⟨_, rfl⟩
  have HWX := Lib.hid hWX
  rw [hWX] at HCM HUW
  have HB4 := Lib.hid (Below.refl WX.heap.size WX)
  clear hsg hgv uw b1 b2 b3 b4 z1 z2 z3 hWX
  go_enter Try.func5, Try.ntmps5
  go_upto_region 3 with fail
  have HW' := HWX.out
  change Code.wp _ _ _ _ W4
  rw [HW']
  clear HW'
  go_wp2_with (first
    | (go_at_call 21; ((with_reducible refine (lcite_any _ _).mono ?_); rintro e wc ⟨rfl, hBc⟩; have HB9 := Lib.hid (below_then HB9.out hBc); clear hBc))
    | (go_at_call 22; ((with_reducible refine (ldetach_any _ _ _).mono ?_); rintro e wc ⟨rfl, hBc⟩; have HB9 := Lib.hid (below_then HB9.out hBc); clear hBc))
    | (go_at_call 21; ((with_reducible refine (lcite_any _ _).mono ?_); rintro e wc ⟨rfl, hBc⟩; have HB4 := Lib.hid (below_then HB4.out hBc); clear hBc))
    | (go_at_call 22; ((with_reducible refine (ldetach_any _ _ _).mono ?_); rintro e wc ⟨rfl, hBc⟩; have HB4 := Lib.hid (below_then HB4.out hBc); clear hBc))
    | (go_at_call 20
       have hB5 := bel_al HB4.out (.cells (flatS pf7).toArray 33)
       refine (HCM.out _ _ hB5 (steps_of_blk pf7 _ rfl (Blk.new _ _ _) rfl (by decide))).mono ?_
       rintro e V7 ⟨A7, n7, c7, rfl, hS7, h71, h72, hB7⟩
       obtain ⟨b7, o7, rfl, _, _⟩ := hS7.mem (by rw [hS7.len]; decide)
       obtain rfl : n7 = 4 := hS7.len
       have HS7 := Lib.hid hS7
       have HC7 := Lib.hid (And.intro h71 h72)
       have HB7 := Lib.hid (below_then (below_then HUW.out hB5) hB7)
       clear hB5 hS7 hB7 h72)
    | (go_at_call 6
       (with_reducible refine (HCT.out _ _ _ _ HS7.out).mono ?_)
       rintro e V8 ⟨A8, n8, c8, rfl, hI8, hB8⟩
       have HI8 := Lib.hid hI8
       have HS8 := Lib.hid (HS7.out.up hB8)
       have HB8 := Lib.hid (below_then HB7.out hB8)
       clear hI8 hB8)
    | (go_at_call 23
       (with_reducible refine (HCC.out _ _ _ _ HS8.out HC7.out.1 HC7.out.2).mono ?_)
       rintro e V9 ⟨A9, n9, c9, A10, n10, c10, rfl, hl, _, _, hr, _, _, hB9⟩
       have HL9 := Lib.hid hl
       have HR9 := Lib.hid hr
       have HS9 := Lib.hid (HS8.out.up hB9)
       have HI9 := Lib.hid (HI8.out.up hB9)
       have HBW := Lib.hid (below_then HB8.out hB9)
       have HB9 := Lib.hid (Below.refl V9.heap.size V9)
       clear hl hr hB9)
    | (go_at_call 18
       have hD := HDONE.out
       have hb := bel_al HB9.out (.cells (flatS [(1, 0, 0), (1, 2, 0), (2, 1, 0)]).toArray 33)
       refine (sameProof_self _ _ n10 c10 3 3 [(1, 0, 0), (1, 2, 0), (2, 1, 0)] _ _ (HR9.out.up hb) (steps_of_blk _ _ rfl (Blk.new _ _ _) rfl (by decide))).mono ?_
       rintro e wz ⟨rfl, kz, hwz⟩
       have HBZ := Lib.hid (show Below V9.heap.size V9 wz from by rw [hwz]; exact below_drewN hb kz)
       clear hwz hb hD)
    | (go_at_call 18
       have hD := HINTS.out
       refine (sameProof_self _ _ n9 c9 3 c7 [(1, 1, 0), (1, 0, 0), (2, 0, 1)] _ _ (HL9.out.up HB9.out) ((HS9.out.up HB9.out).take (by omega))).mono ?_
       rintro e wz ⟨rfl, kz, hwz⟩
       have HB9 := Lib.hid (show Below V9.heap.size V9 wz from by rw [hwz]; exact below_drewN HB9.out kz)
       have HDONE := Lib.hid hD
       clear hwz hD)
    | (go_at_call 12
       have hb := bel_al HB9.out (.cells (([1, 2, 1, 1] : List Int).map (Value.int .i64)).toArray 3)
       refine (sameInts6_any _ _ n8 c8 4 4 [1, 2, 1, 1] [1, 2, 1, 1] _ _ (HI9.out.up hb) (ints_of_blk [1, 2, 1, 1] 4 _ rfl (Blk.new _ _ _) rfl (by decide))).mono ?_
       rintro e wz ⟨rfl, kz, hwz⟩
       have HB9 := Lib.hid (show Below V9.heap.size V9 wz from by rw [hwz]; exact below_drewN hb kz)
       have HINTS := Lib.hid (show True from trivial)
       clear hwz hb)
    | (go_at_call 18
       have hb := bel_al HB9.out (.cells (flatS pfI).toArray 33)
       refine (sameProof_self _ _ 4 c7 4 4 pfI _ _ (HS9.out.up hb) (steps_of_blk _ _ rfl (Blk.new _ _ _) rfl (by decide))).mono ?_
       rintro e wz ⟨rfl, kz, hwz⟩
       have HB9 := Lib.hid (show Below V9.heap.size V9 wz from by rw [hwz]; exact below_drewN hb kz)
       clear hwz hb))
  go_ret
  exact ⟨rfl, below_then HBW.out HBZ.out⟩

end Go.Proofs.Ytojofbmpknpggaa

namespace Go.Proofs.Ytojofbmpknpggaa
open Go.RowKit

/-- A dropped proof, moved by what stays, is the proof. -/
theorem mov_back {g : Nat} {pp : List Stp} (h : proofOk (g : Int) pp = true) : movZ ((chF7 (citQ pp) g).length : Int) (pp.map (movAt (toL (citQ pp) g))) (chF7 (citQ pp) g) (g : Int) = (pp, 0) := by
  obtain ⟨hg0, hl60, hto⟩ := proofOk_to h
  have hle := chF7_len (citQ pp) g
  have hcit : ∀ (j y : Nat), j < pp.length → pp[j]? = some (1, (y : Int), 0) → (y : Int) < (g : Int) → movAt (toL (citQ pp) g) (1, (y : Int), 0) = (1, ((chF7 (citQ pp) y).length : Int), 0) := fun j y _ e hy => by
    have hq := citQ_step e
    unfold movAt
    rw [if_pos rfl]
    simp only [Int.toNat_natCast]
    rw [List.getD_eq_getElem?_getD, toL_at (by omega), if_pos hq]
    rfl
  unfold movZ
  rw [if_pos, if_pos rfl, if_pos]
  · refine congrArg (fun x => (x, (0 : Int))) ?_
    rw [List.map_map]
    apply List.ext_getElem?
    intro j
    rw [List.getElem?_map]
    by_cases hj : j < pp.length
    · rcases step_cases hto hj with ⟨y, e1, y1⟩ | ⟨a, b, e1, a1, b1⟩
      · rw [e1]
        show some (movAt (chF7 (citQ pp) g) (movAt (toL (citQ pp) g) (1, (y : Int), 0))) = _
        rw [hcit j y hj e1 y1]
        unfold movAt
        rw [if_pos rfl]
        simp only [Int.toNat_natCast]
        rw [List.getD_eq_getElem?_getD, chF7_at (citQ_step e1) (by omega)]
        rfl
      · rw [e1]
        rfl
    · rw [List.getElem?_eq_none (by omega)]
      rfl
  · rw [decide_eq_true (show 0 ≤ (g : Int) ∧ (g : Int) ≤ 60 by omega), Bool.true_and, List.all_eq_true]
    intro z hz
    obtain ⟨m, hm, rfl⟩ := List.getElem_of_mem hz
    obtain ⟨j, h1, h2, _⟩ := chF7_in (List.getElem?_eq_getElem hm)
    rw [h1]
    unfold btw
    simp; omega
  · refine proofOk_all (by omega) (by rw [List.length_map]; omega) fun j hj x hx => ?_
    rw [List.length_map] at hj
    rw [List.getElem?_map] at hx
    rcases step_cases hto hj with ⟨y, e1, y1⟩ | ⟨a, b, e1, a1, b1⟩
    · rw [e1] at hx
      have hx2 : movAt (toL (citQ pp) g) (1, (y : Int), 0) = x := by simpa using hx
      rw [hcit j y hj e1 y1] at hx2
      subst hx2
      have := chF7_lt (citQ_step e1) (show y < g by omega)
      unfold stepOk
      rw [if_pos rfl, decide_eq_true (show 0 ≤ ((chF7 (citQ pp) y).length : Int) ∧ ((chF7 (citQ pp) y).length : Int) < ((chF7 (citQ pp) g).length : Int) by omega)]
      rfl
    · rw [e1] at hx
      have hx2 : ((2, (a : Int), (b : Int)) : Stp) = x := by simpa [movAt] using hx
      subst hx2
      unfold stepOk
      rw [if_neg (by simp), if_pos rfl, decide_eq_true (show 0 ≤ (a : Int) ∧ (a : Int) < (j : Int) by omega), decide_eq_true (show 0 ≤ (b : Int) ∧ (b : Int) < (j : Int) by omega)]
      rfl
theorem sameInts6_self (A A2 : Option Addr) (n c n2 c2 : Nat) (xs : List Int) (w : World) (B : Nat) (hx : IntsAt w B A n xs) (hy : IntsAt w B A2 n2 xs) :
    Calls Try.prog 12 #[.slice A n c, .slice A2 n2 c2] w fun e w' => e = .returned (.bool true) ∧ ∃ k, w' = w.drewN k := by
  have := sameInts6_any A A2 n c n2 c2 xs xs w B hx hy
  simpa using this

set_option maxRecDepth 100000 in
set_option maxHeartbeats 2000000 in
theorem sd_long (g : Int) (A : Option Addr) (n c : Nat) (w : World) (h : ¬ n ≤ 100) (hm : n ≤ 9223372036854775807) :
    Calls Try.prog 4 #[.int .i64 g, .slice A n c] w fun e w' => e = .returned (.bool true) ∧ Below w.heap.size w w' := by
  have hn : (100 : Int) < (n : Int) := by omega
  go_enter Try.func4, Try.ntmps4
  go_wp2_with (go_at_call 5; refine (awake7_any _).mono ?_; rintro e Vz ⟨rfl, hBz⟩; have HBz := Lib.hid (hBz); clear hBz)
  go_ret
  exact ⟨rfl, HBz.out⟩

set_option maxRecDepth 100000 in
set_option maxHeartbeats 4000000 in
theorem sd_bad (g : Int) (A : Option Addr) (n c : Nat) (pp : List Stp) (w : World) (hp : StepsAt w w.heap.size A n pp) (h : n ≤ 100) (hv : proofOk g pp = false) :
    Calls Try.prog 4 #[.int .i64 g, .slice A n c] w fun e w' => e = .returned (.bool true) ∧ Below w.heap.size w w' := by
  have hn : (n : Int) ≤ 100 := by omega
  have zu : unuZ g pp = ([], 1) := by unfold unuZ; rw [hv]; rfl
  have zd : droZ g pp = ([], [], 1) := by unfold droZ; rw [hv]; rfl
  have U1 := Lib.hid (fun (V : World) (hb : Below w.heap.size w V) => unused_any g A n c pp V (hp.up hb))
  have U2 := Lib.hid (fun (V : World) (hb : Below w.heap.size w V) => refUnused_any g A n c pp V (hp.up hb))
  have D1 := Lib.hid (fun (V : World) (hb : Below w.heap.size w V) => dropped_any g A n c pp V (hp.up hb))
  have D2 := Lib.hid (fun (V : World) (hb : Below w.heap.size w V) => refDropped_any g A n c pp V (hp.up hb))
  rw [zu] at U1 U2
  rw [zd] at D1 D2
  clear hp h hv zu zd
  go_enter Try.func4, Try.ntmps4
  go_wp2_with (first
    | (go_at_call 5; refine (awake7_any _).mono ?_; rintro e V0 ⟨rfl, hB0⟩; have HB0 := Lib.hid (hB0); clear hB0)
    | (go_at_call 14; ((with_reducible refine (U1.out _ HB0.out).mono ?_); rintro e V1 ⟨A1, n1, c1, rfl, hI1, _, _, hB1⟩; have HI1 := Lib.hid hI1; have HB1 := Lib.hid (below_then HB0.out hB1); clear hI1 hB1))
    | (go_at_call 15; ((with_reducible refine (U2.out _ HB1.out).mono ?_); rintro e V2 ⟨A2, n2, c2, rfl, hI2, _, _, hB2⟩; have HI12 := Lib.hid (HI1.out.up hB2); have HI2 := Lib.hid hI2; have HB2 := Lib.hid (below_then HB1.out hB2); clear hI2 hB2))
    | (go_at_call 16; ((with_reducible refine (D1.out _ HB2.out).mono ?_); rintro e V3 ⟨A3, n3, c3, A4, n4, c4, rfl, hS3, hI3, hB3⟩; have HI13 := Lib.hid (HI12.out.up hB3); have HI23 := Lib.hid (HI2.out.up hB3); have HS3 := Lib.hid hS3; have HI3 := Lib.hid hI3; have HB3 := Lib.hid (below_then HB2.out hB3); clear hS3 hI3 hB3))
    | (go_at_call 17; ((with_reducible refine (D2.out _ HB3.out).mono ?_); rintro e V4 ⟨A5, n5, c5, A6, n6, c6, rfl, hS4, hI4, hB4⟩; have HI14 := Lib.hid (HI13.out.up hB4); have HI24 := Lib.hid (HI23.out.up hB4); have HS34 := Lib.hid (HS3.out.up hB4); have HI34 := Lib.hid (HI3.out.up hB4); have HS4 := Lib.hid hS4; have HI4 := Lib.hid hI4; have HBW := Lib.hid (below_then HB3.out hB4); have HB4 := Lib.hid (Below.refl V4.heap.size V4); clear hS4 hI4 hB4))
    | (go_at_call 12; have hF := HF1.out; refine (sameInts6_self _ _ n4 c4 n6 c6 [] _ _ (HI34.out.up HB4.out) (HI4.out.up HB4.out)).mono ?_; rintro e wz ⟨rfl, kz, hwz⟩; have HB4 := Lib.hid (show Below V4.heap.size V4 wz from by rw [hwz]; exact below_drewN HB4.out kz); clear hwz hF)
    | (go_at_call 12; refine (sameInts6_self _ _ n1 c1 n2 c2 [] _ _ (HI14.out.up HB4.out) (HI24.out.up HB4.out)).mono ?_; rintro e wz ⟨rfl, kz, hwz⟩; have HB4 := Lib.hid (show Below V4.heap.size V4 wz from by rw [hwz]; exact below_drewN HB4.out kz); clear hwz)
    | (go_at_call 18; refine (sameProof_self _ _ n3 c3 n5 c5 [] _ _ (HS34.out.up HB4.out) (HS4.out.up HB4.out)).mono ?_; rintro e wz ⟨rfl, kz, hwz⟩; have HB4 := Lib.hid (show Below V4.heap.size V4 wz from by rw [hwz]; exact below_drewN HB4.out kz); have HF1 := Lib.hid (show True from trivial); clear hwz))
  go_ret
  exact ⟨rfl, below_then HBW.out HB4.out⟩

set_option maxRecDepth 100000 in
set_option maxHeartbeats 4000000 in
theorem sd_good (g : Int) (A : Option Addr) (n c : Nat) (pp : List Stp) (w : World) (hp : StepsAt w w.heap.size A n pp) (h : n ≤ 100) (hv : proofOk g pp = true) :
    Calls Try.prog 4 #[.int .i64 g, .slice A n c] w fun e w' => e = .returned (.bool true) ∧ Below w.heap.size w w' := by
  have hn : (n : Int) ≤ 100 := by omega
  obtain ⟨gn, rfl⟩ := Int.eq_ofNat_of_zero_le (proofOk_to hv).1.1
  have hmb := mov_back hv
  have hboth := chF7_both (citQ pp) gn
  have hg60 := (proofOk_to hv).1.2
  have zu : unuZ (gn : Int) pp = (chF7 (fun i => !citQ pp i) gn, 0) := by unfold unuZ; rw [if_pos hv, Int.toNat_natCast]
  have zd : droZ (gn : Int) pp = (pp.map (movAt (toL (citQ pp) gn)), chF7 (citQ pp) gn, 0) := by unfold droZ; rw [if_pos hv, Int.toNat_natCast]
  have U1 := Lib.hid (fun (V : World) (hb : Below w.heap.size w V) => unused_any (gn : Int) A n c pp V (hp.up hb))
  have U2 := Lib.hid (fun (V : World) (hb : Below w.heap.size w V) => refUnused_any (gn : Int) A n c pp V (hp.up hb))
  have D1 := Lib.hid (fun (V : World) (hb : Below w.heap.size w V) => dropped_any (gn : Int) A n c pp V (hp.up hb))
  have D2 := Lib.hid (fun (V : World) (hb : Below w.heap.size w V) => refDropped_any (gn : Int) A n c pp V (hp.up hb))
  have HP := Lib.hid (fun (V : World) (hb : Below w.heap.size w V) => hp.up hb)
  rw [zu] at U1 U2
  rw [zd] at D1 D2
  obtain ⟨U, hU⟩ : ∃ U, chF7 (fun i => !citQ pp i) gn = U := ⟨_, rfl⟩
  obtain ⟨L, hL⟩ : ∃ L, chF7 (citQ pp) gn = L := ⟨_, rfl⟩
  obtain ⟨D, hD⟩ : ∃ D, pp.map (movAt (toL (citQ pp) gn)) = D := ⟨_, rfl⟩
  rw [hU] at U1 U2 hboth
  rw [hL, hD] at D1 D2 hmb
  rw [hL] at hboth
  have HBO := Lib.hid hboth
  have CM := Lib.hid (fun (V : World) (A3 A4 : Option Addr) (n3 c3 n4 c4 : Nat) (hS : StepsAt V V.heap.size A3 n3 D) (hI : IntsAt V V.heap.size A4 n4 L) => show Calls Try.prog 19 #[.int .i64 (n4 : Int), .slice A3 n3 c3, .slice A4 n4 c4, .int .i64 (gn : Int)] V (RetS V pp 0) from by
    have := moved_any (n4 : Int) (gn : Int) A3 A4 n3 c3 n4 c4 D L V hS hI (by have := hI.len; omega)
    rw [hI.len, hmb] at this
    rw [hI.len]
    exact this)
  clear hp h hv zu zd hU hL hD hmb hboth
  go_enter Try.func4, Try.ntmps4
  go_wp2_with (first
    | (go_at_call 5; refine (awake7_any _).mono ?_; rintro e V0 ⟨rfl, hB0⟩; have HB0 := Lib.hid (hB0); clear hB0)
    | (go_at_call 14; ((with_reducible refine (U1.out _ HB0.out).mono ?_); rintro e V1 ⟨A1, n1, c1, rfl, hI1, _, _, hB1⟩; have HI1 := Lib.hid hI1; have HB1 := Lib.hid (below_then HB0.out hB1); clear hI1 hB1))
    | (go_at_call 15; ((with_reducible refine (U2.out _ HB1.out).mono ?_); rintro e V2 ⟨A2, n2, c2, rfl, hI2, _, _, hB2⟩; have HI12 := Lib.hid (HI1.out.up hB2); have HI2 := Lib.hid hI2; have HB2 := Lib.hid (below_then HB1.out hB2); clear hI2 hB2))
    | (go_at_call 16; ((with_reducible refine (D1.out _ HB2.out).mono ?_); rintro e V3 ⟨A3, n3, c3, A4, n4, c4, rfl, hS3, hI3, hB3⟩; have HI13 := Lib.hid (HI12.out.up hB3); have HI23 := Lib.hid (HI2.out.up hB3); have HS3 := Lib.hid hS3; have HI3 := Lib.hid hI3; have HB3 := Lib.hid (below_then HB2.out hB3); clear hS3 hI3 hB3))
    | (go_at_call 17; ((with_reducible refine (D2.out _ HB3.out).mono ?_); rintro e V4 ⟨A5, n5, c5, A6, n6, c6, rfl, hS4, hI4, hB4⟩; have hl1 : n1 = U.length := HI13.out.len; have hl2 : n4 = L.length := HI3.out.len; have hbo := HBO.out; have hsum : (n4 : Int) + (n1 : Int) = (gn : Int) := (by omega); have HI14 := Lib.hid (HI13.out.up hB4); have HI24 := Lib.hid (HI23.out.up hB4); have HS34 := Lib.hid (HS3.out.up hB4); have HI34 := Lib.hid (HI3.out.up hB4); have HS4 := Lib.hid hS4; have HI4 := Lib.hid hI4; have HBW := Lib.hid (below_then HB3.out hB4); have HP4 := Lib.hid (HP.out _ HBW.out); have HB4 := Lib.hid (Below.refl V4.heap.size V4); clear hS4 hI4 hB4 hl1 hl2 hbo))
    | (go_at_call 12; have hF := HF1.out; refine (sameInts6_self _ _ n4 c4 n6 c6 L _ _ (HI34.out.up HB4.out) (HI4.out.up HB4.out)).mono ?_; rintro e wz ⟨rfl, kz, hwz⟩; have HB4 := Lib.hid (show Below V4.heap.size V4 wz from by rw [hwz]; exact below_drewN HB4.out kz); clear hwz hF)
    | (go_at_call 12; refine (sameInts6_self _ _ n1 c1 n2 c2 U _ _ (HI14.out.up HB4.out) (HI24.out.up HB4.out)).mono ?_; rintro e wz ⟨rfl, kz, hwz⟩; have HB4 := Lib.hid (show Below V4.heap.size V4 wz from by rw [hwz]; exact below_drewN HB4.out kz); clear hwz)
    | (go_at_call 18; refine (sameProof_self _ _ n9 c9 n c pp _ _ HS9.out (HP4.out.up HB9.out)).mono ?_; rintro e wz ⟨rfl, kz, hwz⟩; have HBZ := Lib.hid (show Below V4.heap.size V4 wz from by rw [hwz]; exact below_drewN HB9.out kz); clear hwz)
    | (go_at_call 18; refine (sameProof_self _ _ n3 c3 n5 c5 D _ _ (HS34.out.up HB4.out) (HS4.out.up HB4.out)).mono ?_; rintro e wz ⟨rfl, kz, hwz⟩; have HB4 := Lib.hid (show Below V4.heap.size V4 wz from by rw [hwz]; exact below_drewN HB4.out kz); have HF1 := Lib.hid (show True from trivial); clear hwz)
    | (go_at_call 19; refine (CM.out _ A3 A4 n3 c3 n4 c4 (HS34.out.up HB4.out) (HI34.out.up HB4.out)).mono ?_; rintro e V9 ⟨A9, n9, c9, rfl, hS9, hB9⟩; have HS9 := Lib.hid hS9; have HB9 := Lib.hid (below_then HB4.out hB9); clear hS9 hB9))
  go_ret
  exact ⟨rfl, below_then HBW.out HBZ.out⟩

theorem sd_walk (g : Int) (A : Option Addr) (n c : Nat) (pp : List Stp) (w : World) (hp : StepsAt w w.heap.size A n pp) :
    Calls Try.prog 4 #[.int .i64 g, .slice A n c] w fun e w' => e = .returned (.bool true) ∧ Below w.heap.size w w' := by
  by_cases h : n ≤ 100
  · cases hv : proofOk g pp
    · exact sd_bad g A n c pp w hp h hv
    · exact sd_good g A n c pp w hp h hv
  · exact sd_long g A n c w h hp.max

end Go.Proofs.Ytojofbmpknpggaa
