/- Contract: Merged. -/
import Derived.Test.YtojofbmpknpggaaPNg
import Derived.Test.YtojofbmpknpggaaVHg
import Derived.Test.YtojofbmpknpggaaTGg
import Derived.Test.YtojofbmpknpggaaQZg
import Derived.Test.YtojofbmpknpggaaG3g
import Derived.Test.YtojofbmpknpggaaVJg
import Derived.Test.YtojofbmpknpggaaQMg
import Derived.Test.YtojofbmpknpggaaQGg
/- Contract: told (what all steps of a proof say). -/
namespace Go.Proofs.Ytojofbmpknpggaa
open Go.RowKit

theorem TermsAt.nil7 (w : World) (B : Nat) : TermsAt w B none 0 [] [] := ⟨⟨rfl, by omega, fun h => absurd h (by omega)⟩, rfl, fun j hj => by simp at hj⟩
/-- What told hands back. -/
noncomputable def toldZ (ss : Sg) (gg : List (List Int)) (pp : List Stp) : List (List Int) × Int :=
  if (runZ ss gg pp).2.2 = 1 then ([], 1) else if (runZ ss gg pp).2.2 = 0 then ((runZ ss gg pp).1, 0) else ([], 11)
def RetTo (w : World) (Z : List (List Int) × Int) (e : Ending) (w' : World) : Prop :=
  ∃ A n c ls, e = .returned (.tuple #[.slice A n c, .int .i64 Z.2]) ∧ TermsAt w' w'.heap.size A n ls Z.1 ∧ Below w.heap.size w w' ∧ ∀ x ∈ ls, capOk x

set_option maxRecDepth 100000 in
theorem told_any (As Ag Ap : Option Addr) (ns cs ng cg np cp : Nat) (ss : Sg) (lg : List Hd) (gg : List (List Int)) (pp : List Stp) (w : World) (hs : SigAt w w.heap.size As ns ss) (hg : TermsAt w w.heap.size Ag ng lg gg) (hp : StepsAt w w.heap.size Ap np pp) (hn : ng ≤ 1000000) :
    Calls Try.prog 43 #[.slice As ns cs, .slice Ag ng cg, .slice Ap np cp] w (RetTo w (toldZ ss gg pp)) := by
  have CR := Lib.hid (run_any As Ag Ap ns cs ng cg np cp ss lg gg pp w hs hg hp hn)
  unfold toldZ
  obtain ⟨Z, hZ⟩ : ∃ Z, runZ ss gg pp = Z := ⟨_, rfl⟩
  rw [hZ] at CR ⊢
  obtain ⟨L, k, e⟩ := Z
  simp only at CR ⊢
  clear hs hg hp hn hZ
  by_cases h1 : e = 1
  · rw [if_pos h1]
    subst h1
    go_enter Try.func43, Try.ntmps43
    go_wp2_with (go_at_call 56; ((with_reducible refine CR.out.mono ?_); rintro e w2 ⟨A2, n2, c2, l2, rfl, hT2, hB2, hc2⟩; have HB2 := Lib.hid hB2; clear hB2 hT2 hc2))
    go_ret2
    exact ⟨none, 0, 0, [], rfl, TermsAt.nil7 _ _, HB2.out, fun x hx => by simp at hx⟩
  · rw [if_neg h1]
    by_cases h0 : e = 0
    · rw [if_pos h0]
      subst h0
      go_enter Try.func43, Try.ntmps43
      go_wp2_with (go_at_call 56; ((with_reducible refine CR.out.mono ?_); rintro e w2 ⟨A2, n2, c2, l2, rfl, hT2, hB2, hc2⟩; have HB2 := Lib.hid hB2; have HT2 := Lib.hid hT2; have HC2 := Lib.hid hc2; clear hB2 hT2 hc2))
      go_ret2
      exact ⟨A2, n2, c2, l2, rfl, HT2.out, HB2.out, HC2.out⟩
    · rw [if_neg h0]
      have h1b : (e == 1) = false := by simpa using h1
      have h0b : (e != 0) = true := by simpa using h0
      go_enter Try.func43, Try.ntmps43
      go_wp2_with (go_at_call 56; ((with_reducible refine CR.out.mono ?_); rintro e w2 ⟨A2, n2, c2, l2, rfl, hT2, hB2, hc2⟩; have HB2 := Lib.hid hB2; clear hB2 hT2 hc2))
      go_ret2
      exact ⟨none, 0, 0, [], rfl, TermsAt.nil7 _ _, HB2.out, fun x hx => by simp at hx⟩

end Go.Proofs.Ytojofbmpknpggaa

/- Contract: Trimmed. -/
namespace Go.Proofs.Ytojofbmpknpggaa
open Go.RowKit Go.Shelf

/-- Steps and an error in new memory, with a capacity. -/
def RetSc (w : World) (Z : List Stp × Int) (e : Ending) (w' : World) : Prop :=
  ∃ A n c, e = .returned (.tuple #[.slice A n c, .int .i64 Z.2]) ∧ StepsAt w' w'.heap.size A n Z.1 ∧ n ≤ c ∧ c ≤ 9223372036854775807 ∧ Below w.heap.size w w'

set_option maxRecDepth 100000 in
theorem trimFn_any (L : List Int) (i : Nat) (Bx : Nat) (A : Option Addr) (n c : Nat) (V : World) (B : Nat) (hx : IntsAt V B A n L) (hb : V.cell? ⟨Bx, 0, none⟩ = some (.slice A n c)) :
    Calls Try.prog 61 (#[.int .i64 (i : Int)] ++ #[.pointer (some ⟨Bx, 0, none⟩)]) V fun e w' => e = .returned (.int .i64 (if L.contains (i : Int) = true then (i : Int) else -1)) ∧ V = w' := by
  have C := Lib.hid (contains_any A n c L (i : Int) V B hx)
  obtain ⟨q, hq⟩ : ∃ q, L.contains (i : Int) = q := ⟨_, rfl⟩
  rw [hq] at C ⊢
  clear hx hq
  show Calls _ _ #[.int .i64 (i : Int), .pointer (some ⟨Bx, 0, none⟩)] _ _
  cases q
  · go_enter Try.func61, Try.ntmps61
    go_wp2_with (go_at_call 48; refine C.out.mono ?_; rintro e w' ⟨rfl, rfl⟩)
    go_ret
    exact ⟨rfl, rfl⟩
  · go_enter Try.func61, Try.ntmps61
    go_wp2_with (go_at_call 48; refine C.out.mono ?_; rintro e w' ⟨rfl, rfl⟩)
    go_ret
    exact ⟨rfl, rfl⟩
theorem idxT_has {b : List Bool} {n i : Nat} (h : i < n) : (idxT b n).contains (i : Int) = b.getD i false := by
  rw [Bool.eq_iff_iff, List.contains_iff_mem, idxT_mem]
  constructor
  · rintro ⟨j, _, h2, h3⟩
    have : i = j := by omega
    rw [this]
    exact h3
  · intro h2
    exact ⟨i, h, rfl, h2⟩

set_option maxRecDepth 100000 in
set_option maxHeartbeats 2000000 in
theorem trimmed_any (g : Int) (A : Option Addr) (n c : Nat) (pp : List Stp) (w : World) (hp : StepsAt w w.heap.size A n pp) (hnc : n ≤ c) (hc9 : c ≤ 9223372036854775807) :
    Calls Try.prog 49 #[.int .i64 g, .slice A n c] w (RetSc w (trimZ g pp)) := by
  have CN := Lib.hid (knNeeded_any g A n c pp w hp)
  cases hv : proofOk g pp
  · rw [show neeZ g pp = ([], 1) from by unfold neeZ; rw [hv]; rfl] at CN
    rw [show trimZ g pp = ([], 1) from by unfold trimZ; rw [hv]; rfl]
    clear hv hp
    go_enter Try.func49, Try.ntmps49
    go_wp2_with (go_at_call 47; ((with_reducible refine CN.out.mono ?_); rintro e w2 ⟨A2, n2, c2, rfl, _, hB2⟩; have HB2 := Lib.hid (bel_al hB2 (.cells #[.slice A2 n2 c2] 24)); clear hB2))
    go_ret2
    exact ⟨none, 0, 0, rfl, StepsAt.nil _ _ _, by omega, by omega, HB2.out⟩
  · obtain ⟨hg0, hl60, hto⟩ := proofOk_to hv
    have hlp := hp.len
    have hn1 : 1 ≤ n := by omega
    rw [show neeZ g pp = (idxT (needB pp) pp.length, 0) from by unfold neeZ; rw [if_pos hv]] at CN
    rw [show trimZ g pp = (trimF pp, 0) from by unfold trimZ; rw [if_pos hv]]
    have CF := Lib.hid (fun (V : World) (A2 : Option Addr) (n2 c2 Bx : Nat) (hV : Below w.heap.size w V) (hI : IntsAt V V.heap.size A2 n2 (idxT (needB pp) pp.length)) (hlt : Bx < V.heap.size) (hb : V.cell? ⟨Bx, 0, none⟩ = some (.slice A2 n2 c2)) =>
      folded_any A n c 61 #[.pointer (some ⟨Bx, 0, none⟩)] (enters_of Try.func61 (by kernel_rfl) rfl) (stT (needB pp)) (n - 1) pp V (hp.up hV) (by omega) (by omega)
        (by rw [hlp]; exact stT_stay (need_last (by omega))) hnc hc9
        (fun i hi hs y z hx => by
          have hil : i < pp.length := by omega
          have hni := stT_iff.1 hs
          rcases step_cases hto hil with ⟨u, e1, _⟩ | ⟨a, d, e1, a1, d1⟩
          · rw [e1] at hx; cases hx
          · rw [e1] at hx
            cases hx
            obtain ⟨⟨_, q1⟩, ⟨_, q2⟩⟩ := need_down hto i a d ⟨hil, hni⟩ e1
            exact ⟨a, d, a, d, rfl, rfl, by omega, by omega, stT_stay q1, stT_stay q2, stT_stay q1, stT_stay q2, a1, d1⟩)
        (fun U i hU hi => by
          have h := trimFn_any (idxT (needB pp) pp.length) i Bx A2 n2 c2 U V.heap.size (hI.below hU) ((hU.cell (p := ⟨Bx, 0, none⟩) hlt).trans hb)
          rw [idxT_has (by omega)] at h
          exact h))
    have HLP := Lib.hid hlp
    clear hv hp hg0 hl60 hto hlp
    go_enter Try.func49, Try.ntmps49
    go_wp2_with (first
      | (go_at_call 47; ((with_reducible refine CN.out.mono ?_); rintro e w2 ⟨A2, n2, c2, rfl, hI2, hB2⟩; have HI2 := Lib.hid hI2; have HB2 := Lib.hid hB2; clear hB2 hI2))
      | (go_at_call 45
         have hB3 : Below w.heap.size w (w2.alloc (.cells #[.slice A2 n2 c2] 24)) := bel_al HB2.out _
         (with_reducible refine (CF.out _ A2 n2 c2 w2.heap.size hB3 (HI2.out.up (bel_al0 _ _)) (by simp) (cell_new0 _ _ _)).mono ?_)
         rintro e w4 ⟨A4, n4, c4, rfl, hS4, hn4, hc4, hB4⟩
         have HS4 := Lib.hid hS4
         have HN4 := Lib.hid hn4
         have HC4 := Lib.hid hc4
         have HB4 := Lib.hid (below_then hB3 hB4)
         clear hB3 hB4 hS4 hn4 hc4))
    go_ret2
    refine ⟨A4, n4, c4, rfl, ?_, HN4.out, HC4.out, HB4.out⟩
    have h := HS4.out
    have hlp := HLP.out
    rw [show n - 1 + 1 = pp.length by omega] at h
    exact h

end Go.Proofs.Ytojofbmpknpggaa

namespace Go.Proofs.Ytojofbmpknpggaa
open Go.RowKit Go.Shelf

/-- What Merged hands back. -/
noncomputable def mergZ (ss : Sg) (gg : List (List Int)) (pp : List Stp) : List Stp × Int :=
  if (toldZ ss gg pp).2 = 0 then (mergF (toldZ ss gg pp).1 pp, 0) else ([], (toldZ ss gg pp).2)
theorem toldZ_ok {ss : Sg} {gg : List (List Int)} {pp : List Stp} (h : (toldZ ss gg pp).2 = 0) :
    givOk ss gg = true ∧ proofOk (gg.length : Int) pp = true ∧ sayTo ss gg pp pp.length ∧ (toldZ ss gg pp).1 = sayL ss gg pp pp.length := by
  unfold toldZ at h ⊢
  split at h
  · simp at h
  · rename_i h1
    rw [if_neg h1]
    split at h
    · rename_i h0
      rw [if_pos h0]
      obtain ⟨q1, q2, q3, _⟩ := runZ_ok h0
      refine ⟨q1, q2, fun j hj => ?_, q3⟩
      have h2 := h0
      unfold runZ at h2
      rw [if_pos (by rw [q1, q2]; rfl)] at h2
      exact runF_says pp.length 0 h2 j (Nat.zero_le _) (by omega)
    · simp at h
theorem told_good {ss : Sg} {gg : List (List Int)} {pp : List Stp} (h : (toldZ ss gg pp).2 = 0) : ∀ x ∈ (toldZ ss gg pp).1, GoodK ss x ∧ 1 ≤ x.length := by
  obtain ⟨q1, q2, q3, q4⟩ := toldZ_ok h
  obtain ⟨hg0, hl60, hto⟩ := proofOk_to q2
  have hs := (givOk_to q1).1
  intro x hx
  rw [q4] at hx
  obtain ⟨j, hj, rfl⟩ := List.getElem_of_mem hx
  rw [sayL_len] at hj
  have hv := sayL_valid q1 hto pp.length (Nat.le_refl _) q3 j hj
  rw [List.getD_eq_getElem?_getD, List.getElem?_eq_getElem (by rw [sayL_len]; exact hj), Option.getD_some] at hv
  obtain ⟨t1, t2, t3, t4⟩ := valOk_term hv
  have hsl := sigOk_len hs
  exact ⟨⟨t4, t2, fun z hz => by have := t3 z hz; omega⟩, t1⟩
theorem stM_le (L : List (List Int)) {i : Nat} (h : i < L.length) : ∃ a : Nat, stM L i = (a : Int) ∧ a ≤ i ∧ stM L a = (a : Int) := by
  have hx : L.getD i [] ∈ L := by rw [List.getD_eq_getElem?_getD, List.getElem?_eq_getElem h]; exact List.getElem_mem h
  have hl := List.idxOf_lt_length_iff.2 hx
  refine ⟨L.idxOf (L.getD i []), rfl, ?_, ?_⟩
  · have hm : L.getD i [] ∈ L.take (i + 1) := by
      rw [List.getD_eq_getElem?_getD, List.getElem?_eq_getElem h, Option.getD_some]
      exact List.mem_take_iff_getElem.2 ⟨i, by omega, rfl⟩
    have := List.idxOf_lt_length_iff.2 hm
    rw [take_first hm, List.length_take] at this
    omega
  · unfold stM
    congr 2
    rw [List.getD_eq_getElem?_getD, List.getElem?_eq_getElem hl, Option.getD_some, List.getElem_idxOf hl]

theorem mergFn_any (L : List (List Int)) (i n : Nat) (Bx : Nat) (A : Option Addr) (c : Nat) (V : World) (B : Nat) (hi : i < n) (hx : IntsAt V B A n ((List.range n).map (stM L))) (hb : V.cell? ⟨Bx, 0, none⟩ = some (.slice A n c)) :
    Calls Try.prog 46 (#[.int .i64 (i : Int)] ++ #[.pointer (some ⟨Bx, 0, none⟩)]) V fun e w' => e = .returned (.int .i64 (stM L i)) ∧ V = w' := by
  obtain ⟨b, off, rfl, _, hc⟩ := hx.mem (by omega)
  have q1 := hc i (by simp; exact hi)
  simp only [List.getElem_map, List.getElem_range] at q1
  have hi0 : (0 : Int) ≤ (i : Int) := by omega
  have hi1 : (i : Int) < (n : Int) := by omega
  clear hx hc
  show Calls _ _ #[.int .i64 (i : Int), .pointer (some ⟨Bx, 0, none⟩)] _ _
  go_enter Try.func46, Try.ntmps46
  go_wp2_with fail
  go_ret
  exact ⟨rfl, rfl⟩

set_option maxRecDepth 100000 in
set_option maxHeartbeats 2000000 in
theorem merged_any (As Ag A : Option Addr) (ns cs ng cg n c : Nat) (ss : Sg) (lg : List Hd) (gg : List (List Int)) (pp : List Stp) (w : World) (hs : SigAt w w.heap.size As ns ss) (hg : TermsAt w w.heap.size Ag ng lg gg) (hp : StepsAt w w.heap.size A n pp) (hng : ng ≤ 1000000) (hnc : n ≤ c) (hc9 : c ≤ 9223372036854775807) :
    Calls Try.prog 20 #[.slice As ns cs, .slice Ag ng cg, .slice A n c] w (RetSc w (mergZ ss gg pp)) := by
  have CT := Lib.hid (told_any As Ag A ns cs ng cg n c ss lg gg pp w hs hg hp hng)
  have hlp := hp.len
  by_cases h0 : (toldZ ss gg pp).2 = 0
  · obtain ⟨q1, q2, q3, q4⟩ := toldZ_ok h0
    have hgood := told_good h0
    obtain ⟨hg0, hl60, hto⟩ := proofOk_to q2
    have hL : (toldZ ss gg pp).1.length = pp.length := by rw [q4, sayL_len]
    rw [show mergZ ss gg pp = (mergF (toldZ ss gg pp).1 pp, 0) from by unfold mergZ; rw [if_pos h0]]
    unfold RetTo at CT
    rw [h0] at CT
    obtain ⟨L, hLL⟩ : ∃ L, (toldZ ss gg pp).1 = L := ⟨_, rfl⟩
    rw [hLL] at CT hgood hL ⊢
    obtain ⟨M, hM, hMn, hMM⟩ := stM_le L (i := n - 1) (by omega)
    have CS := Lib.hid (fun (V : World) (A2 : Option Addr) (n2 c2 : Nat) (l2 : List Hd) (hT : TermsAt V V.heap.size A2 n2 l2 L) => sfirsts_any A2 n2 c2 ss l2 L V hT (by have := hT.len; omega) hgood)
    have CF := Lib.hid (fun (V : World) (A2 : Option Addr) (n2 c2 Bx : Nat) (hV : Below w.heap.size w V) (hn2 : n2 = n) (hI : IntsAt V V.heap.size A2 n2 ((List.range n2).map (stM L))) (hlt : Bx < V.heap.size) (hb : V.cell? ⟨Bx, 0, none⟩ = some (.slice A2 n2 c2)) =>
      folded_any A n c 46 #[.pointer (some ⟨Bx, 0, none⟩)] (enters_of Try.func46 (by kernel_rfl) rfl) (stM L) M pp V (hp.up hV) (by omega) (by omega)
        hM hnc hc9
        (fun i hi hs y z hx => by
          have hil : i < pp.length := by omega
          rcases step_cases hto hil with ⟨u, e1, _⟩ | ⟨a, d, e1, a1, d1⟩
          · rw [e1] at hx; cases hx
          · rw [e1] at hx
            cases hx
            obtain ⟨a', r1, r2, r3⟩ := stM_le L (i := a) (by omega)
            obtain ⟨d', t1, t2, t3⟩ := stM_le L (i := d) (by omega)
            exact ⟨a, d, a', d', rfl, rfl, by omega, by omega, r1, t1, r3, t3, by omega, by omega⟩)
        (fun U i hU hi => by
          subst hn2
          exact mergFn_any L i n2 Bx A2 c2 U V.heap.size hi (hI.below hU) ((hU.cell (p := ⟨Bx, 0, none⟩) hlt).trans hb)))
    have HLN := Lib.hid (show n = L.length from by omega)
    have HE := Lib.hid (show mergF L pp = foldL pp (stM L) (M + 1) from by unfold mergF; rw [← hlp, hM]; rfl)
    clear hs hg hp h0 q1 q2 q3 q4 hgood hg0 hl60 hto hL hLL hM hMn hMM hlp
    go_enter Try.func20, Try.ntmps20
    go_wp2_with (first
      | (go_at_call 43; ((with_reducible refine CT.out.mono ?_); rintro e w2 ⟨A2, n2, c2, l2, rfl, hT2, hB2, _⟩; have HT2 := Lib.hid hT2; have HN2 := Lib.hid (hT2.len.trans HLN.out.symm); have HB2 := Lib.hid hB2; clear hB2 hT2))
      | (go_at_call 44
         (with_reducible refine (CS.out _ A2 n2 c2 l2 HT2.out).mono ?_)
         rintro e w3 ⟨A3, c3, rfl, hI3, hB3⟩
         have HI3 := Lib.hid hI3
         have HB3 := Lib.hid (below_then HB2.out hB3)
         clear hI3 hB3)
      | (go_at_call 45
         have hB4 : Below w.heap.size w (w3.alloc (.cells #[.slice A3 n2 c3] 24)) := bel_al HB3.out _
         (with_reducible refine (CF.out _ A3 n2 c3 w3.heap.size hB4 HN2.out (HI3.out.up (bel_al0 _ _)) (by simp) (cell_new0 _ _ _)).mono ?_)
         rintro e w4 ⟨A4, n4, c4, rfl, hS4, hn4, hc4, hB5⟩
         have HS4 := Lib.hid hS4
         have HN4 := Lib.hid hn4
         have HC4 := Lib.hid hc4
         have HB4 := Lib.hid (below_then hB4 hB5)
         clear hB4 hB5 hS4 hn4 hc4))
    go_ret2
    exact ⟨A4, n4, c4, rfl, by rw [HE.out]; exact HS4.out, HN4.out, HC4.out, HB4.out⟩
  · rw [show mergZ ss gg pp = ([], (toldZ ss gg pp).2) from by unfold mergZ; rw [if_neg h0]]
    unfold RetTo at CT
    obtain ⟨er, her⟩ : ∃ er, (toldZ ss gg pp).2 = er := ⟨_, rfl⟩
    rw [her] at CT h0 ⊢
    have h0b : (er != 0) = true := by simpa using h0
    clear hs hg hp hlp her
    go_enter Try.func20, Try.ntmps20
    go_wp2_with (go_at_call 43; ((with_reducible refine CT.out.mono ?_); rintro e w2 ⟨A2, n2, c2, l2, rfl, hT2, hB2, _⟩; have HB2 := Lib.hid hB2; clear hB2 hT2))
    go_ret2
    exact ⟨none, 0, 0, rfl, StepsAt.nil _ _ _, by omega, by omega, HB2.out⟩

end Go.Proofs.Ytojofbmpknpggaa
