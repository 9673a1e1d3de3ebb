/- Contract: ValidBinds. -/
import Derived.Test.YtpdokmdapjdnoaaB1g
import Derived.Test.YtpdokmdapjdnoaaV1g
import Derived.Test.YtpdokmdapjdnoaaQ5g
import Derived.Deep.RegionHeld3
import Derived.Deep.RegionHeldLaw
import Derived.Deep.CutRange
import Derived.BigQuiet
/- Words for binds in memory; contracts: valid, variable, isVariable, comes. -/
namespace Go.Proofs.Ytpdokmdapjdnoaa
open Go.RowKit

/-- A bind: the variable and the term. -/
abbrev Bd := Int × List Int
/-- The slice value '.slice A n c' reads as the binds bb; the headers of their terms are ls. -/
structure BindsAt (w : World) (B : Nat) (A : Option Addr) (n : Nat) (ls : List Hd) (bb : List Bd) : Prop where
  len : n = bb.length
  ll : n = ls.length
  max : n ≤ 9223372036854775807
  mem : 0 < n → ∃ b off, A = some ⟨b, off, none⟩ ∧ b < B ∧ ∀ j (h : j < bb.length) (h' : j < ls.length), w.cell? ⟨b, off + j * 2, none⟩ = some (.int .i64 bb[j].1) ∧ w.cell? ⟨b, off + j * 2 + 1, none⟩ = some (.slice ls[j].1 ls[j].2.1 ls[j].2.2)
  each : ∀ j (h : j < ls.length) (h' : j < bb.length), IntsAt w B ls[j].1 ls[j].2.1 bb[j].2
section
variable {w w' : World} {B B' n : Nat} {A : Option Addr} {ls : List Hd} {bb : List Bd}
theorem BindsAt.keep (h : BindsAt w B A n ls bb) (hk : ∀ p : Addr, p.block < B → w'.cell? p = w.cell? p) : BindsAt w' B A n ls bb :=
  ⟨h.len, h.ll, h.max, fun hn => by
    obtain ⟨b, off, e, hb, hc⟩ := h.mem hn
    exact ⟨b, off, e, hb, fun j x y => ⟨(hk _ hb).trans (hc j x y).1, (hk _ hb).trans (hc j x y).2⟩⟩, fun j x y => (h.each j x y).keep hk⟩
theorem BindsAt.more (h : BindsAt w B A n ls bb) (hB : B ≤ B') : BindsAt w B' A n ls bb :=
  ⟨h.len, h.ll, h.max, fun hn => by
    obtain ⟨b, off, e, hb, hc⟩ := h.mem hn
    exact ⟨b, off, e, by omega, hc⟩, fun j x y => (h.each j x y).more hB⟩
theorem BindsAt.below (h : BindsAt w B A n ls bb) (hb : Below B w w') : BindsAt w' B A n ls bb := h.keep fun _ hp => hb.cell hp
theorem BindsAt.up (h : BindsAt w w.heap.size A n ls bb) (hb : Below w.heap.size w w') : BindsAt w' w'.heap.size A n ls bb := (h.below hb).more hb.size
theorem BindsAt.cellAt (h : BindsAt w B A n ls bb) {k : Nat} (hk : k < n) :
    ∃ b off v t A' n' c', A = some ⟨b, off, none⟩ ∧ b < B ∧ w.cell? ⟨b, off + k * 2, none⟩ = some (.int .i64 v) ∧ w.cell? ⟨b, off + k * 2 + 1, none⟩ = some (.slice A' n' c') ∧ bb[k]? = some (v, t) ∧ ls[k]? = some (A', n', c') ∧ IntsAt w B A' n' t := by
  obtain ⟨b, off, e, hb, hc⟩ := h.mem (by omega)
  have h1 : k < bb.length := by rw [← h.len]; exact hk
  have h2 : k < ls.length := by rw [← h.ll]; exact hk
  obtain ⟨c1, c2⟩ := hc k h1 h2
  exact ⟨b, off, bb[k].1, bb[k].2, ls[k].1, ls[k].2.1, ls[k].2.2, e, hb, c1, c2, List.getElem?_eq_getElem h1, List.getElem?_eq_getElem h2, h.each k h2 h1⟩
end

def valTo (ss : Sg) (tt : List (List Int)) (k : Nat) : Prop := (tt.take k).all (valOk ss) = true
theorem valTo_zero (ss : Sg) (tt : List (List Int)) : valTo ss tt 0 := rfl
theorem valTo_succ {ss : Sg} {tt : List (List Int)} {k : Nat} {t : List Int} (h : valTo ss tt k) (ht : tt[k]? = some t) (e : valOk ss t = true) : valTo ss tt (k + 1) := by
  obtain ⟨hk, rfl⟩ := List.getElem?_eq_some_iff.1 ht
  unfold valTo at h ⊢
  rw [List.take_succ_eq_append_getElem hk, List.all_append, h]
  simp [e]
theorem val_bad' {ss : Sg} {tt : List (List Int)} {k : Nat} {t : List Int} (ht : tt[k]? = some t) (e : valOk ss t = false) : tt.all (valOk ss) = false := by
  rw [List.all_eq_false]
  exact ⟨t, List.mem_of_getElem? ht, by simp [e]⟩
theorem valTo_all {ss : Sg} {tt : List (List Int)} {k : Nat} (h : valTo ss tt k) (hk : tt.length ≤ k) : tt.all (valOk ss) = true := by
  unfold valTo at h
  rwa [List.take_of_length_le hk] at h

set_option maxRecDepth 100000 in
set_option maxHeartbeats 1000000 in
theorem uvalid_any (As At : Option Addr) (ns cs n c : Nat) (ss : Sg) (ls : List Hd) (tt : List (List Int)) (w : World) (hs : SigAt w w.heap.size As ns ss) (ht : TermsAt w w.heap.size At n ls tt) (hn : n ≤ 1000000) :
    Calls Try.prog 64 #[.slice As ns cs, .slice At n c] w fun e w' => e = .returned (.bool (tt.all (valOk ss) && sigOk ss)) ∧ Below w.heap.size w w' := by
  have HT := Lib.hid ht
  have HLT := Lib.hid ht.len
  have CV := Lib.hid (fun V (hb : Below w.heap.size w V) A' n' c' t (hI : IntsAt V V.heap.size A' n' t) => valid_any As A' ns cs n' c' ss t V (hs.up hb) hI)
  have CS := Lib.hid (fun V (hb : Below w.heap.size w V) => validSign_any As ns cs ss V (hs.up hb))
  obtain ⟨R, hR⟩ : ∃ R, tt.all (valOk ss) = R := ⟨_, rfl⟩
  rw [hR]
  have HR := Lib.hid hR
  clear ht hs hR
  go_enter Try.func64, Try.ntmps64
  go_wp2
  go_loopw [9] (fun i wr => ∃ k : Nat, k ≤ n ∧ i = .int .i64 k ∧ valTo ss tt k ∧ Below w.heap.size w wr) (fun i _ => n - (intOf i).toNat)
  case atStart => exact ⟨0, Nat.zero_le _, rfl, valTo_zero _ _, Below.refl _ _⟩
  case round =>
    obtain ⟨k, hk, rfl, hok, hB⟩ := hrel
    have HB := Lib.hid hB
    by_cases hlt : k < n
    · obtain ⟨b, off, A', n', c', t, rfl, hb, q1, q2, hI⟩ := HT.out.cellAt hlt
      have q3 := (hB.cell (p := ⟨b, off + k, none⟩) hb).trans q1
      have hk0 : (0 : Int) ≤ (k : Int) := by omega
      have hk1 : (k : Int) < (n : Int) := by omega
      have C := Lib.hid (fun c'' => CV.out wr hB A' n' c'' t ((hI.below hB).more hB.size))
      cases hto : valOk ss t
      · have H := Lib.hid (show R = false by rw [← HR.out]; exact val_bad' q2 hto)
        rw [hto] at C
        clear q1 q2 hI hto hok hB
        go_wp2_with (go_at_call 79; refine (C.out _).mono ?_; rintro e w3 ⟨rfl, hB3⟩; have HB3 := Lib.hid (below_then HB.out hB3); clear hB3)
        go_ret
        exact ⟨ret_b (by rw [H.out]; rfl), HB3.out⟩
      · have H := Lib.hid (valTo_succ hok q2 hto)
        rw [hto] at C
        clear q1 q2 hI hto hok hB
        go_wp2_with (go_at_call 79; refine (C.out _).mono ?_; rintro e w3 ⟨rfl, hB3⟩; have HB3 := Lib.hid (below_then HB.out hB3); clear hB3)
        go_roundw
        case rel => exact ⟨k + 1, by omega, by go_num, H.out, HB3.out⟩
        case measure => simp [intOf]; omega
    · obtain rfl : k = n := by omega
      have H := Lib.hid (show R = true by rw [← HR.out]; exact valTo_all hok (by rw [← HLT.out]; exact Nat.le_refl _))
      have C := Lib.hid (CS.out wr hB)
      obtain ⟨sb, hsb⟩ : ∃ sb, sigOk ss = sb := ⟨_, rfl⟩
      rw [hsb] at C
      have HSB := Lib.hid hsb
      clear hok hB hsb
      go_wp2_with (go_at_call 93; refine C.out.mono ?_; rintro e w3 ⟨rfl, hB3⟩; have HB3 := Lib.hid (below_then HB.out hB3); clear hB3)
      go_ret
      exact ⟨ret_b (by rw [H.out, HSB.out]; rfl), HB3.out⟩

set_option maxHeartbeats 400000 in
theorem variable_any (v : Int) (w : World) (h1 : -1000000 ≤ v) (h2 : v ≤ 1000000) :
    Calls Try.prog 121 #[.int .i64 v] w fun e w' => e = .returned (.slice (some ⟨w.heap.size, 0, none⟩) 1 1) ∧ w' = w.alloc (.cells #[.int .i64 (-v - 1)] 3) := by
  go_enter Try.func121, Try.ntmps121
  go_wp2
  go_ret
  exact ⟨rfl, rfl⟩
theorem ints_var (w : World) (z : Int) : IntsAt (w.alloc (.cells #[.int .i64 z] 3)) (w.alloc (.cells #[.int .i64 z] 3)).heap.size (some ⟨w.heap.size, 0, none⟩) 1 [z] :=
  IntsAt.of_blk (zs := [z]) (Blk.new w _ _) rfl (by simp)

end Go.Proofs.Ytpdokmdapjdnoaa

namespace Go.Proofs.Ytpdokmdapjdnoaa
open Go.RowKit

def bindsTo (ss : Sg) : Int → List Bd → Bool
  | _, [] => sigOk ss
  | p, x :: r => decide (p < x.1) && (decide (x.1 < 12) && (valOk ss x.2 && (!decide (x.2 = [-x.1 - 1]) && bindsTo ss x.1 r)))
def bindsOk (ss : Sg) (bb : List Bd) : Bool := bindsTo ss (-1) bb
/-- What is left to be asked behind k binds, the last of which bound p. -/
def BGoes (ss : Sg) (bb : List Bd) (k : Nat) (p : Int) : Prop := bindsTo ss p (bb.drop k) = bindsOk ss bb
section
variable {ss : Sg} {bb : List Bd} {k : Nat} {p v : Int} {t : List Int}
theorem BGoes.zero (ss : Sg) (bb : List Bd) : BGoes ss bb 0 (-1) := rfl
theorem BGoes.cons (h : BGoes ss bb k p) (hk : bb[k]? = some (v, t)) : bindsOk ss bb = (decide (p < v) && (decide (v < 12) && (valOk ss t && (!decide (t = [-v - 1]) && bindsTo ss v (bb.drop (k + 1)))))) := by
  obtain ⟨hk, e⟩ := List.getElem?_eq_some_iff.1 hk
  unfold BGoes at h
  rw [← h, List.drop_eq_getElem_cons hk, e]
  rfl
theorem BGoes.succ (h : BGoes ss bb k p) (hk : bb[k]? = some (v, t)) (h1 : p < v) (h2 : v < 12) (h3 : valOk ss t = true) (h4 : ¬ t = [-v - 1]) : BGoes ss bb (k + 1) v := by
  rw [BGoes, h.cons hk]
  simp [h1, h2, h3, h4]
theorem BGoes.bad1 (h : BGoes ss bb k p) (hk : bb[k]? = some (v, t)) (h1 : v ≤ p ∨ 12 ≤ v) : bindsOk ss bb = false := by
  rw [h.cons hk]
  rcases h1 with h1 | h1
  · rw [decide_eq_false (by omega : ¬ p < v)]; rfl
  · rw [decide_eq_false (by omega : ¬ v < 12)]; simp
theorem BGoes.bad2 (h : BGoes ss bb k p) (hk : bb[k]? = some (v, t)) (h1 : valOk ss t = false) : bindsOk ss bb = false := by
  rw [h.cons hk, h1]; simp
theorem BGoes.bad3 (h : BGoes ss bb k p) (hk : bb[k]? = some (v, t)) (h1 : t = [-v - 1]) : bindsOk ss bb = false := by
  rw [h.cons hk, decide_eq_true h1]; simp
theorem BGoes.good (h : BGoes ss bb k p) (hk : bb.length ≤ k) : bindsOk ss bb = sigOk ss := by
  rw [← h, List.drop_of_length_le hk]; rfl
end

theorem bel_al {w w' : World} (h : Below w.heap.size w w') (o : Obj) : Below w.heap.size w (w'.alloc o) := h.alloc h.size o
theorem terms_nil (w : World) (B : Nat) : TermsAt w B none 0 [] [] := ⟨⟨rfl, by omega, fun h => absurd h (by omega)⟩, rfl, fun j hj => by simp at hj⟩
theorem terms_one {V : World} {g : Nat} {A : Option Addr} {n c : Nat} {t : List Int} (hk : Blk V g 25 #[.slice A n c]) (hI : IntsAt V V.heap.size A n t) : TermsAt V V.heap.size (some ⟨g, 0, none⟩) 1 [(A, n, c)] [t] := by
  refine ⟨⟨rfl, by omega, fun _ => ⟨g, 0, rfl, hk.lt, fun j hj => ?_⟩⟩, rfl, fun j a b => ?_⟩
  · obtain rfl : j = 0 := by simpa using hj
    simpa using hk.cell 0
  · obtain rfl : j = 0 := by simpa using a
    exact hI
theorem blk_new1 (w : World) (o : Obj) (T : TypeId) (cs : Array Value) : Blk ((w.alloc o).alloc (.cells cs T)).drew (w.heap.size + 1) T cs := by
  have := Blk.new (w.alloc o) T cs
  rw [World.size_alloc] at this
  exact this

set_option maxRecDepth 100000 in
set_option maxHeartbeats 2000000 in
theorem validBinds_any (As Ab : Option Addr) (ns cs n c : Nat) (ss : Sg) (ls : List Hd) (bb : List Bd) (w : World) (hs : SigAt w w.heap.size As ns ss) (hb : BindsAt w w.heap.size Ab n ls bb) (hn : n ≤ 1000000) :
    Calls Try.prog 69 #[.slice As ns cs, .slice Ab n c] w fun e w' => e = .returned (.bool (bindsOk ss bb)) ∧ Below w.heap.size w w' := by
  have HT := Lib.hid hb
  have HLT := Lib.hid hb.len
  have HS := Lib.hid hs
  obtain ⟨R, hR⟩ : ∃ R, bindsOk ss bb = R := ⟨_, rfl⟩
  rw [hR]
  have HR := Lib.hid hR
  clear hb hs hR
  go_enter Try.func69, Try.ntmps69
  go_wp2
  go_loopw [5, 10] (fun a i wr => ∃ (k : Nat) (p : Int), k ≤ n ∧ i = .int .i64 k ∧ a = .int .i64 p ∧ -1 ≤ p ∧ BGoes ss bb k p ∧ Below w.heap.size w wr) (fun _ i _ => n - (intOf i).toNat)
  case atStart => exact ⟨0, -1, Nat.zero_le _, rfl, rfl, by omega, BGoes.zero _ _, Below.refl _ _⟩
  case round =>
    obtain ⟨k, p, hk, rfl, rfl, hp, hg, hB⟩ := hrel
    have HB := Lib.hid hB
    by_cases hlt : k < n
    · obtain ⟨b, off, v, t, A', n', c', rfl, hb, q1, q2, e1, e2, hI⟩ := HT.out.cellAt hlt
      have r1 := (hB.cell (p := ⟨b, off + k * 2, none⟩) hb).trans q1
      have r2 := (hB.cell (p := ⟨b, off + k * 2 + 1, none⟩) hb).trans q2
      have hk0 : (0 : Int) ≤ (k : Int) := by omega
      have hk1 : (k : Int) < (n : Int) := by omega
      by_cases hv1 : v ≤ p
      · have H := Lib.hid (show R = false by rw [← HR.out]; exact hg.bad1 e1 (.inl hv1))
        clear hg hB hI q1 q2 e1 e2
        go_wp2
        go_ret
        exact ⟨ret_b (by rw [H.out]), HB.out.alloc HB.out.size _⟩
      · by_cases hv2 : 12 ≤ v
        · have H := Lib.hid (show R = false by rw [← HR.out]; exact hg.bad1 e1 (.inr hv2))
          clear hg hB hI q1 q2 e1 e2
          go_wp2
          go_ret
          exact ⟨ret_b (by rw [H.out]), HB.out.alloc HB.out.size _⟩
        · have hv3 : p < v := by omega
          have hv4 : v < 12 := by omega
          have hv5 : 0 ≤ v := by omega
          have hI1 := hI.up hB
          have CVAL := Lib.hid (fun (V : World) (g : Nat) (hb' : Below wr.heap.size wr V) (hk' : Blk V g 25 #[.slice A' n' c']) =>
            uvalid_any As (some ⟨g, 0, none⟩) ns cs 1 1 ss [(A', n', c')] [t] V (HS.out.up (HB.out.trans (hb'.mono HB.out.size))) (terms_one hk' (hI1.up hb')) (by omega))
          have CEQ := Lib.hid (fun (V : World) (A2 : Option Addr) (hb' : Below wr.heap.size wr V) (hv' : IntsAt V V.heap.size A2 1 [-v - 1]) =>
            eqT_any A' A2 n' c' 1 1 t [-v - 1] V _ (hI1.up hb') hv')
          have HB0 : Below wr.heap.size wr (wr.alloc (.cells #[.int .i64 v, .slice A' n' c'] 92)) := bel_al (Below.refl _ wr) _
          have HCELL : Hid (∀ V : World, Below (wr.alloc (.cells #[.int .i64 v, .slice A' n' c'] 92)).heap.size (wr.alloc (.cells #[.int .i64 v, .slice A' n' c'] 92)) V → V.cell? ⟨wr.heap.size, 0, none⟩ = some (.int .i64 v) ∧ V.cell? ⟨wr.heap.size, 1, none⟩ = some (.slice A' n' c')) := by
            refine Lib.hid fun V hV => ?_
            have k0 := (Blk.new wr 92 #[.int .i64 v, .slice A' n' c']).below hV (by simp)
            exact ⟨by simpa using k0.cell 0, by simpa using k0.cell 1⟩
          cases hvt : valOk ss t
          · have H := Lib.hid (show R = false by rw [← HR.out]; exact hg.bad2 e1 hvt)
            have HV : ([t].all (valOk ss) && sigOk ss) = false := by simp [hvt]
            simp only [HV] at CVAL
            clear hg hB hI q1 q2 e1 e2 hI1 hvt HV
            have HB1 := Lib.hid ((bel_al HB0 (.cells #[.slice A' n' c'] 25)).drew)
            go_upto_region 7 with fail
            go_cut [36] from 11 to 39 (fun s36 wx => s36 = .bool true ∧ Below wr.heap.size wr wx)
            case first =>
              obtain ⟨c0, c1⟩ := HCELL.out _ (Below.refl _ _)
              refine wp_region_held_drew (S := (fun w' => w'.cell? ⟨wr.heap.size, 0, none⟩ = some (.int .i64 v) ∧ w'.cell? ⟨wr.heap.size, 1, none⟩ = some (.slice A' n' c'))) (by kernel_rfl) ?_ (fun hHeld => ?_)
              · first | assumption | exact ⟨c0, c1⟩ | exact ⟨d0, d1⟩ | exact ⟨d2, d3⟩ | exact ⟨d4, d5⟩ | go_keep
              refine wpAnyH_take (i := 0) (v := ?_) rfl (by kernel_rfl) (by kernel_rfl) (by kernel_rfl) (fun _ _ _ h => h) (Or.inl ⟨by rfl, ?_⟩) (by assumption) ?_
              rotate_left
              · intro w hSw; (try dsimp only at hSw); go_simp <;> with_reducible rfl
              try simp only [List.getElem_toArray, List.getElem_cons_zero, Act.put, List.setIfInBounds_toArray, List.set_cons_zero, List.set_cons_succ]
              refine wpAnyH_take (i := 1) (v := ?_) rfl (by kernel_rfl) (by kernel_rfl) (by kernel_rfl) (fun _ _ _ h => h) (Or.inl ⟨by rfl, ?_⟩) (by assumption) ?_
              rotate_left
              · intro w hSw; (try dsimp only at hSw); go_simp <;> with_reducible rfl
              try simp only [List.getElem_toArray, List.getElem_cons_succ, List.getElem_cons_zero, Act.put, List.setIfInBounds_toArray, List.set_cons_zero, List.set_cons_succ]
              refine wpAnyH_take (i := 2) (v := ?_) rfl (by kernel_rfl) (by kernel_rfl) (by kernel_rfl) (fun _ _ _ h => h) (Or.inl ⟨by rfl, ?_⟩) (by assumption) ?_
              rotate_left
              · intro w hSw; (try dsimp only at hSw); go_simp <;> with_reducible rfl
              try simp only [List.getElem_toArray, List.getElem_cons_succ, List.getElem_cons_zero, Act.put, List.setIfInBounds_toArray, List.set_cons_zero, List.set_cons_succ]
              refine wpAnyH_ready (rs := [3]) (by kernel_rfl) (by simp) (AllReadyH.cons rfl (fun K hK => ?_) AllReadyH.nil)
              go_simp
              skip
              try go_wp2_with fail
              refine hK.out _ _ ?_ (fun hHeld => ?_)
              · first | assumption | exact ⟨c0, c1⟩ | exact ⟨d0, d1⟩ | exact ⟨d2, d3⟩ | exact ⟨d4, d5⟩ | go_keep
              clear hK K
              try simp only [List.getElem_toArray, List.getElem_cons_succ, List.getElem_cons_zero, Act.put, List.setIfInBounds_toArray, List.set_cons_zero, List.set_cons_succ]
              refine wpAnyH_ready (rs := [4]) (by kernel_rfl) (by simp) (AllReadyH.cons rfl (fun K hK => ?_) AllReadyH.nil)
              go_simp
              (go_at_call 64; ((with_reducible refine (CVAL.out _ _ HB1.out (blk_new1 _ _ _ _)).mono ?_); rintro e V1 ⟨rfl, hB1⟩); have hBA := below_then (bel_al (Below.refl _ _) _).drew hB1; have hBB := below_then HB1.out hB1; obtain ⟨d0, d1⟩ := HCELL.out V1 hBA; clear hB1 hBA)
              try go_wp2_with fail
              refine hK.out _ _ ?_ (fun hHeld => ?_)
              · first | assumption | exact ⟨c0, c1⟩ | exact ⟨d0, d1⟩ | exact ⟨d2, d3⟩ | exact ⟨d4, d5⟩ | go_keep
              clear hK K
              try simp only [List.getElem_toArray, List.getElem_cons_succ, List.getElem_cons_zero, Act.put, List.setIfInBounds_toArray, List.set_cons_zero, List.set_cons_succ]
              refine wpAnyH_take (i := 5) (v := ?_) rfl (by kernel_rfl) (by kernel_rfl) (by kernel_rfl) (fun _ _ _ h => h) (Or.inl ⟨by rfl, ?_⟩) (by assumption) ?_
              rotate_left
              · intro w hSw; (try dsimp only at hSw); go_simp <;> with_reducible rfl
              try simp only [List.getElem_toArray, List.getElem_cons_succ, List.getElem_cons_zero, Act.put, List.setIfInBounds_toArray, List.set_cons_zero, List.set_cons_succ]
              refine wpAnyH_take (i := 6) (v := ?_) rfl (by kernel_rfl) (by kernel_rfl) (by kernel_rfl) (fun _ _ _ h => h) (Or.inl ⟨by rfl, ?_⟩) (by assumption) ?_
              rotate_left
              · intro w hSw; (try dsimp only at hSw); go_simp <;> with_reducible rfl
              try simp only [List.getElem_toArray, List.getElem_cons_succ, List.getElem_cons_zero, Act.put, List.setIfInBounds_toArray, List.set_cons_zero, List.set_cons_succ]
              refine wpAnyH_take (i := 7) rfl (by kernel_rfl) (by kernel_rfl) (by kernel_rfl) (fun _ _ _ h => h) (Or.inr ⟨by rfl, rfl⟩) (by assumption) ?_
              simp only [List.getElem_toArray, List.getElem_cons_succ, List.getElem_cons_zero, Act.put, List.setIfInBounds_toArray, List.set_cons_zero, List.set_cons_succ]
              refine wpAnyH_take (i := 8) rfl (by kernel_rfl) (by kernel_rfl) (by kernel_rfl) (fun _ _ _ h => h) (Or.inr ⟨by rfl, rfl⟩) (by assumption) ?_
              simp only [List.getElem_toArray, List.getElem_cons_succ, List.getElem_cons_zero, Act.put, List.setIfInBounds_toArray, List.set_cons_zero, List.set_cons_succ]
              refine wpAnyH_take (i := 9) rfl (by kernel_rfl) (by kernel_rfl) (by kernel_rfl) (fun _ _ _ h => h) (Or.inr ⟨by rfl, rfl⟩) (by assumption) ?_
              simp only [List.getElem_toArray, List.getElem_cons_succ, List.getElem_cons_zero, Act.put, List.setIfInBounds_toArray, List.set_cons_zero, List.set_cons_succ]
              refine wpAnyH_take (i := 10) rfl (by kernel_rfl) (by kernel_rfl) (by kernel_rfl) (fun _ _ _ h => h) (Or.inr ⟨by rfl, rfl⟩) (by assumption) ?_
              simp only [List.getElem_toArray, List.getElem_cons_succ, List.getElem_cons_zero, Act.put, List.setIfInBounds_toArray, List.set_cons_zero, List.set_cons_succ]
              refine wpAnyH_take (i := 11) rfl (by kernel_rfl) (by kernel_rfl) (by kernel_rfl) (fun _ _ _ h => h) (Or.inr ⟨by rfl, rfl⟩) (by assumption) ?_
              simp only [List.getElem_toArray, List.getElem_cons_succ, List.getElem_cons_zero, Act.put, List.setIfInBounds_toArray, List.set_cons_zero, List.set_cons_succ]
              refine wpAnyH_take (i := 12) rfl (by kernel_rfl) (by kernel_rfl) (by kernel_rfl) (fun _ _ _ h => h) (Or.inr ⟨by rfl, rfl⟩) (by assumption) ?_
              simp only [List.getElem_toArray, List.getElem_cons_succ, List.getElem_cons_zero, Act.put, List.setIfInBounds_toArray, List.set_cons_zero, List.set_cons_succ]
              refine wpAnyH_take (i := 13) (v := ?_) rfl (by kernel_rfl) (by kernel_rfl) (by kernel_rfl) (fun _ _ _ h => h) (Or.inl ⟨by rfl, ?_⟩) (by assumption) ?_
              rotate_left
              · intro w hSw; (try dsimp only at hSw); go_simp <;> with_reducible rfl
              try simp only [List.getElem_toArray, List.getElem_cons_succ, List.getElem_cons_zero, Act.put, List.setIfInBounds_toArray, List.set_cons_zero, List.set_cons_succ]
              refine wpAnyH_done (by kernel_rfl) ?_ _
              go_wp2_with fail
              go_meet
              exact ⟨rfl, hBB⟩
            case rest =>
              obtain ⟨rfl, hBB⟩ := hcut
              have HBB := Lib.hid (below_then HB.out hBB)
              clear hBB
              go_wp2
              go_ret
              exact ⟨ret_b (by rw [H.out]), HBB.out⟩
          · obtain ⟨q, hq⟩ : ∃ q, decide (t = [-v - 1]) = q := ⟨_, rfl⟩
            have HV : ([t].all (valOk ss) && sigOk ss) = true := by simp [hvt, valOk_sig hvt]
            simp only [HV] at CVAL
            rw [hq] at CEQ
            have HH : Hid ((q = true → R = false) ∧ (q = false → BGoes ss bb (k + 1) v)) := ⟨fun e => by rw [← HR.out]; exact hg.bad3 e1 (by rw [e] at hq; exact of_decide_eq_true hq), fun e => hg.succ e1 hv3 hv4 hvt (by rw [e] at hq; exact of_decide_eq_false hq)⟩
            have CVAR := Lib.hid (fun V => variable_any v V (by omega) (by omega))
            clear hg hB hI q1 q2 e1 e2 hI1 hvt HV hq
            have HB1 := Lib.hid (bel_al HB0 (.cells #[.slice A' n' c'] 25)).drew
            go_upto_region 7 with fail
            go_cut [36] from 11 to 39 (fun s36 wx => s36 = .bool q ∧ Below wr.heap.size wr wx ∧ wx.cell? ⟨wr.heap.size, 0, none⟩ = some (.int .i64 v))
            case first =>
              obtain ⟨c0, c1⟩ := HCELL.out _ (Below.refl _ _)
              refine wp_region_held_drew (S := (fun w' => w'.cell? ⟨wr.heap.size, 0, none⟩ = some (.int .i64 v) ∧ w'.cell? ⟨wr.heap.size, 1, none⟩ = some (.slice A' n' c'))) (by kernel_rfl) ?_ (fun hHeld => ?_)
              · first | assumption | exact ⟨c0, c1⟩ | exact ⟨d0, d1⟩ | exact ⟨d2, d3⟩ | exact ⟨d4, d5⟩ | go_keep
              refine wpAnyH_take (i := 0) (v := ?_) rfl (by kernel_rfl) (by kernel_rfl) (by kernel_rfl) (fun _ _ _ h => h) (Or.inl ⟨by rfl, ?_⟩) (by assumption) ?_
              rotate_left
              · intro w hSw; (try dsimp only at hSw); go_simp <;> with_reducible rfl
              try simp only [List.getElem_toArray, List.getElem_cons_zero, Act.put, List.setIfInBounds_toArray, List.set_cons_zero, List.set_cons_succ]
              refine wpAnyH_take (i := 1) (v := ?_) rfl (by kernel_rfl) (by kernel_rfl) (by kernel_rfl) (fun _ _ _ h => h) (Or.inl ⟨by rfl, ?_⟩) (by assumption) ?_
              rotate_left
              · intro w hSw; (try dsimp only at hSw); go_simp <;> with_reducible rfl
              try simp only [List.getElem_toArray, List.getElem_cons_succ, List.getElem_cons_zero, Act.put, List.setIfInBounds_toArray, List.set_cons_zero, List.set_cons_succ]
              refine wpAnyH_take (i := 2) (v := ?_) rfl (by kernel_rfl) (by kernel_rfl) (by kernel_rfl) (fun _ _ _ h => h) (Or.inl ⟨by rfl, ?_⟩) (by assumption) ?_
              rotate_left
              · intro w hSw; (try dsimp only at hSw); go_simp <;> with_reducible rfl
              try simp only [List.getElem_toArray, List.getElem_cons_succ, List.getElem_cons_zero, Act.put, List.setIfInBounds_toArray, List.set_cons_zero, List.set_cons_succ]
              refine wpAnyH_ready (rs := [3]) (by kernel_rfl) (by simp) (AllReadyH.cons rfl (fun K hK => ?_) AllReadyH.nil)
              go_simp
              skip
              try go_wp2_with fail
              refine hK.out _ _ ?_ (fun hHeld => ?_)
              · first | assumption | exact ⟨c0, c1⟩ | exact ⟨d0, d1⟩ | exact ⟨d2, d3⟩ | exact ⟨d4, d5⟩ | go_keep
              clear hK K
              try simp only [List.getElem_toArray, List.getElem_cons_succ, List.getElem_cons_zero, Act.put, List.setIfInBounds_toArray, List.set_cons_zero, List.set_cons_succ]
              refine wpAnyH_ready (rs := [4]) (by kernel_rfl) (by simp) (AllReadyH.cons rfl (fun K hK => ?_) AllReadyH.nil)
              go_simp
              (go_at_call 64; ((with_reducible refine (CVAL.out _ _ HB1.out (blk_new1 _ _ _ _)).mono ?_); rintro e V1 ⟨rfl, hB1⟩); have hBA := below_then (bel_al (Below.refl _ _) _).drew hB1; have hBB := below_then HB1.out hB1; obtain ⟨d0, d1⟩ := HCELL.out V1 hBA; have hBA1 := hBA; have hBB1 := hBB; clear hB1)
              try go_wp2_with fail
              refine hK.out _ _ ?_ (fun hHeld => ?_)
              · first | assumption | exact ⟨c0, c1⟩ | exact ⟨d0, d1⟩ | exact ⟨d2, d3⟩ | exact ⟨d4, d5⟩ | go_keep
              clear hK K
              try simp only [List.getElem_toArray, List.getElem_cons_succ, List.getElem_cons_zero, Act.put, List.setIfInBounds_toArray, List.set_cons_zero, List.set_cons_succ]
              refine wpAnyH_take (i := 5) (v := ?_) rfl (by kernel_rfl) (by kernel_rfl) (by kernel_rfl) (fun _ _ _ h => h) (Or.inl ⟨by rfl, ?_⟩) (by assumption) ?_
              rotate_left
              · intro w hSw; (try dsimp only at hSw); go_simp <;> with_reducible rfl
              try simp only [List.getElem_toArray, List.getElem_cons_succ, List.getElem_cons_zero, Act.put, List.setIfInBounds_toArray, List.set_cons_zero, List.set_cons_succ]
              refine wpAnyH_take (i := 6) (v := ?_) rfl (by kernel_rfl) (by kernel_rfl) (by kernel_rfl) (fun _ _ _ h => h) (Or.inl ⟨by rfl, ?_⟩) (by assumption) ?_
              rotate_left
              · intro w hSw; (try dsimp only at hSw); go_simp <;> with_reducible rfl
              try simp only [List.getElem_toArray, List.getElem_cons_succ, List.getElem_cons_zero, Act.put, List.setIfInBounds_toArray, List.set_cons_zero, List.set_cons_succ]
              refine wpAnyH_take (i := 7) (v := ?_) rfl (by kernel_rfl) (by kernel_rfl) (by kernel_rfl) (fun _ _ _ h => h) (Or.inl ⟨by rfl, ?_⟩) (by assumption) ?_
              rotate_left
              · intro w hSw; (try dsimp only at hSw); go_simp <;> with_reducible rfl
              try simp only [List.getElem_toArray, List.getElem_cons_succ, List.getElem_cons_zero, Act.put, List.setIfInBounds_toArray, List.set_cons_zero, List.set_cons_succ]
              refine wpAnyH_take (i := 8) (v := ?_) rfl (by kernel_rfl) (by kernel_rfl) (by kernel_rfl) (fun _ _ _ h => h) (Or.inl ⟨by rfl, ?_⟩) (by assumption) ?_
              rotate_left
              · intro w hSw; (try dsimp only at hSw); go_simp <;> with_reducible rfl
              try simp only [List.getElem_toArray, List.getElem_cons_succ, List.getElem_cons_zero, Act.put, List.setIfInBounds_toArray, List.set_cons_zero, List.set_cons_succ]
              refine wpAnyH_take (i := 9) (v := ?_) rfl (by kernel_rfl) (by kernel_rfl) (by kernel_rfl) (fun _ _ _ h => h) (Or.inl ⟨by rfl, ?_⟩) (by assumption) ?_
              rotate_left
              · intro w hSw; (try dsimp only at hSw); go_simp <;> with_reducible rfl
              try simp only [List.getElem_toArray, List.getElem_cons_succ, List.getElem_cons_zero, Act.put, List.setIfInBounds_toArray, List.set_cons_zero, List.set_cons_succ]
              refine wpAnyH_take (i := 10) (v := ?_) rfl (by kernel_rfl) (by kernel_rfl) (by kernel_rfl) (fun _ _ _ h => h) (Or.inl ⟨by rfl, ?_⟩) (by assumption) ?_
              rotate_left
              · intro w hSw; (try dsimp only at hSw); go_simp <;> with_reducible rfl
              try simp only [List.getElem_toArray, List.getElem_cons_succ, List.getElem_cons_zero, Act.put, List.setIfInBounds_toArray, List.set_cons_zero, List.set_cons_succ]
              refine wpAnyH_ready (rs := [11]) (by kernel_rfl) (by simp) (AllReadyH.cons rfl (fun K hK => ?_) AllReadyH.nil)
              go_simp
              (go_at_call 121; ((with_reducible refine (CVAR.out _).mono ?_); rintro e V2 ⟨rfl, rfl⟩); have hBA2 := bel_al hBA1 (.cells #[.int .i64 (-v - 1)] 3); have hBB2 := bel_al hBB1 (.cells #[.int .i64 (-v - 1)] 3); obtain ⟨d2, d3⟩ := HCELL.out _ hBA2)
              try go_wp2_with fail
              refine hK.out _ _ ?_ (fun hHeld => ?_)
              · first | assumption | exact ⟨c0, c1⟩ | exact ⟨d0, d1⟩ | exact ⟨d2, d3⟩ | exact ⟨d4, d5⟩ | go_keep
              clear hK K
              try simp only [List.getElem_toArray, List.getElem_cons_succ, List.getElem_cons_zero, Act.put, List.setIfInBounds_toArray, List.set_cons_zero, List.set_cons_succ]
              refine wpAnyH_ready (rs := [12]) (by kernel_rfl) (by simp) (AllReadyH.cons rfl (fun K hK => ?_) AllReadyH.nil)
              go_simp
              (go_at_call 71; ((with_reducible refine (CEQ.out _ _ hBB2 (ints_var _ _)).mono ?_); rintro e V3 ⟨rfl, j3, rfl⟩); have hBB3 := below_drewN hBB2 j3; obtain ⟨d4, d5⟩ := HCELL.out _ (below_drewN hBA2 j3))
              try go_wp2_with fail
              refine hK.out _ _ ?_ (fun hHeld => ?_)
              · first | assumption | exact ⟨c0, c1⟩ | exact ⟨d0, d1⟩ | exact ⟨d2, d3⟩ | exact ⟨d4, d5⟩ | go_keep
              clear hK K
              try simp only [List.getElem_toArray, List.getElem_cons_succ, List.getElem_cons_zero, Act.put, List.setIfInBounds_toArray, List.set_cons_zero, List.set_cons_succ]
              refine wpAnyH_take (i := 13) (v := ?_) rfl (by kernel_rfl) (by kernel_rfl) (by kernel_rfl) (fun _ _ _ h => h) (Or.inl ⟨by rfl, ?_⟩) (by assumption) ?_
              rotate_left
              · intro w hSw; (try dsimp only at hSw); go_simp <;> with_reducible rfl
              try simp only [List.getElem_toArray, List.getElem_cons_succ, List.getElem_cons_zero, Act.put, List.setIfInBounds_toArray, List.set_cons_zero, List.set_cons_succ]
              refine wpAnyH_done (by kernel_rfl) ?_ _
              go_wp2_with fail
              go_meet
              exact ⟨rfl, hBB3, d4⟩
            case rest =>
              obtain ⟨rfl, hBB, c0⟩ := hcut
              have HBB := Lib.hid (below_then HB.out hBB)
              clear hBB
              cases q
              · have H := Lib.hid (HH.out.2 rfl)
                go_wp2
                go_roundw
                case rel => exact ⟨k + 1, v, by omega, by go_num, rfl, by omega, H.out, HBB.out⟩
                case measure => simp [intOf]; omega
              · have H := Lib.hid (HH.out.1 rfl)
                go_wp2
                go_ret
                exact ⟨ret_b (by rw [H.out]), HBB.out⟩
    · obtain rfl : k = n := by omega
      have H := Lib.hid (show R = sigOk ss by rw [← HR.out]; exact hg.good (by rw [← HLT.out]; exact Nat.le_refl _))
      have C := Lib.hid (uvalid_any As none ns cs 0 0 ss [] [] wr (HS.out.up hB) (terms_nil _ _) (by omega))
      have HV : (([] : List (List Int)).all (valOk ss) && sigOk ss) = sigOk ss := by simp
      rw [HV] at C
      obtain ⟨sb, hsb⟩ : ∃ sb, sigOk ss = sb := ⟨_, rfl⟩
      rw [hsb] at C H
      clear hg hB HV hsb
      go_wp2_with (go_at_call 64; refine C.out.mono ?_; rintro e w3 ⟨rfl, hB3⟩; have HB3 := Lib.hid (below_then HB.out hB3); clear hB3)
      go_ret
      exact ⟨ret_b (by rw [H.out]), HB3.out⟩

end Go.Proofs.Ytpdokmdapjdnoaa
