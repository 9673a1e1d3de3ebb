/- Contract: form. -/
import Derived.Test.YtgbfccbnbgbknaaY12g
import Derived.Deep.RegionHeld3
import Derived.Deep.RegionHeldLaw
import Derived.Laws.ResultCell
import Derived.Test.YtgbfccbnbgbknaaR3g
/- Contract: written. -/
namespace Go.Proofs.Ytgbfccbnbgbknaa
open Go.RowKit

def loopW (g : Nat → List Int → Option (Bool × List Int)) : List Nat → List Int → Option (Bool × List Int)
  | [], t => some (true, t)
  | a :: us, t => match g a t with
    | .none => .none
    | some (false, t') => some (false, t')
    | some (true, t') => loopW g us t'
/-- What a node becomes, written behind t; whether it is not too long. -/
def writeF (F : Fd) : Nat → Nat → List Int → Option (Bool × List Int)
  | 0, _, _ => .none
  | m + 1, k, t => match rootS F.prox m k with
    | .none => .none
    | some r => if t.length = 60 then some (false, t)
      else match F.tops[r]?, F.args[r]? with
        | some x, some us => loopW (writeF F m) us (t ++ [x])
        | _, _ => .none
theorem loopW_len {g : Nat → List Int → Option (Bool × List Int)} (hg : ∀ a t b t', g a t = some (b, t') → t.length ≤ 60 → t'.length ≤ 60) : ∀ us t b t', loopW g us t = some (b, t') → t.length ≤ 60 → t'.length ≤ 60
  | [], t, b, t', h, hl => by cases h; exact hl
  | a :: us, t, b, t', h, hl => by
    unfold loopW at h
    cases e : g a t with
    | none => rw [e] at h; cases h
    | some x =>
      obtain ⟨c, t1⟩ := x
      rw [e] at h
      have h1 := hg _ _ _ _ e hl
      cases c
      · cases h; exact h1
      · exact loopW_len hg us t1 b t' h h1
theorem writeF_len {F : Fd} : ∀ m k t b t', writeF F m k t = some (b, t') → t.length ≤ 60 → t'.length ≤ 60
  | 0, k, t, b, t', h, _ => by cases h
  | m + 1, k, t, b, t', h, hl => by
    unfold writeF at h
    cases e : rootS F.prox m k with
    | none => rw [e] at h; cases h
    | some r =>
      rw [e] at h
      simp only at h
      by_cases h6 : t.length = 60
      · rw [if_pos h6] at h; cases h; exact hl
      · rw [if_neg h6] at h
        split at h
        · exact loopW_len (fun a t b t' => writeF_len m a t b t') _ _ _ _ h (by rw [List.length_append, List.length_singleton]; omega)
        · cases h
theorem cell_lt {w : World} {p : Addr} {v : Value} (h : w.cell? p = some v) : p.block < w.heap.size := by
  rcases Nat.lt_or_ge p.block w.heap.size with h1 | h1
  · exact h1
  · unfold World.cell? at h
    rw [Array.getElem?_eq_none h1] at h
    cases h
theorem below_has {w w' : World} {p : Addr} {v : Value} (hb : Below w.heap.size w w') (h : w.cell? p = some v) : w'.cell? p = some v := (hb.cell (cell_lt h)).trans h
/-- The boxes of written, but the one that is written. -/
def K0 (B Bt : Nat) : Nat → Prop := fun b => b < B ∧ b ≠ Bt

set_option maxRecDepth 100000 in
set_option maxHeartbeats 2000000 in
theorem writeC_any (w0 : World) (E : Nat → Prop) (fb : Nat) (S : Value) (F : Fd) (h0 : FAt w0 E fb S F) (hF : F.Ok) (hn1 : F.prox.length ≤ 1000000) (Bf Bt Bn B : Nat) (hBt : w0.heap.size ≤ Bt) (_hB : w0.heap.size ≤ B) (hBtB : Bt < B) (hBf : K0 B Bt Bf) (hBn : K0 B Bt Bn) :
    ∀ (m k : Nat) (t : List Int) (ok : Bool) (t' : List Int) (v : Value) (w : World), writeF F m k t = some (ok, t') → Below w0.heap.size w0 w → w.cell? ⟨Bf, 0, none⟩ = some (.pointer (some ⟨fb, 0, none⟩)) →
      w.cell? ⟨Bn, 0, none⟩ = some (.func (.func 238) #[] #[.pointer (some ⟨Bf, 0, none⟩), .pointer (some ⟨Bt, 0, none⟩), .pointer (some ⟨Bn, 0, none⟩)]) →
      w.cell? ⟨Bt, 0, none⟩ = some v → w.frozen? ⟨Bt, 0, none⟩ = false → w.ownsRow B 3 1 v t.length (t.map (Value.int .i64)) → t.length ≤ 60 → B ≤ w.heap.size →
      Calls Try.prog 238 #[.int .i64 (k : Int), .pointer (some ⟨Bf, 0, none⟩), .pointer (some ⟨Bt, 0, none⟩), .pointer (some ⟨Bn, 0, none⟩)] w fun e w' =>
        e = .returned (.bool ok) ∧ ∃ v', w'.cell? ⟨Bt, 0, none⟩ = some v' ∧ w'.frozen? ⟨Bt, 0, none⟩ = false ∧ w'.ownsRow B 3 1 v' t'.length (t'.map (Value.int .i64)) ∧ KeepE (K0 B Bt) w w' := by
  intro m
  induction m with
  | zero => intro k t ok t' v w h; cases h
  | succ m ih =>
    intro k t ok t' v w hw hb cf cn cv fv hrow htl hBw
    unfold writeF at hw
    cases hr : rootS F.prox m k with
    | none => rw [hr] at hw; cases hw
    | some r =>
    rw [hr] at hw
    simp only at hw
    have CR := Lib.hid (root_any E fb S F m k r w (h0.below hb) hr hn1)
    have hrl : r < F.tops.length := by have := (rootS_lt hr).2.1; rw [hF.pl] at this; exact this
    obtain ⟨n, hnt⟩ : ∃ n, t.length = n := ⟨_, rfl⟩
    rw [hnt] at hrow htl hw
    have hv : ∃ A c, v = .slice A n c := by
      obtain ⟨_, ⟨rfl, h1⟩ | ⟨g, cap, cur, rfl, _⟩⟩ := id hrow
      · exact ⟨none, 0, by rw [h1]⟩
      · exact ⟨_, cap, rfl⟩
    obtain ⟨A, c, rfl⟩ := hv
    by_cases h6 : n = 60
    · rw [if_pos h6] at hw
      have hw' : ok = false ∧ t' = t := by have := Prod.mk.inj (Option.some.inj hw); exact ⟨this.1.symm, this.2.symm⟩
      obtain ⟨rfl, rfl⟩ := hw'
      have HNT := Lib.hid hnt
      have HROW := Lib.hid hrow
      have HK := Lib.hid (KeepE.refl (K0 B Bt) w)
      subst h6
      clear ih hw h0 hF hb hrow hr hrl hnt
      go_enter Try.func238, Try.ntmps238
      go_wp2_with (go_at_call 236; refine CR.out.mono ?_; rintro e w2 ⟨rfl, rfl⟩)
      go_ret
      exact ⟨rfl, _, cv, fv, by rw [HNT.out]; exact HROW.out, HK.out⟩
    · rw [if_neg h6] at hw
      obtain ⟨x, hx⟩ : ∃ x, F.tops[r]? = some x := ⟨_, List.getElem?_eq_getElem hrl⟩
      obtain ⟨al, ha⟩ : ∃ al, F.args[r]? = some al := ⟨_, List.getElem?_eq_getElem (by rw [hF.al]; exact hrl)⟩
      rw [hx, ha] at hw
      simp only at hw
      obtain ⟨gt, nt, ct, t1, hntl, htc⟩ := h0.topAll (by omega)
      have t2 := htc r x hx
      obtain ⟨ga, na, ca, Aa, caa, a1, hna, a2, hall, hargs⟩ := h0.args2 ha
      have hr0 : (0 : Int) ≤ (r : Int) := by omega
      have hr1 : (r : Int) < (nt : Int) := by omega
      have hr2 : (r : Int) < (na : Int) := by have := hF.al; omega
      have t1w := below_has hb t1
      have t2w := below_has hb t2
      have h6' : ¬ (n : Int) = 60 := by omega
      have h6b : ((n : Int) == 60) = false := by simp; omega
      obtain ⟨nl, hnl⟩ : ∃ nl, al.length = nl := ⟨_, rfl⟩
      rw [hnl] at a2 hall
      obtain ⟨i0, hi, hz0, hz1, hz2⟩ := info_parts info_int
      have hbd : Below w0.heap.size w0 (w.drew.alloc (.cells #[.int .i64 x] 3)) := (hb.drew).alloc hb.size _
      have hK4 : KeepE (fun b => b < B) w (w.drew.alloc (.cells #[.int .i64 x] 3)) := KeepE.of_below (((Below.refl w.heap.size w).drew).alloc (Nat.le_refl _) _) (fun b h => by omega)
      have HROW := Lib.hid (show (w.drew.alloc (.cells #[.int .i64 x] 3)).ownsRow B 3 1 (.slice A n c) n (t.map (Value.int .i64)) from World.ownsRow.alloc hrow _)
      have cvA : (w.drew.alloc (.cells #[.int .i64 x] 3)).cell? ⟨Bt, 0, none⟩ = some (.slice A n c) := (hK4.cell (p := ⟨Bt, 0, none⟩) hBtB).trans cv
      have cfA : (w.drew.alloc (.cells #[.int .i64 x] 3)).cell? ⟨Bf, 0, none⟩ = some (.pointer (some ⟨fb, 0, none⟩)) := (hK4.cell (p := ⟨Bf, 0, none⟩) hBf.1).trans cf
      have t1A := below_has hbd t1
      have t2A := below_has hbd t2
      have hBtw : Bt < w.heap.size := by omega
      have HBD := Lib.hid hbd
      have HK4 := Lib.hid hK4
      have HH0 := Lib.hid h0
      have HIH := Lib.hid ih
      have HARG := Lib.hid hargs
      have HNT := Lib.hid hnt
      have HNL := Lib.hid hnl
      have HB0 := Lib.hid hb
      obtain ⟨res, hres⟩ : ∃ res, loopW (writeF F m) al (t ++ [x]) = res := ⟨_, rfl⟩
      rw [hres] at hw
      have HRES := Lib.hid hres
      have HW := Lib.hid hw
      have HA1 := Lib.hid (And.intro a1 a2)
      have HT0 := Lib.hid (And.intro t1 t2)
      have HGT := Lib.hid (show gt < w0.heap.size from cell_lt t2)
      have HBS := Lib.hid (show B ≤ (w.drew.alloc (.cells #[.int .i64 x] 3)).heap.size by rw [World.size_alloc]; exact Nat.le_succ_of_le hBw)
      clear ih hw h0 hF hrow hr hrl hnt hx ha hargs hnl hres htc hntl hna hbd hK4 hb t1 t2 a1 a2
      go_enter Try.func238, Try.ntmps238
      go_wp2_with (go_at_call 236; refine CR.out.mono ?_; rintro e w2 ⟨rfl, rfl⟩)
      refine wp_region_held_drew (S := (fun w' => w'.cell? ⟨Bf, 0, none⟩ = some (.pointer (some ⟨fb, 0, none⟩)) ∧ w'.cell? ⟨fb, 1, none⟩ = some (.slice (some ⟨gt, 0, none⟩) nt ct) ∧ w'.cell? ⟨gt, r, none⟩ = some (.int .i64 x))) (by kernel_rfl) ?_ (fun hHeld => ?_)
      · first | go_keep | assumption | (exact ⟨by assumption, by assumption, by assumption⟩)
      refine wpAnyH_take (i := 1) (v := ?_) rfl (by kernel_rfl) (by kernel_rfl) (by kernel_rfl) (fun _ _ _ h => h) (Or.inl ⟨by rfl, ?_⟩) (by assumption) ?_
      rotate_left
      · intro w hSw; (try dsimp only at hSw); go_simp <;> with_reducible rfl
      try simp only [List.getElem_toArray, List.getElem_cons_succ, List.getElem_cons_zero, Act.put, List.setIfInBounds_toArray, List.set_cons_zero, List.set_cons_succ]
      refine wpAnyH_take (i := 2) (v := ?_) rfl (by kernel_rfl) (by kernel_rfl) (by kernel_rfl) (fun _ _ _ h => h) (Or.inl ⟨by rfl, ?_⟩) (by assumption) ?_
      rotate_left
      · intro w hSw; (try dsimp only at hSw); go_simp <;> with_reducible rfl
      try simp only [List.getElem_toArray, List.getElem_cons_succ, List.getElem_cons_zero, Act.put, List.setIfInBounds_toArray, List.set_cons_zero, List.set_cons_succ]
      refine wpAnyH_take (i := 3) (v := ?_) rfl (by kernel_rfl) (by kernel_rfl) (by kernel_rfl) (fun _ _ _ h => h) (Or.inl ⟨by rfl, ?_⟩) (by assumption) ?_
      rotate_left
      · intro w hSw; (try dsimp only at hSw); go_simp <;> with_reducible rfl
      try simp only [List.getElem_toArray, List.getElem_cons_succ, List.getElem_cons_zero, Act.put, List.setIfInBounds_toArray, List.set_cons_zero, List.set_cons_succ]
      refine wpAnyH_take (i := 4) (v := ?_) rfl (by kernel_rfl) (by kernel_rfl) (by kernel_rfl) (fun _ _ _ h => h) (Or.inl ⟨by rfl, ?_⟩) (by assumption) ?_
      rotate_left
      · intro w hSw; (try dsimp only at hSw); go_simp <;> with_reducible rfl
      try simp only [List.getElem_toArray, List.getElem_cons_succ, List.getElem_cons_zero, Act.put, List.setIfInBounds_toArray, List.set_cons_zero, List.set_cons_succ]
      refine wpAnyH_take (i := 5) (v := ?_) rfl (by kernel_rfl) (by kernel_rfl) (by kernel_rfl) (fun _ _ _ h => h) (Or.inl ⟨by rfl, ?_⟩) (by assumption) ?_
      rotate_left
      · intro w hSw; (try dsimp only at hSw); go_simp <;> with_reducible rfl
      try simp only [List.getElem_toArray, List.getElem_cons_succ, List.getElem_cons_zero, Act.put, List.setIfInBounds_toArray, List.set_cons_zero, List.set_cons_succ]
      refine wpAnyH_take (i := 6) (v := ?_) rfl (by kernel_rfl) (by kernel_rfl) (by kernel_rfl) (fun _ _ _ h => h) (Or.inl ⟨by rfl, ?_⟩) (by assumption) ?_
      rotate_left
      · intro w hSw; (try dsimp only at hSw); go_simp <;> with_reducible rfl
      try simp only [List.getElem_toArray, List.getElem_cons_succ, List.getElem_cons_zero, Act.put, List.setIfInBounds_toArray, List.set_cons_zero, List.set_cons_succ]
      refine wpAnyH_take (i := 7) (v := ?_) rfl (by kernel_rfl) (by kernel_rfl) (by kernel_rfl) (fun _ _ _ h => h) (Or.inl ⟨by rfl, ?_⟩) (by assumption) ?_
      rotate_left
      · intro w hSw; (try dsimp only at hSw); go_simp <;> with_reducible rfl
      try simp only [List.getElem_toArray, List.getElem_cons_succ, List.getElem_cons_zero, Act.put, List.setIfInBounds_toArray, List.set_cons_zero, List.set_cons_succ]
      refine wpAnyH_ready (rs := [0, 8]) (by kernel_rfl) (by simp) (AllReadyH.cons rfl (fun K hK => ?_) (AllReadyH.cons rfl (fun K hK => ?_) AllReadyH.nil))
      focus
        go_simp
        skip
        try go_wp2_with fail
        refine hK.out _ _ ?_ (fun hHeld => ?_)
        · first | go_keep | assumption | (exact ⟨by assumption, by assumption, by assumption⟩)
        clear hK K
        try simp only [List.getElem_toArray, List.getElem_cons_succ, List.getElem_cons_zero, Act.put, List.setIfInBounds_toArray, List.set_cons_zero, List.set_cons_succ]
        refine wpAnyH_ready (rs := [8]) (by kernel_rfl) (by simp) (AllReadyH.cons rfl (fun K hK => ?_) AllReadyH.nil)
        go_simp
        skip
        try go_wp2_with fail
        refine hK.out _ _ ?_ (fun hHeld => ?_)
        · first | go_keep | assumption | (exact ⟨by assumption, by assumption, by assumption⟩)
        clear hK K
        try simp only [List.getElem_toArray, List.getElem_cons_succ, List.getElem_cons_zero, Act.put, List.setIfInBounds_toArray, List.set_cons_zero, List.set_cons_succ]
        refine wpAnyH_ready (rs := [9]) (by kernel_rfl) (by simp) (AllReadyH.cons rfl (fun K hK => ?_) AllReadyH.nil)
        refine step_append_lies _ (by rfl) _ _ _ (by rfl) _ 3 i0 _ 1 8 Try.underlying25 hi hz0 hz1 hz2 rfl (by omega) (.slice A n c) n (t.map (Value.int .i64)) (by rfl) HROW.out ⟨w.heap.size, 0, none⟩ 1 1 [.int .i64 x] (by rfl) (by rfl) (World.news_of_block (cs := #[.int .i64 x]) (t := 3) (fr := (0, 0)) (heap_alloc_new w.drew _)) (by simp [Value.oneCell']) (by omega) (by unfold maxLen; omega) (by omega) HBS.out _ rfl ?_
        intro g5 cap5 w5 hrow5 hg5 hloc5 _
        have hKE : KeepE (fun b => b < B) w w5 := HK4.out.trans (KeepE.of_grown hg5 (fun b hb => Nat.lt_of_lt_of_le hb HBS.out) (fun g e hk => by have := (HROW.out.lt g e).1; omega))
        have hb5 : Below w0.heap.size w0 w5 := HB0.out.trans (hKE.below (fun b hb => by omega))
        have cf5 := (hKE.cell (p := ⟨Bf, 0, none⟩) hBf.1).trans cf
        have cbt5 := (hKE.cell (p := ⟨Bt, 0, none⟩) hBtB).trans cv
        have fbt5 := (hKE.frozen (p := ⟨Bt, 0, none⟩) hBtB).trans fv
        have t15 := below_has hb5 HT0.out.1
        have t25 := below_has hb5 HT0.out.2
        have n1 : (⟨Bt, 0, none⟩ : Addr) ≠ ⟨Bf, 0, none⟩ := fun e => hBf.2 (by cases e; rfl)
        have n2 : (⟨Bt, 0, none⟩ : Addr) ≠ ⟨fb, 1, none⟩ := fun e => by cases e
        have n3 : (⟨Bt, 0, none⟩ : Addr) ≠ ⟨gt, r, none⟩ := fun e => by have h1 : Bt = gt := by cases e; rfl
                                                                        have := HGT.out; omega
        have cf6 := (World.cell?_setCell_other w5 ⟨Bt, 0, none⟩ ⟨Bf, 0, none⟩ (.slice (some ⟨g5, 0, none⟩) (n + 1) cap5) n1).trans cf5
        have t16 := (World.cell?_setCell_other w5 ⟨Bt, 0, none⟩ ⟨fb, 1, none⟩ (.slice (some ⟨g5, 0, none⟩) (n + 1) cap5) n2).trans t15
        have t26 := (World.cell?_setCell_other w5 ⟨Bt, 0, none⟩ ⟨gt, r, none⟩ (.slice (some ⟨g5, 0, none⟩) (n + 1) cap5) n3).trans t25
        have HROW5 := Lib.hid hrow5
        have HKE := Lib.hid hKE
        clear hrow5 hg5 hloc5 hKE hb5
        try go_wp2_with fail
        refine hK.out _ _ ?_ (fun hHeld => ?_)
        · first | go_keep | assumption | (exact ⟨by assumption, by assumption, by assumption⟩)
        clear hK K
        try simp only [List.getElem_toArray, List.getElem_cons_succ, List.getElem_cons_zero, Act.put, List.setIfInBounds_toArray, List.set_cons_zero, List.set_cons_succ]
        refine wpAnyH_ready (rs := [10]) (by kernel_rfl) (by simp) (AllReadyH.cons rfl (fun K hK => ?_) AllReadyH.nil)
        go_simp
        skip
        try go_wp2_with fail
        refine hK.out _ _ ?_ (fun hHeld => ?_)
        · first | go_keep | assumption | (exact ⟨by assumption, by assumption, by assumption⟩)
        clear hK K
        try simp only [List.getElem_toArray, List.getElem_cons_succ, List.getElem_cons_zero, Act.put, List.setIfInBounds_toArray, List.set_cons_zero, List.set_cons_succ]
        refine wpAnyH_done (by kernel_rfl) ?_ _
      rotate_left
      focus
        go_simp
        skip
        try go_wp2_with fail
        refine hK.out _ _ ?_ (fun hHeld => ?_)
        · first | go_keep | assumption | (exact ⟨by assumption, by assumption, by assumption⟩)
        clear hK K
        try simp only [List.getElem_toArray, List.getElem_cons_succ, List.getElem_cons_zero, Act.put, List.setIfInBounds_toArray, List.set_cons_zero, List.set_cons_succ]
        refine wpAnyH_ready (rs := [0]) (by kernel_rfl) (by simp) (AllReadyH.cons rfl (fun K hK => ?_) AllReadyH.nil)
        go_simp
        skip
        try go_wp2_with fail
        refine hK.out _ _ ?_ (fun hHeld => ?_)
        · first | go_keep | assumption | (exact ⟨by assumption, by assumption, by assumption⟩)
        clear hK K
        try simp only [List.getElem_toArray, List.getElem_cons_succ, List.getElem_cons_zero, Act.put, List.setIfInBounds_toArray, List.set_cons_zero, List.set_cons_succ]
        refine wpAnyH_ready (rs := [9]) (by kernel_rfl) (by simp) (AllReadyH.cons rfl (fun K hK => ?_) AllReadyH.nil)
        refine step_append_lies _ (by rfl) _ _ _ (by rfl) _ 3 i0 _ 1 8 Try.underlying25 hi hz0 hz1 hz2 rfl (by omega) (.slice A n c) n (t.map (Value.int .i64)) (by rfl) HROW.out ⟨w.heap.size, 0, none⟩ 1 1 [.int .i64 x] (by rfl) (by rfl) (World.news_of_block (cs := #[.int .i64 x]) (t := 3) (fr := (0, 0)) (heap_alloc_new w.drew _)) (by simp [Value.oneCell']) (by omega) (by unfold maxLen; omega) (by omega) HBS.out _ rfl ?_
        intro g5 cap5 w5 hrow5 hg5 hloc5 _
        have hKE : KeepE (fun b => b < B) w w5 := HK4.out.trans (KeepE.of_grown hg5 (fun b hb => Nat.lt_of_lt_of_le hb HBS.out) (fun g e hk => by have := (HROW.out.lt g e).1; omega))
        have hb5 : Below w0.heap.size w0 w5 := HB0.out.trans (hKE.below (fun b hb => by omega))
        have cf5 := (hKE.cell (p := ⟨Bf, 0, none⟩) hBf.1).trans cf
        have cbt5 := (hKE.cell (p := ⟨Bt, 0, none⟩) hBtB).trans cv
        have fbt5 := (hKE.frozen (p := ⟨Bt, 0, none⟩) hBtB).trans fv
        have t15 := below_has hb5 HT0.out.1
        have t25 := below_has hb5 HT0.out.2
        have n1 : (⟨Bt, 0, none⟩ : Addr) ≠ ⟨Bf, 0, none⟩ := fun e => hBf.2 (by cases e; rfl)
        have n2 : (⟨Bt, 0, none⟩ : Addr) ≠ ⟨fb, 1, none⟩ := fun e => by cases e
        have n3 : (⟨Bt, 0, none⟩ : Addr) ≠ ⟨gt, r, none⟩ := fun e => by have h1 : Bt = gt := by cases e; rfl
                                                                        have := HGT.out; omega
        have cf6 := (World.cell?_setCell_other w5 ⟨Bt, 0, none⟩ ⟨Bf, 0, none⟩ (.slice (some ⟨g5, 0, none⟩) (n + 1) cap5) n1).trans cf5
        have t16 := (World.cell?_setCell_other w5 ⟨Bt, 0, none⟩ ⟨fb, 1, none⟩ (.slice (some ⟨g5, 0, none⟩) (n + 1) cap5) n2).trans t15
        have t26 := (World.cell?_setCell_other w5 ⟨Bt, 0, none⟩ ⟨gt, r, none⟩ (.slice (some ⟨g5, 0, none⟩) (n + 1) cap5) n3).trans t25
        have HROW5 := Lib.hid hrow5
        have HKE := Lib.hid hKE
        clear hrow5 hg5 hloc5 hKE hb5
        try go_wp2_with fail
        refine hK.out _ _ ?_ (fun hHeld => ?_)
        · first | go_keep | assumption | (exact ⟨by assumption, by assumption, by assumption⟩)
        clear hK K
        try simp only [List.getElem_toArray, List.getElem_cons_succ, List.getElem_cons_zero, Act.put, List.setIfInBounds_toArray, List.set_cons_zero, List.set_cons_succ]
        refine wpAnyH_ready (rs := [10]) (by kernel_rfl) (by simp) (AllReadyH.cons rfl (fun K hK => ?_) AllReadyH.nil)
        go_simp
        skip
        try go_wp2_with fail
        refine hK.out _ _ ?_ (fun hHeld => ?_)
        · first | go_keep | assumption | (exact ⟨by assumption, by assumption, by assumption⟩)
        clear hK K
        try simp only [List.getElem_toArray, List.getElem_cons_succ, List.getElem_cons_zero, Act.put, List.setIfInBounds_toArray, List.set_cons_zero, List.set_cons_succ]
        refine wpAnyH_done (by kernel_rfl) ?_ _
      all_goals
        obtain ⟨W6, hW6⟩ : ∃ W6, w5.setCell ⟨Bt, 0, none⟩ (.slice (some ⟨g5, 0, none⟩) (n + 1) cap5) = W6 := ⟨_, rfl⟩
        rw [hW6] at cf6 ⊢
        have hK6 : KeepE (K0 B Bt) w W6 := by rw [← hW6]; exact (HKE.out.mono (fun b h => h.1)).trans (KeepE.set (p := ⟨Bt, 0, none⟩) (fun h => h.2 rfl) _)
        have hb6 : Below w0.heap.size w0 W6 := HB0.out.trans (hK6.below (fun b hb => ⟨by omega, by omega⟩))
        have a16 := below_has hb6 HA1.out.1
        have a26 := below_has hb6 HA1.out.2
        have cv6 : W6.cell? ⟨Bt, 0, none⟩ = some (.slice (some ⟨g5, 0, none⟩) (n + 1) cap5) := by rw [← hW6]; exact World.cell?_setCell_same' _ _ _ (by rw [cbt5]; rfl)
        have fv6 : W6.frozen? ⟨Bt, 0, none⟩ = false := by rw [← hW6, World.frozen?_setCell]; exact fbt5
        have hrow6 : W6.ownsRow B 3 1 (.slice (some ⟨g5, 0, none⟩) (n + 1) cap5) (t ++ [x]).length ((t ++ [x]).map (Value.int .i64)) := by
          rw [List.length_append, List.length_singleton, HNT.out, List.map_append, ← hW6]
          exact ownsRow_moved HROW5.out (fun g hg => heap_setCell_other w5 ⟨Bt, 0, none⟩ g _ (fun e => by have h1 := (HROW5.out.lt g hg).1; have h2 : g = Bt := e; omega))
        have HK6 := Lib.hid hK6
        have HROW6 := Lib.hid hrow6
        have HCN := Lib.hid cn
        have HCF := Lib.hid cf
        have hlen6 : (t ++ [x]).length ≤ 60 := by rw [List.length_append, List.length_singleton, HNT.out]; omega
        have HLEN6 := Lib.hid hlen6
        clear hK6 hb6 hrow6 hW6 cf5 cbt5 fbt5 t15 t25 t16 t26 n1 n2 n3 cv fv cf cn hlen6 t1w t2w cvA cfA t1A t2A
        go_wp2
        go_loopw [32] (fun c wr => ∃ (j : Nat) (t1 : List Int) (v1 : Value), c = .int .i64 j ∧ j ≤ nl ∧ loopW (writeF F m) (al.drop j) t1 = res ∧ wr.cell? ⟨Bt, 0, none⟩ = some v1 ∧ wr.frozen? ⟨Bt, 0, none⟩ = false ∧ wr.ownsRow B 3 1 v1 t1.length (t1.map (Value.int .i64)) ∧ t1.length ≤ 60 ∧ KeepE (K0 B Bt) w wr) (fun c _ => nl - (intOf c).toNat)
        case atStart => exact ⟨0, t ++ [x], _, rfl, Nat.zero_le _, HRES.out, cv6, fv6, HROW6.out, HLEN6.out, HK6.out⟩
        case round =>
          obtain ⟨j, t1, v1, rfl, hj, hl, c1, f1, hrow1, hlen1, hk1⟩ := hrel
          by_cases hjl : j < nl
          · have hja : j < al.length := by have := HNL.out; omega
            obtain ⟨g, cs, rfl, _, hg2⟩ := HARG.out j _ (List.getElem?_eq_getElem hja)
            rw [List.drop_eq_getElem_cons hja] at hl
            obtain ⟨a, hae⟩ : ∃ a, al[j] = a := ⟨_, rfl⟩
            rw [hae] at hl hg2
            have hbr : Below w0.heap.size w0 wr := HB0.out.trans (hk1.below (fun b hb => ⟨by omega, by omega⟩))
            have hcj := below_has hbr hg2
            have cfr := (hk1.cell (p := ⟨Bf, 0, none⟩) hBf).trans HCF.out
            have cnr := (hk1.cell (p := ⟨Bn, 0, none⟩) hBn).trans HCN.out
            unfold loopW at hl
            cases hx : writeF F m a t1 with
            | none => rw [hx] at hl; simp only at hl; have := HW.out; rw [← hl] at this; cases this
            | some y =>
              obtain ⟨b2, t2⟩ := y
              rw [hx] at hl
              have hlen2 := writeF_len m a t1 _ _ hx hlen1
              have CI := Lib.hid (HIH.out a t1 b2 t2 v1 wr hx hbr cfr cnr c1 f1 hrow1 hlen1 (Nat.le_trans hBw hk1.size))
              have hj0 : (0 : Int) ≤ (j : Int) := by omega
              have hj1 : (j : Int) < (nl : Int) := by omega
              have HKR := Lib.hid hk1
              have HLEN2 := Lib.hid hlen2
              cases b2 with
              | false =>
                have HL := Lib.hid hl
                clear hx hae hg2 hja hl hlen2 hlen1 hbr cfr hk1 hrow1 c1 f1 cf6 cv6 fv6 a16 a26
                go_wp2_with (go_at_call 238; refine CI.out.mono ?_; rintro e w3 ⟨rfl, v3, c3, f3, hrow3, hk3⟩)
                go_ret
                have h1 := HW.out
                rw [← HL.out] at h1
                cases h1
                exact ⟨rfl, v3, c3, f3, hrow3, HKR.out.trans hk3⟩
              | true =>
                have HL := Lib.hid hl
                clear hx hae hg2 hja hl hlen2 hlen1 hbr cfr hk1 hrow1 c1 f1 cf6 cv6 fv6 a16 a26
                go_wp2_with (go_at_call 238; refine CI.out.mono ?_; rintro e w3 ⟨rfl, v3, c3, f3, hrow3, hk3⟩; have HROW3 := Lib.hid hrow3; clear hrow3)
                go_roundw
                case rel => exact ⟨j + 1, t2, v3, by go_num, by omega, HL.out, c3, f3, HROW3.out, HLEN2.out, HKR.out.trans hk3⟩
                case measure => simp [intOf]; omega
          · have hjn : j = nl := by omega
            rw [hjn, ← HNL.out, List.drop_length] at hl
            have HL := Lib.hid (show some (true, t1) = res from hl)
            have HROW1 := Lib.hid hrow1
            have HKR := Lib.hid hk1
            have hnj : ¬ (j : Int) < (nl : Int) := by omega
            clear hl hlen1 hrow1 hk1 hjn cf6 cv6 fv6 a16 a26
            go_wp2
            go_ret
            have h1 : some (true, t1) = some (ok, t') := by rw [HL.out]; exact HW.out
            cases h1
            exact ⟨rfl, v1, c1, f1, HROW1.out, HKR.out⟩

end Go.Proofs.Ytgbfccbnbgbknaa

/- Contract: written. -/
namespace Go.Proofs.Ytgbfccbnbgbknaa
open Go.RowKit

theorem row_form {w : World} {base : Nat} {e : TypeId} {size : Nat} {v : Value} {n : Nat} {xs : List Value} (h : w.ownsRow base e size v n xs) : ∃ A c, v = .slice A n c := by
  obtain ⟨_, ⟨rfl, h1⟩ | ⟨g, cap, cur, rfl, _⟩⟩ := h
  · exact ⟨none, 0, by rw [h1]⟩
  · exact ⟨_, cap, rfl⟩

set_option maxRecDepth 100000 in
set_option maxHeartbeats 2000000 in
theorem written_any (E : Nat → Prop) (fb : Nat) (S : Value) (F : Fd) (m k : Nat) (ok : Bool) (t' : List Int) (w : World) (h : FAt w E fb S F) (hF : F.Ok) (hn : F.tops.length ≤ 100000) (hw : writeF F m k [] = some (ok, t')) :
    Calls Try.prog 215 #[.pointer (some ⟨fb, 0, none⟩), .int .i64 (k : Int)] w fun e w' =>
      ∃ v, e = .returned (.tuple #[v, .bool ok]) ∧ (ok = true → w'.ownsRow w.heap.size 3 1 v t'.length (t'.map (Value.int .i64))) ∧ (ok = false → v = .slice none 0 0) ∧ Below w.heap.size w w' := by
  obtain ⟨N, hN0⟩ : ∃ N, w.heap.size = N := ⟨_, rfl⟩
  let cl : Value := .func (.func 238) #[] #[.pointer (some ⟨N, 0, none⟩), .pointer (some ⟨N + 1, 0, none⟩), .pointer (some ⟨N + 2, 0, none⟩)]
  let W1 := w.alloc (.cells #[.pointer (some ⟨fb, 0, none⟩)] 153)
  let W2 := W1.alloc (.cells #[.slice none 0 0] 25)
  let W3 := W2.alloc (.cells #[cl] 140)
  have z1 : W1.heap.size = N + 1 := by simp [W1, hN0]
  have z2 : W2.heap.size = N + 2 := by simp [W2, z1]
  have z3 : W3.heap.size = N + 3 := by simp [W3, z2]
  have b1 : Blk W1 N 153 #[.pointer (some ⟨fb, 0, none⟩)] := by have := Blk.new w 153 #[.pointer (some ⟨fb, 0, none⟩)]; rw [hN0] at this; exact this
  have b2 : Blk W2 (N + 1) 25 #[.slice none 0 0] := by have := Blk.new W1 25 #[.slice none 0 0]; rw [z1] at this; exact this
  have k3 : Blk W3 (N + 2) 140 #[cl] := by have := Blk.new W2 140 #[cl]; rw [z2] at this; exact this
  have k1 : Blk W3 N _ _ := (b1.alloc (.cells #[.slice none 0 0] 25)).alloc (.cells #[cl] 140)
  have k2 : Blk W3 (N + 1) _ _ := b2.alloc (.cells #[cl] 140)
  have hq1 : Below w.heap.size w W1 := (Below.refl w.heap.size w).alloc (Nat.le_refl _) _
  have hq2 : Below w.heap.size w W2 := hq1.alloc (by rw [z1]; omega) _
  have hq3 : Below w.heap.size w W3 := hq2.alloc (by rw [z2]; omega) _
  have hcall := writeC_any w E fb S F h hF (by rw [hF.pl]; omega) N (N + 1) (N + 2) (N + 3) (by omega) (by omega) (by omega) ⟨by omega, by omega⟩ ⟨by omega, by omega⟩ m k [] ok t' (.slice none 0 0) W3 hw hq3 (k1.cell 0) (k3.cell 0) (k2.cell 0) (k2.frozen 0) ⟨rfl, .inl ⟨rfl, rfl⟩⟩ (by simp) (by omega)
  have HC : Hid (Calls Try.prog 238 #[.int .i64 (k : Int), .pointer (some ⟨N, 0, none⟩), .pointer (some ⟨N + 1, 0, none⟩), .pointer (some ⟨N + 1 + 1, 0, none⟩)]
      (((w.alloc (.cells #[.pointer (some ⟨fb, 0, none⟩)] 153)).alloc (.cells #[.slice none 0 0] 25)).alloc (.cells #[.func (.func 238) #[] #[.pointer (some ⟨N, 0, none⟩), .pointer (some ⟨N + 1, 0, none⟩), .pointer (some ⟨N + 1 + 1, 0, none⟩)]] 140))
      (fun e w' => e = .returned (.bool ok) ∧ ∃ v', w'.cell? ⟨N + 1, 0, none⟩ = some v' ∧ w'.frozen? ⟨N + 1, 0, none⟩ = false ∧ Hid (w'.ownsRow (N + 3) 3 1 v' t'.length (t'.map (Value.int .i64)) ∧ KeepE (K0 (N + 3) (N + 1)) W3 w'))) :=
    Lib.hid (hcall.mono (R' := fun e w' => e = .returned (.bool ok) ∧ ∃ v', w'.cell? ⟨N + 1, 0, none⟩ = some v' ∧ w'.frozen? ⟨N + 1, 0, none⟩ = false ∧ Hid (w'.ownsRow (N + 3) 3 1 v' t'.length (t'.map (Value.int .i64)) ∧ KeepE (K0 (N + 3) (N + 1)) W3 w')) (fun e w' ⟨q1, v', q2, q3, q4, q5⟩ => ⟨q1, v', q2, q3, Lib.hid ⟨q4, q5⟩⟩))
  have HQ := Lib.hid hq3
  have HZ := Lib.hid z3
  obtain ⟨WX, hWX⟩ : ∃ WX, W3 = WX := ⟨_, rfl⟩
  rw [hWX] at HQ HZ HC
  clear hcall hq3 hq2 hq1 k1 k2 k3 b1 b2 z1 z2 z3 h hF hw hWX
  clear W3 W2 W1
  obtain ⟨nt, hnt⟩ : ∃ nt, t'.length = nt := ⟨_, rfl⟩
  rw [hnt] at HC ⊢
  clear hnt
  have HS : ∀ w9 v9, w9.ownsRow (N + 3) 3 1 v9 nt (t'.map (Value.int .i64)) → KeepE (K0 (N + 3) (N + 1)) WX w9 → ∀ u, (w9.setCell ⟨N + 1, 0, none⟩ u).ownsRow w.heap.size 3 1 v9 nt (t'.map (Value.int .i64)) ∧ Below w.heap.size w (w9.setCell ⟨N + 1, 0, none⟩ u) := by
    intro w9 v9 h1 h2 u
    have h3 : Below w.heap.size w w9 := HQ.out.trans (h2.below (fun b hb => ⟨by omega, by omega⟩))
    refine ⟨ownsRow_moved (⟨h1.1, h1.2.imp id (fun ⟨g, cap, cur, a, b, c⟩ => ⟨g, cap, cur, a, by omega, c⟩)⟩ : w9.ownsRow w.heap.size 3 1 v9 nt (t'.map (Value.int .i64))) (fun g hg => heap_setCell_other w9 ⟨N + 1, 0, none⟩ g u (fun e => by have h4 := (h1.lt g hg).1; have h5 : g = N + 1 := e; omega)), h3.setCell (p := ⟨N + 1, 0, none⟩) (by show w.heap.size ≤ N + 1; omega) u⟩
  have HSX := Lib.hid HS
  clear HS
  cases ok with
  | true =>
    go_enter Try.func215, Try.ntmps215
    go_wp2_with (go_at_call 238; refine HC.out.mono ?_; rintro e w9 ⟨rfl, v9, c9, f9, H9⟩; obtain ⟨A9, cp9, rfl⟩ := row_form H9.out.1)
    (try simp only [Exit.inBlock, Exit.then])
    have cX := World.cell?_setCell_same' w9 ⟨N + 1, 0, none⟩ (.slice A9 nt cp9) (by rw [c9]; rfl)
    refine bodyPost_ret (v := .tuple #[.slice A9 nt cp9, .bool true]) (by rw [results_cell_tmp rfl]; go_simp) rfl ?_
    exact ⟨_, rfl, fun _ => (HSX.out _ _ H9.out.1 H9.out.2 _).1, fun e => (by cases e), (HSX.out _ _ H9.out.1 H9.out.2 _).2⟩
  | false =>
    go_enter Try.func215, Try.ntmps215
    go_wp2_with (go_at_call 238; refine HC.out.mono ?_; rintro e w9 ⟨rfl, v9, c9, f9, H9⟩; obtain ⟨A9, cp9, rfl⟩ := row_form H9.out.1)
    (try simp only [Exit.inBlock, Exit.then])
    have cX := World.cell?_setCell_same' w9 ⟨N + 1, 0, none⟩ (.slice none 0 0) (by rw [c9]; rfl)
    refine bodyPost_ret (v := .tuple #[.slice none 0 0, .bool false]) (by rw [results_cell_tmp rfl]; go_simp) rfl ?_
    exact ⟨_, rfl, fun e => (by cases e), fun _ => rfl, (HSX.out _ _ H9.out.1 H9.out.2 _).2⟩

end Go.Proofs.Ytgbfccbnbgbknaa

namespace Go.Proofs.Ytgbfccbnbgbknaa
open Go.RowKit

/-- The numbers when k of them are renamed in place. -/
def mcells (zs : List Int) (k : Nat) : List Int := (canon zs).take k ++ zs.drop k
theorem mcells_zero (zs : List Int) : mcells zs 0 = zs := by simp [mcells]
theorem mcells_all (zs : List Int) : mcells zs zs.length = canon zs := by
  unfold mcells
  rw [List.drop_length, List.append_nil, List.take_of_length_le (by rw [canon_length]; omega)]
theorem mcells_len (zs : List Int) (k : Nat) (h : k ≤ zs.length) : (mcells zs k).length = zs.length := by
  unfold mcells
  rw [List.length_append, List.length_take, List.length_drop, canon_length]; omega
theorem mcells_at {zs : List Int} {k : Nat} (h : k < zs.length) : (mcells zs k)[k]? = some zs[k] := by
  unfold mcells
  rw [List.getElem?_append_right (by rw [List.length_take, canon_length]; omega), List.length_take, canon_length, Nat.min_eq_left (by omega), Nat.sub_self, List.getElem?_drop]
  simp [h]
theorem mcells_set {zs : List Int} {k : Nat} (h : k < zs.length) : (mcells zs k).set k (ren1 (seenTo zs k) zs[k]) = mcells zs (k + 1) := by
  unfold mcells
  have hk : k < (canon zs).length := by rw [canon_length]; exact h
  have e : ((canon zs).take k).length = k := by rw [List.length_take, canon_length]; omega
  have hg : (canon zs)[k] = ren1 (seenTo zs k) zs[k] := by
    have := canon_get zs h
    rw [List.getElem?_eq_getElem hk] at this
    exact Option.some.inj this
  rw [List.set_append_right _ _ (by omega), e, Nat.sub_self, List.drop_eq_getElem_cons h, List.set_cons_zero, List.take_succ_eq_append_getElem hk, hg]
  simp
theorem mcells_keep {zs : List Int} {k : Nat} (h : k < zs.length) (hz : 0 ≤ zs[k]) : mcells zs k = mcells zs (k + 1) := by
  rw [← mcells_set h]
  have h1 : ren1 (seenTo zs k) zs[k] = zs[k] := by simp [ren1, hz]
  rw [h1]
  apply List.ext_getElem?
  intro i
  rw [List.getElem?_set]
  split
  · rename_i e
    subst e
    rw [mcells_at h, if_pos (by rw [mcells_len _ _ (by omega)]; exact h)]
  · rfl

/-- The form of what was written, and the error. -/
def formZ (ok : Bool) (t : List Int) : List Int × Int := if ok = true ∧ (seenTo t t.length).length ≤ 12 then (canon t, 0) else ([], 4)
theorem row_int {w : World} {base n : Nat} {A : Option Addr} {c : Nat} {zs : List Int} (h : w.ownsRow base 3 1 (.slice A n c) n (zs.map (Value.int .i64))) {k : Nat} (hk : k < n) :
    ∃ g, A = some ⟨g, 0, none⟩ ∧ base ≤ g ∧ g < w.heap.size ∧ (∀ z, zs[k]? = some z → w.cell? ⟨g, k, none⟩ = some (.int .i64 z)) ∧ w.frozen? ⟨g, k, none⟩ = false ∧
      ∀ u : Int, (w.setCell ⟨g, k, none⟩ (.int .i64 u)).ownsRow base 3 1 (.slice A n c) n ((zs.set k u).map (Value.int .i64)) := by
  obtain ⟨_, ⟨e, h0⟩ | ⟨g, cap, cur, e, hb, hg, _⟩⟩ := id h
  · omega
  · cases e
    refine ⟨g, rfl, hb, Blk.lt (w := w) (g := g) hg, fun z hz => ?_, h.frozenAt k, fun u => ?_⟩
    · rw [h.cellAt k (by omega), List.getElem?_map, hz]; rfl
    · rw [List.map_set]
      exact (h.stored k _).1

/-- A row of ints of the call's own, as a slice, with its capacity. -/
theorem row_intsk {w : World} {base n : Nat} {v : Value} {zs : List Int} (h : w.ownsRow base 3 1 v n (zs.map (Value.int .i64))) (hn : n ≤ 1000000) : ∃ A c, v = .slice A n c ∧ IntsAt w w.heap.size A n zs ∧ n ≤ c ∧ c ≤ 9223372036854775807 := by
  have h0 := h
  obtain ⟨A, c, rfl, hI⟩ := row_ints h hn
  refine ⟨A, c, rfl, hI, ?_⟩
  obtain ⟨hl, ⟨e, rfl⟩ | ⟨g, cap, cur, e, hbg, hcur, hn1, hn2, hsz, htk⟩⟩ := h0
  · cases e; omega
  · cases e
    unfold maxLen at hn2
    omega
/-- What a call returns that returns a list of ints and an error: the slice's capacity is told, too. -/
def RetK (w : World) (zs : List Int) (er : Int) (e : Ending) (w' : World) : Prop :=
  ∃ A n c, e = .returned (.tuple #[.slice A n c, .int .i64 er]) ∧ IntsAt w' w'.heap.size A n zs ∧ (n ≤ c ∧ c ≤ 9223372036854775807) ∧ Below w.heap.size w w'
theorem RetK.ret {w w' : World} {zs : List Int} {er : Int} {e : Ending} (h : RetK w zs er e w') : RetT w zs er e w' := by
  obtain ⟨A, n, c, h1, h2, _, h3⟩ := h
  exact ⟨A, n, c, h1, h2, h3⟩

set_option maxRecDepth 100000 in
set_option maxHeartbeats 2000000 in
theorem formk_any (E : Nat → Prop) (fb : Nat) (S : Value) (F : Fd) (m k : Nat) (ok : Bool) (t : List Int) (w : World) (h : FAt w E fb S F) (hF : F.Ok) (hn : F.tops.length ≤ 100000) (hw : writeF F m k [] = some (ok, t)) (hb : ∀ z ∈ t, -1000000 ≤ z ∧ z ≤ 1000000) :
    Calls Try.prog 182 #[.pointer (some ⟨fb, 0, none⟩), .int .i64 (k : Int)] w (RetK w (formZ ok t).1 (formZ ok t).2) := by
  have CW := Lib.hid (written_any E fb S F m k ok t w h hF hn hw)
  have htl := writeF_len m k [] _ _ hw (by simp)
  have hmm := @run_makeMap Try.prog
  obtain ⟨nt, hnt⟩ : ∃ nt, t.length = nt := ⟨_, rfl⟩
  rw [hnt] at htl CW
  cases ok with
  | false =>
    rw [show formZ false t = ([], 4) by simp [formZ]]
    clear hw h hF hn hb hnt htl
    go_enter Try.func182, Try.ntmps182
    go_wp2_with (go_at_call 215; refine CW.out.mono ?_; rintro e w1 ⟨v, rfl, _, hv, hB⟩; obtain rfl := hv rfl)
    go_ret2
    exact ⟨none, 0, 0, rfl, IntsAt.nil _ _ 0, by omega, hB⟩
  | true =>
    have HNT := Lib.hid hnt
    have HBZ := Lib.hid hb
    have hsl := seenTo_le t nt
    obtain ⟨fz, hfz⟩ : ∃ fz, formZ true t = fz := ⟨_, rfl⟩
    rw [hfz]
    have HFZ := Lib.hid hfz
    clear hw h hF hn hb hnt hfz
    go_enter Try.func182, Try.ntmps182
    go_wp2_with (go_at_call 215; refine CW.out.mono ?_; rintro e w1 ⟨v, rfl, hrow, hv2, hB⟩; obtain ⟨A, c, rfl⟩ := row_form (hrow rfl); have HROW := Lib.hid (hrow rfl); have HB := Lib.hid hB; clear hrow hB hv2)
    clear hmm
    go_loopw [24] (fun ct wr => ∃ k : Nat, k ≤ nt ∧ ct = .int .i64 k ∧ wr.ownsRow w.heap.size 3 1 (.slice A nt c) nt ((mcells t k).map (Value.int .i64)) ∧ Numb wr w1.heap.size k (seenTo t k) ∧ Below w.heap.size w wr ∧ (∀ g, A = some g → g.block ≠ w1.heap.size)) (fun c _ => nt - (intOf c).toNat)
    case atStart =>
      refine ⟨0, Nat.zero_le _, rfl, ?_, by simpa [seenTo] using Numb.made w1, HB.out.alloc HB.out.size _, fun g hg => ?_⟩
      · rw [mcells_zero]
        exact World.ownsRow.alloc HROW.out _
      · have := (HROW.out.lt g.block (by rw [hg]; rfl)).2
        omega
    case round =>
      obtain ⟨k, hk, rfl, hR, hM, hBr, hAne⟩ := hrel
      by_cases hlt : k < nt
      · have hk' : k < t.length := by have := HNT.out; omega
        obtain ⟨g, rfl, hgb, hgl, hcell, hfr, hset⟩ := row_int hR hlt
        have hgM : g ≠ w1.heap.size := hAne _ rfl
        have hc := hcell _ (mcells_at hk')
        have hz12 := HBZ.out _ (List.getElem_mem hk')
        have hseen := seenTo_succ hk'
        have hsl2 := seenTo_le t k
        have hms := mcells_set hk'
        have hmk := mcells_keep hk'
        obtain ⟨z, hz⟩ : ∃ z, t[k] = z := ⟨_, rfl⟩
        rw [hz] at hc hz12 hseen hms hmk
        obtain ⟨hz1, hz2⟩ := hz12
        have hwf := wf_small hz1 hz2
        clear hz hcell
        have HAN := Lib.hid hAne
        by_cases hpos : 0 ≤ z
        · have HR := Lib.hid (show wr.ownsRow w.heap.size 3 1 (.slice (some ⟨g, 0, none⟩) nt c) nt ((mcells t (k + 1)).map (Value.int .i64)) by rw [← hmk hpos]; exact hR)
          have HMs := Lib.hid (show Numb wr w1.heap.size (k + 1) (seenTo t (k + 1)) by
            rw [hseen]
            simp only [addSeen, if_pos hpos]
            exact hM.mono (by omega))
          have HBs := Lib.hid hBr
          clear hset hseen hM hBr hR hms hmk hAne
          go_wp2
          go_roundw
          case rel => exact ⟨k + 1, by omega, by go_num, HR.out, HMs.out, HBs.out, HAN.out⟩
          case measure => simp [intOf]; omega
        · have hneg : z < 0 := by omega
          clear hpos hmk
          cases hcon : (seenTo t k).contains z
          · have hadd : addSeen (seenTo t k) z = seenTo t k ++ [z] := by simp [addSeen, show ¬ 0 ≤ z from by omega]; simpa using hcon
            obtain ⟨cc, hlk⟩ := hM.look_ok z hwf
            have hln := hM.len
            have hup := hM.update z hwf hcon (by unfold maxLen; omega) (-((seenTo t k).length : Int) - 1) rfl (wf_small (by omega) (by omega))
            rw [hcon] at hlk
            have hcn : cnum (seenTo t k ++ [z]) z = -((seenTo t k).length : Int) - 1 := by
              unfold cnum
              rw [List.idxOf_append, if_neg (by simpa using hcon)]
              simp
            have hren : ren1 (seenTo t k) z = -((seenTo t k).length : Int) - 1 := by
              simp only [ren1, if_neg (show ¬ 0 ≤ z by omega), hadd, hcn]
            rw [hren] at hms
            rw [hadd] at hseen
            obtain ⟨s, hs⟩ : ∃ s, (seenTo t k).length = s := ⟨_, rfl⟩
            rw [hs] at hln hup hsl2 hcn hms
            obtain ⟨w3, hup, hM3, hg3⟩ := hup
            have hlk3 := hM3.look z hwf (by simp)
            rw [hcn] at hlk3
            have hR3 : w3.ownsRow w.heap.size 3 1 (.slice (some ⟨g, 0, none⟩) nt c) nt ((mcells t k).map (Value.int .i64)) := hR.kept hg3 (.inr (fun e => hgM (by cases e; rfl)))
            have hB3 := hBr.grown hg3 hBr.size (fun j e => by cases e; have := HB.out.size; omega)
            obtain ⟨g', e, _, hgl3, _, hfr3, hset3⟩ := row_int hR3 hlt
            cases e
            have hc3 : w3.cell? ⟨g, k, none⟩ = some (.int .i64 z) := (World.cell?_of_block (hg3.block g hgl (fun e => hgM (by cases e; rfl)))).trans hc
            have HRs := Lib.hid (hset3 (-(s : Int) - 1))
            rw [hms] at HRs
            have HMs := Lib.hid (hM3.setCell (a := ⟨g, k, none⟩) (fun e => hgM e.symm) (.int .i64 (-(s : Int) - 1)))
            have HBs := Lib.hid (hB3.setCell (p := ⟨g, k, none⟩) hgb (.int .i64 (-(s : Int) - 1)))
            have H2 := Lib.hid hseen
            clear hset hseen hM hBr hR hms hM3 hB3 hR3 hset3 hg3 hadd hcon hs hcn hren hAne
            go_wp2
            go_roundw
            case rel => exact ⟨k + 1, by omega, by go_num, HRs.out, by rw [H2.out]; exact HMs.out, HBs.out, HAN.out⟩
            case measure => simp [intOf]; omega
          · have hadd : addSeen (seenTo t k) z = seenTo t k := by simp [addSeen, show ¬ 0 ≤ z from by omega]; simpa using hcon
            obtain ⟨cc, hlk⟩ := hM.look_ok z hwf
            have hlk3 := hM.look z hwf hcon
            rw [hcon] at hlk
            have hren : ren1 (seenTo t k) z = cnum (seenTo t k) z := by
              simp only [ren1, if_neg (show ¬ 0 ≤ z by omega), hadd]
            rw [hren] at hms
            rw [hadd] at hseen
            obtain ⟨v, hv⟩ : ∃ v, cnum (seenTo t k) z = v := ⟨_, rfl⟩
            rw [hv] at hlk3 hms
            have HRs := Lib.hid (hset v)
            rw [hms] at HRs
            have HMs := Lib.hid (hM.setCell (a := ⟨g, k, none⟩) (fun e => hgM e.symm) (.int .i64 v))
            have HBs := Lib.hid (hBr.setCell (p := ⟨g, k, none⟩) hgb (.int .i64 v))
            have H2 := Lib.hid hseen
            clear hset hseen hM hBr hR hms hadd hcon hv hren hAne
            go_wp2
            go_roundw
            case rel => exact ⟨k + 1, by omega, by go_num, HRs.out, by rw [H2.out]; exact HMs.out.mono (by omega), HBs.out, HAN.out⟩
            case measure => simp [intOf]; omega
      · obtain rfl : k = nt := by omega
        have hln := hM.len
        have HR := Lib.hid hR
        have HBs := Lib.hid hBr
        obtain ⟨s, hs⟩ : ∃ s, (seenTo t k).length = s := ⟨_, rfl⟩
        rw [hs] at hln hsl
        have HS := Lib.hid hs
        clear hM hR hBr hs hAne
        by_cases h12 : s ≤ 12
        · have HE := Lib.hid (show fz = (canon t, 0) by rw [← HFZ.out]; unfold formZ; rw [if_pos ⟨rfl, by rw [HNT.out, HS.out]; exact h12⟩])
          have h12' : ¬ (s : Int) > 12 := by omega
          have h12'' : ¬ (12 : Int) < (s : Int) := by omega
          go_wp2
          go_ret2
          rw [HE.out]
          have h1 := HR.out
          rw [← HNT.out, mcells_all] at h1
          obtain ⟨A2, c2, e2, hI, hk⟩ := row_intsk h1 (by have := HNT.out; omega)
          cases e2
          exact ⟨_, _, _, by rw [HNT.out]; rfl, hI, hk, HBs.out⟩
        · have HE := Lib.hid (show fz = ([], 4) by rw [← HFZ.out]; unfold formZ; rw [if_neg (fun e => h12 (by have := e.2; rw [HNT.out, HS.out] at this; exact this))])
          have h12' : (s : Int) > 12 := by omega
          have h12'' : (12 : Int) < (s : Int) := by omega
          go_wp2
          go_ret2
          rw [HE.out]
          exact ⟨none, 0, 0, rfl, IntsAt.nil _ _ 0, by omega, HBs.out⟩

theorem form_any (E : Nat → Prop) (fb : Nat) (S : Value) (F : Fd) (m k : Nat) (ok : Bool) (t : List Int) (w : World) (h : FAt w E fb S F) (hF : F.Ok) (hn : F.tops.length ≤ 100000) (hw : writeF F m k [] = some (ok, t)) (hb : ∀ z ∈ t, -1000000 ≤ z ∧ z ≤ 1000000) :
    Calls Try.prog 182 #[.pointer (some ⟨fb, 0, none⟩), .int .i64 (k : Int)] w (RetT w (formZ ok t).1 (formZ ok t).2) :=
  (formk_any E fb S F m k ok t w h hF hn hw hb).mono fun _ _ h => h.ret

end Go.Proofs.Ytgbfccbnbgbknaa
