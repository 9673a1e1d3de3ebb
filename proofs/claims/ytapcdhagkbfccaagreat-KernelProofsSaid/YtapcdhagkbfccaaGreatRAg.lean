/- The walk of KernelProofs. -/
import Derived.Test.YtapcdhagkbfccaaGreatQYg
import Derived.Test.YtapcdhagkbfccaaGreatQTg
import Derived.Test.YtapcdhagkbfccaaGreatPYg
import Derived.Test.YtapcdhagkbfccaaGreatW0g
import Derived.Test.YtapcdhagkbfccaaGreatQWg
import Derived.Test.YtapcdhagkbfccaaGreatPZg
import Derived.Test.YtapcdhagkbfccaaGreatPOg
/- Contracts: Needed and Cited of the kernel and of the reference. -/
namespace Go.Proofs.YtapcdhagkbfccaaGreat
open Go.RowKit

/-- What steps, by their indexes, cite. -/
def citI (pp : List Stp) : List Int → List Int
  | [] => []
  | z :: l => (if (pp.getD z.toNat (0, 0, 0)).1 = 1 then [(pp.getD z.toNat (0, 0, 0)).2.1] else []) ++ citI pp l
theorem citI_snoc (pp : List Stp) (z : Int) : ∀ l, citI pp (l ++ [z]) = citI pp l ++ (if (pp.getD z.toNat (0, 0, 0)).1 = 1 then [(pp.getD z.toNat (0, 0, 0)).2.1] else [])
  | [] => by simp [citI]
  | y :: l => by rw [List.cons_append, citI, citI_snoc pp z l, citI, List.append_assoc]
theorem citI_idx (pp : List Stp) (b : List Bool) : ∀ k, citI pp (idxT b k) = citL pp b k
  | 0 => rfl
  | k + 1 => by
    rw [idxT, citL, ← citI_idx pp b k]
    by_cases h : b.getD k false = true
    · rw [if_pos h, citI_snoc]
      simp only [Int.toNat_natCast, h, true_and]
    · rw [if_neg h, if_neg (fun h2 => h h2.1), List.append_nil, List.append_nil]
theorem idxT_in {b : List Bool} {n j : Nat} (h : j < (idxT b n).length) : ∃ i : Nat, i < n ∧ (idxT b n)[j] = (i : Int) := by
  obtain ⟨i, h1, h2, _⟩ := (idxT_mem b _ n).1 (List.getElem_mem h)
  exact ⟨i, h1, h2⟩
set_option maxRecDepth 100000 in
set_option maxHeartbeats 4000000 in
theorem knNeeded_any (g : Int) (A : Option Addr) (n c : Nat) (pp : List Stp) (w : World) (hp : StepsAt w w.heap.size A n pp) :
    Calls Tryz.prog 9 #[.int .i64 g, .slice A n c] w (RetT w (neeZ g pp).1 (neeZ g pp).2) := by
  have CV := Lib.hid (validProof_any g A n c pp w hp)
  cases hv : proofOk g pp
  · rw [hv] at CV
    rw [show neeZ g pp = ([], 1) from by unfold neeZ; rw [hv]; rfl]
    clear hv hp
    go_enter Tryz.func9, Tryz.ntmps9
    go_wp2_with (go_at_call 7; ((with_reducible refine CV.out.mono ?_); rintro e w1 ⟨rfl, hB1⟩; have HB1 := Lib.hid hB1; clear hB1))
    go_ret2
    exact ⟨none, 0, 0, rfl, IntsAt.nil _ _ 0, HB1.out⟩
  · rw [hv] at CV
    obtain ⟨hg0, hl60, hto⟩ := proofOk_to hv
    have hlp := hp.len
    have hn1 : 1 ≤ n := by omega
    have hn60 : n ≤ 60 := by omega
    have CC := Lib.hid (fun V (h : Below w.heap.size w V) => (needed_any g A n c pp V (hp.up h) hv).mono (R' := fun e w' => ∃ A' n' c', e = .returned (.slice A' n' c') ∧ IntsAt w' w'.heap.size A' n' (idxT (needB pp) n) ∧ Below V.heap.size V w') fun e w' ⟨v, base, h1, _, h3, h4⟩ => by
      obtain ⟨A', c', rfl, hI⟩ := row_ints h3 (by have := idxT_len (needB pp) n; omega)
      exact ⟨A', _, c', h1, hI, h4⟩)
    rw [show neeZ g pp = (idxT (needB pp) n, 0) from by unfold neeZ; rw [if_pos hv, ← hlp]]
    clear hv hp hl60 hto hlp hn1 hn60 hg0
    go_enter Tryz.func9, Tryz.ntmps9
    go_wp2_with (first
      | (go_at_call 7; ((with_reducible refine CV.out.mono ?_); rintro e w1 ⟨rfl, hB1⟩; have HB1 := Lib.hid hB1; clear hB1))
      | (go_at_call 31; ((with_reducible refine (CC.out _ HB1.out).mono ?_); rintro e w2 ⟨A2, n2, c2, rfl, hI2, hB2⟩; have HI2 := Lib.hid hI2; have HB2 := Lib.hid (below_then HB1.out hB2); clear hI2 hB2)))
    go_ret2
    exact ⟨_, _, _, rfl, HI2.out, HB2.out⟩

set_option maxRecDepth 100000 in
set_option maxHeartbeats 4000000 in
theorem refNeeded_any (g : Int) (A : Option Addr) (n c : Nat) (pp : List Stp) (w : World) (hp : StepsAt w w.heap.size A n pp) :
    Calls Tryz.prog 10 #[.int .i64 g, .slice A n c] w (RetT w (neeZ g pp).1 (neeZ g pp).2) := by
  have CV := Lib.hid (refValidProof_any g A n c pp w hp)
  cases hv : proofOk g pp
  · rw [hv] at CV
    rw [show neeZ g pp = ([], 1) from by unfold neeZ; rw [hv]; rfl]
    clear hv hp
    go_enter Tryz.func10, Tryz.ntmps10
    go_wp2_with (go_at_call 8; ((with_reducible refine CV.out.mono ?_); rintro e w1 ⟨rfl, hB1⟩; have HB1 := Lib.hid hB1; clear hB1))
    go_ret2
    exact ⟨none, 0, 0, rfl, IntsAt.nil _ _ 0, HB1.out⟩
  · rw [hv] at CV
    obtain ⟨hg0, hl60, hto⟩ := proofOk_to hv
    have hlp := hp.len
    have hn1 : 1 ≤ n := by omega
    have hn60 : n ≤ 60 := by omega
    have CC := Lib.hid (fun V (h : Below w.heap.size w V) => refneeded_any g A n c pp V (hp.up h) hv)
    have HBL := Lib.hid ((needT_len pp pp.length).trans hlp.symm)
    rw [show neeZ g pp = (idxT (needB pp) n, 0) from by unfold neeZ; rw [if_pos hv, ← hlp]]
    obtain ⟨i0, hi, hz0, hz1, hz2⟩ := info_parts info_int
    clear hv hp hl60 hto hlp hg0
    go_enter Tryz.func10, Tryz.ntmps10
    go_wp2_with (first
      | (go_at_call 8; ((with_reducible refine CV.out.mono ?_); rintro e w1 ⟨rfl, hB1⟩; have HB1 := Lib.hid hB1; clear hB1))
      | (go_at_call 32
         (with_reducible refine (CC.out _ HB1.out).mono ?_)
         rintro e w2 ⟨gb, rfl, hF, hB2⟩
         have HF := Lib.hid hF
         have HB2 := Lib.hid (below_then HB1.out hB2)
         clear hF hB2))
    go_loopw [7, 8] (fun v i wr => ∃ (k m : Nat) (Av : Option Addr) (cv : Nat), k ≤ n ∧ i = .int .i64 k ∧ v = .slice Av m cv ∧ m ≤ k ∧ wr.ownsRow w2.heap.size 3 1 (.slice Av m cv) m ((idxT (needB pp) k).map (Value.int .i64)) ∧ Below w2.heap.size w2 wr) (fun _ i _ => n - (intOf i).toNat)
    case atStart => exact ⟨0, 0, none, 0, Nat.zero_le _, rfl, rfl, Nat.le_refl _, World.ownsRow_nil _ _ _ _, Below.refl _ _⟩
    case round =>
      obtain ⟨k, m, Av, cv, hk, rfl, rfl, hmk, hrow, hBw⟩ := hrel
      have HBW := Lib.hid hBw
      have HR := Lib.hid hrow
      by_cases hlt : k < n
      · have e2 : wr.cell? ⟨gb, k, none⟩ = some (.bool ((needB pp).getD k false)) := (hBw.cell (p := ⟨gb, k, none⟩) HF.out.lt).trans (by rw [HF.out.cell, blC_get (by have h := HBL.out; unfold needB; omega)])
        have hk0 : (0 : Int) ≤ (k : Int) := by omega
        have hk1 : (k : Int) < (n : Int) := by omega
        obtain ⟨q, hq⟩ : ∃ q, (needB pp).getD k false = q := ⟨_, rfl⟩
        rw [hq] at e2
        cases q
        · have HN := Lib.hid (show idxT (needB pp) (k + 1) = idxT (needB pp) k from by rw [idxT, hq]; simp)
          clear hrow hBw hq
          go_wp2_with fail
          go_roundw
          case rel => exact ⟨k + 1, m, Av, cv, by omega, by go_num, rfl, by omega, by rw [HN.out]; exact HR.out, HBW.out⟩
          case measure => simp [intOf]; omega
        · have HN := Lib.hid (show idxT (needB pp) (k + 1) = idxT (needB pp) k ++ [(k : Int)] from by rw [idxT, hq]; simp)
          clear hrow hBw hq
          go_wp2_with (first
            | (at_builtin
               refine wpList_append_own_at _ rfl _ _ 26 rfl w2.heap.size 3 i0 _ 1 8 Tryz.underlying26 hi hz0 hz1 hz2 rfl (by omega) (.slice Av m cv) m ((idxT (needB pp) k).map (Value.int .i64)) rfl (row_below HR.out (bel_al0 _ _)) ⟨wr.heap.size, 0, none⟩ 1 1 [.int .i64 (k : Int)] rfl rfl
                 (World.news_of_block (cs := #[.int .i64 (k : Int)]) (t := 3) (fr := (0, 0)) (heap_alloc_new wr _)) (by simp [Value.oneCell']) (by unfold maxLen; omega) (by omega) (by have := HBW.out.size; simp only [World.size_alloc]; omega) ?_
               intro v5 w5 hown5 hg5 _ _
               have HO5 := Lib.hid (row_int_snoc hown5)
               obtain ⟨g5, cap5, rfl, _⟩ := hown5.form (by omega)
               have HB5 := Lib.hid ((bel_al HBW.out _).grown hg5 (by have := HBW.out.size; simp only [World.size_alloc]; omega) (fun j e => (HR.out.lt j e).1))
               clear hown5 hg5))
          go_roundw
          case rel => exact ⟨k + 1, m + 1, _, _, by omega, by go_num, rfl, by omega, by rw [HN.out]; exact HO5.out, HB5.out⟩
          case measure => simp [intOf]; omega
      · obtain rfl : n = k := by omega
        clear hrow hBw
        go_wp2
        go_ret2
        have hm : m = (idxT (needB pp) n).length := by have := HR.out.1; rw [List.length_map] at this; omega
        obtain ⟨A', c', e', hI⟩ := row_ints HR.out (by omega)
        cases e'
        exact ⟨_, _, _, rfl, hI, below_then HB2.out HBW.out⟩

set_option maxRecDepth 100000 in
set_option maxHeartbeats 4000000 in
theorem knCited_any (g : Int) (A : Option Addr) (n c : Nat) (pp : List Stp) (w : World) (hp : StepsAt w w.heap.size A n pp) :
    Calls Tryz.prog 12 #[.int .i64 g, .slice A n c] w (RetT w (citZ g pp).1 (citZ g pp).2) := by
  have CV := Lib.hid (validProof_any g A n c pp w hp)
  cases hv : proofOk g pp
  · rw [hv] at CV
    rw [show citZ g pp = ([], 1) from by unfold citZ; rw [hv]; rfl]
    clear hv hp
    go_enter Tryz.func12, Tryz.ntmps12
    go_wp2_with (go_at_call 7; ((with_reducible refine CV.out.mono ?_); rintro e w1 ⟨rfl, hB1⟩; have HB1 := Lib.hid hB1; clear hB1))
    go_ret2
    exact ⟨none, 0, 0, rfl, IntsAt.nil _ _ 0, HB1.out⟩
  · rw [hv] at CV
    obtain ⟨hg0, hl60, hto⟩ := proofOk_to hv
    have hlp := hp.len
    have hn1 : 1 ≤ n := by omega
    have hn60 : n ≤ 60 := by omega
    obtain ⟨gn, rfl⟩ := Int.eq_ofNat_of_zero_le hg0.1
    have CC := Lib.hid (fun V (h : Below w.heap.size w V) => (needed_any (gn : Int) A n c pp V (hp.up h) hv).mono (R' := fun e w' => ∃ A' n' c', e = .returned (.slice A' n' c') ∧ IntsAt w' w'.heap.size A' n' (idxT (needB pp) n) ∧ (∀ g : Addr, A' = some g → V.heap.size ≤ g.block) ∧ Below V.heap.size V w') fun e w' ⟨v, base, h1, h2, h3, h4⟩ => by
      have hlt := h3.lt
      obtain ⟨A', c', rfl, hI⟩ := row_ints h3 (by have := idxT_len (needB pp) n; omega)
      refine ⟨A', _, c', h1, hI, fun g e => ?_, h4⟩
      have := (hlt g.block (by rw [e]; rfl)).1
      omega)
    have HZ := Lib.hid (show citZ (gn : Int) pp = (Lib.compact (srt (citI pp (idxT (needB pp) n))), 0) from by
      unfold citZ
      rw [if_pos hv, citI_idx, hlp, cited_same hto, Int.toNat_natCast])
    have HLEN := Lib.hid (show (idxT (needB pp) n).length ≤ 60 from by have := idxT_len (needB pp) n; omega)
    have HIN := Lib.hid (fun j (h : j < (idxT (needB pp) n).length) => idxT_in h)
    obtain ⟨L, hL⟩ : ∃ L, idxT (needB pp) n = L := ⟨_, rfl⟩
    rw [hL] at CC HZ HLEN HIN
    rw [HZ.out]
    have HP := Lib.hid hp
    obtain ⟨i0, hi, hz0, hz1, hz2⟩ := info_parts info_int
    clear hv hp hl60 hto hlp hg0 hL
    go_enter Tryz.func12, Tryz.ntmps12
    go_wp2_with (first
      | (go_at_call 7; ((with_reducible refine CV.out.mono ?_); rintro e w1 ⟨rfl, hB1⟩; have HB1 := Lib.hid hB1; clear hB1))
      | (go_at_call 31
         (with_reducible refine (CC.out _ (bel_al HB1.out _)).mono ?_)
         rintro e w2 ⟨A2, n2, c2, rfl, hI2, hf2, hB2⟩
         have hw2 : w1.heap.size + 1 ≤ w2.heap.size := by have := hB2.size; rw [World.size_alloc] at this; exact this
         have HRW := Lib.hid (show w2.ownsRow w1.heap.size 3 1 (.slice (some ⟨w1.heap.size, 0, none⟩) 0 0) 0 [] from row_below (show (w1.alloc (.cells #[] 3)).ownsRow w1.heap.size 3 1 (.slice (some ⟨w1.heap.size, 0, none⟩) 0 0) 0 [] from ⟨rfl, .inr ⟨w1.heap.size, 0, #[], rfl, Nat.le_refl _, heap_alloc_new w1 _, Nat.le_refl _, by unfold maxLen; omega, rfl, rfl⟩⟩) hB2)
         have HI2 := Lib.hid hI2
         have HF2 := Lib.hid (fun (g : Addr) (e : A2 = some g) => show w1.heap.size + 1 ≤ g.block from by have := hf2 g e; rw [World.size_alloc] at this; exact this)
         have HN2 := Lib.hid hI2.len
         have HB2 := Lib.hid (below_then (bel_al HB1.out _) hB2)
         have HSZ := Lib.hid (show w1.heap.size + 1 ≤ w2.heap.size from hw2)
         clear hI2 hB2 hw2 hf2))
    have hn2 : n2 ≤ 60 := by have := HN2.out; have := HLEN.out; omega
    clear CC CV
    go_loopw [6, 17] (fun v i wr => ∃ (k m : Nat) (Av : Option Addr) (cv : Nat), k ≤ n2 ∧ i = .int .i64 k ∧ v = .slice Av m cv ∧ m ≤ k ∧ wr.ownsRow w1.heap.size 3 1 (.slice Av m cv) m ((citI pp (L.take k)).map (Value.int .i64)) ∧ Below w.heap.size w wr ∧ (∀ p : Nat, p < w2.heap.size → p ≠ w1.heap.size → wr.heap[p]? = w2.heap[p]?) ∧ (∀ q, (Value.slice Av m cv).ownBlock = some q → q = w1.heap.size ∨ w2.heap.size ≤ q) ∧ w2.heap.size ≤ wr.heap.size) (fun _ i _ => n2 - (intOf i).toNat)
    case atStart => exact ⟨0, 0, _, _, Nat.zero_le _, rfl, rfl, Nat.le_refl _, HRW.out, HB2.out, fun _ _ _ => rfl, fun q e => .inl (Option.some.inj e).symm, Nat.le_refl _⟩
    case round =>
      obtain ⟨k, m, Av, cv, hk, rfl, rfl, hmk, hrow, hBw, hkeep, hown, hsz⟩ := hrel
      have HBW := Lib.hid hBw
      have HR := Lib.hid hrow
      have HKP := Lib.hid hkeep
      have HOW := Lib.hid hown
      have HS2 := Lib.hid hsz
      by_cases hlt : k < n2
      · obtain ⟨bx, ox, zx, rfl, hix, hkx, ex0⟩ := HI2.out.cellAt hlt
        have hbx := World.block_lt_of_cell? w2 _ hix
        have hbx1 : w1.heap.size + 1 ≤ bx := HF2.out _ rfl
        have t1 : wr.cell? ⟨bx, ox + k, none⟩ = some (.int .i64 zx) := (World.cell?_of_block (w := w2) (hkeep bx hbx (by omega))).trans hix
        obtain ⟨i, hin, hzi⟩ := HIN.out k hkx
        rw [ex0] at hzi
        subst hzi
        obtain ⟨b, off, x, y, z, rfl, hb', q1, q2, q3, q4⟩ := HP.out.cellAt hin
        have r1 := (hBw.cell (p := ⟨b, off + i * 3, none⟩) hb').trans q1
        have r2 := (hBw.cell (p := ⟨b, off + i * 3 + 1, none⟩) hb').trans q2
        have hd : pp.getD i (0, 0, 0) = (x, y, z) := by rw [List.getD_eq_getElem?_getD, q4]; rfl
        have hcit : citI pp (L.take (k + 1)) = citI pp (L.take k) ++ (if x = 1 then [y] else []) := by
          rw [List.take_succ_eq_append_getElem hkx, ex0, citI_snoc, Int.toNat_natCast, hd]
        have hk0 : (0 : Int) ≤ (k : Int) := by omega
        have hk1 : (k : Int) < (n2 : Int) := by omega
        have i0' : (0 : Int) ≤ (i : Int) := by omega
        have i1' : (i : Int) < (n : Int) := by omega
        by_cases h1 : x = 1
        · subst h1
          rw [if_pos rfl] at hcit
          have HN := Lib.hid hcit
          clear hrow hBw hkeep hown hsz hix hkx ex0 hbx hbx1 q1 q2 q3 q4 hd hcit
          go_wp2_with (first
            | (at_builtin
               refine wpList_append_own_at _ rfl _ _ 26 rfl w1.heap.size 3 i0 _ 1 8 Tryz.underlying26 hi hz0 hz1 hz2 rfl (by omega) (.slice Av m cv) m ((citI pp (L.take k)).map (Value.int .i64)) rfl (row_below HR.out (bel_al0 _ _)) ⟨wr.heap.size, 0, none⟩ 1 1 [.int .i64 y] rfl rfl
                 (World.news_of_block (cs := #[.int .i64 y]) (t := 3) (fr := (0, 0)) (heap_alloc_new wr _)) (by simp [Value.oneCell']) (by unfold maxLen; omega) (by omega) (by have := HS2.out; have := HSZ.out; simp only [World.size_alloc]; omega) ?_
               intro v5 w5 hown5 hg5 _ hob5
               have hs5 := hg5.size
               simp only [World.size_alloc] at hs5 hob5
               have HO5 := Lib.hid (row_int_snoc hown5)
               have HB5 := Lib.hid ((bel_al HBW.out _).grown hg5 (by have := HBW.out.size; simp only [World.size_alloc]; omega) (fun j e => Nat.le_trans HB1.out.size (HR.out.lt j e).1))
               have HK5 := Lib.hid (show ∀ p : Nat, p < w2.heap.size → p ≠ w1.heap.size → w5.heap[p]? = w2.heap[p]? from fun p hp1 hp2 => by
                 rw [hg5.block p (by simp only [World.size_alloc]; have := HS2.out; omega) (fun e => by rcases HOW.out p e.symm with h | h <;> omega), Below.heap_alloc wr _ p (by have := HS2.out; omega)]
                 exact HKP.out p hp1 hp2)
               have HW5 := Lib.hid (show ∀ q, v5.ownBlock = some q → q = w1.heap.size ∨ w2.heap.size ≤ q from fun q e => by
                 rcases hob5 with h | h
                 · rw [h] at e; exact HOW.out q e
                 · rw [h] at e; have := Option.some.inj e; have := HS2.out; omega)
               have HS5 := Lib.hid (show w2.heap.size ≤ w5.heap.size from by have := HS2.out; omega)
               obtain ⟨g5, cap5, rfl, _⟩ := hown5.form (by omega)
               clear hown5 hg5 hob5 hs5))
          go_roundw
          case rel => exact ⟨k + 1, m + 1, _, _, by omega, by go_num, rfl, by omega, by rw [HN.out]; exact HO5.out, HB5.out, HK5.out, HW5.out, HS5.out⟩
          case measure => simp [intOf]; omega
        · rw [if_neg h1, List.append_nil] at hcit
          have HN := Lib.hid hcit
          have h1' : (x == 1) = false := by simpa using h1
          clear hrow hBw hkeep hown hsz hix hkx ex0 hbx hbx1 q1 q2 q3 q4 hd hcit h1
          go_wp2_with fail
          go_roundw
          case rel => exact ⟨k + 1, m, Av, cv, by omega, by go_num, rfl, by omega, by rw [HN.out]; exact HR.out, HBW.out, HKP.out, HOW.out, HS2.out⟩
          case measure => simp [intOf]; omega
      · obtain rfl : n2 = k := by omega
        rw [List.take_of_length_le (by have := HN2.out; omega)] at hrow
        obtain ⟨zs, hzs⟩ : ∃ zs, citI pp L = zs := ⟨_, rfl⟩
        rw [hzs] at hrow
        have hml : m = zs.length := by have := hrow.1; rw [List.length_map] at this; omega
        have HZS := Lib.hid hzs
        subst hml
        have CS := Lib.hid (sortI_any (.slice Av zs.length cv) w1.heap.size zs wr hrow (by omega))
        have hb1 := HB1.out.size
        have hzl : zs.length ≤ 60 := by omega
        clear hrow hBw hkeep hown hsz hzs
        go_wp2_with (first
          | (go_at_call 33
             (with_reducible refine CS.out.mono ?_)
             rintro e w6 ⟨rfl, hr6, hs6, hB6⟩
             have HR6 := Lib.hid hr6
             have HB6 := Lib.hid (HBW.out.trans (hB6 _ hb1 HBW.out.size))
             clear hr6 hs6 hB6)
          | (go_at_call 34
             (with_reducible refine (compactI_any (.slice Av zs.length cv) w1.heap.size (srt zs) _ (HR6.out) (by rw [srt_len]; omega)).mono ?_)
             rintro e w7 ⟨A7, n7, c7, rfl, hI7, hB7⟩
             have HI7 := Lib.hid hI7
             have HB7 := Lib.hid (HB6.out.trans (hB7 _ hb1))
             clear hI7 hB7))
        go_ret2
        rw [HZS.out]
        exact ⟨_, _, _, rfl, HI7.out, HB7.out⟩

set_option maxRecDepth 100000 in
set_option maxHeartbeats 4000000 in
theorem refCited_any (g : Int) (A : Option Addr) (n c : Nat) (pp : List Stp) (w : World) (hp : StepsAt w w.heap.size A n pp) :
    Calls Tryz.prog 13 #[.int .i64 g, .slice A n c] w (RetT w (citZ g pp).1 (citZ g pp).2) := by
  have CV := Lib.hid (refValidProof_any g A n c pp w hp)
  cases hv : proofOk g pp
  · rw [hv] at CV
    rw [show citZ g pp = ([], 1) from by unfold citZ; rw [hv]; rfl]
    clear hv hp
    go_enter Tryz.func13, Tryz.ntmps13
    go_wp2_with (go_at_call 8; ((with_reducible refine CV.out.mono ?_); rintro e w1 ⟨rfl, hB1⟩; have HB1 := Lib.hid hB1; clear hB1))
    go_ret2
    exact ⟨none, 0, 0, rfl, IntsAt.nil _ _ 0, HB1.out⟩
  · rw [hv] at CV
    obtain ⟨hg0, hl60, hto⟩ := proofOk_to hv
    have hlp := hp.len
    have hn1 : 1 ≤ n := by omega
    have hn60 : n ≤ 60 := by omega
    obtain ⟨gn, rfl⟩ := Int.eq_ofNat_of_zero_le hg0.1
    have CC := Lib.hid (fun V (h : Below w.heap.size w V) => refneeded_any (gn : Int) A n c pp V (hp.up h) hv)
    have HBL := Lib.hid ((needT_len pp pp.length).trans hlp.symm)
    rw [show citZ (gn : Int) pp = (citG pp (needB pp) gn, 0) from by unfold citZ; rw [if_pos hv, Int.toNat_natCast]]
    have HP := Lib.hid hp
    have HLP := Lib.hid hlp
    obtain ⟨i0, hi, hz0, hz1, hz2⟩ := info_parts info_int
    have hg60 : gn ≤ 60 := by omega
    clear hv hp hl60 hto hlp hg0
    go_enter Tryz.func13, Tryz.ntmps13
    go_wp2_with (first
      | (go_at_call 8; ((with_reducible refine CV.out.mono ?_); rintro e w1 ⟨rfl, hB1⟩; have HB1 := Lib.hid hB1; clear hB1))
      | (go_at_call 32
         (with_reducible refine (CC.out _ HB1.out).mono ?_)
         rintro e w2 ⟨gb, rfl, hF, hB2⟩
         have HF := Lib.hid hF
         have HB2 := Lib.hid (below_then HB1.out hB2)
         clear hF hB2))
    clear CC CV
    go_loopw [7, 8] (fun v i wr => ∃ (k m : Nat) (Av : Option Addr) (cv : Nat), k ≤ gn ∧ i = .int .i64 k ∧ v = .slice Av m cv ∧ m ≤ k ∧ wr.ownsRow w2.heap.size 3 1 (.slice Av m cv) m ((citG pp (needB pp) k).map (Value.int .i64)) ∧ Below w2.heap.size w2 wr) (fun _ i _ => gn - (intOf i).toNat)
    case atStart => exact ⟨0, 0, none, 0, Nat.zero_le _, rfl, rfl, Nat.le_refl _, World.ownsRow_nil _ _ _ _, Below.refl _ _⟩
    case round =>
      obtain ⟨k, m, Av, cv, hk, rfl, rfl, hmk, hrow, hBw⟩ := hrel
      obtain ⟨Wr, hWr⟩ : ∃ Wr, Wr = wr := ⟨_, rfl⟩
      subst hWr
      have HBW := Lib.hid hBw
      have HR := Lib.hid hrow
      by_cases hlt : k < gn
      · have hk0 : (0 : Int) ≤ (k : Int) := by omega
        have hk1 : (k : Int) < (gn : Int) := by omega
        have hk2 : (k : Int) ≤ 60 := by omega
        have HG := Lib.hid (show citG pp (needB pp) (k + 1) = citG pp (needB pp) k ++ (if citB pp (needB pp) (k : Int) n = true then [(k : Int)] else []) from by rw [citG, HLP.out])
        clear hrow hBw
        go_wp2_with fail
        go_loopw [9, 10] (fun cc j wv => ∃ l : Nat, l ≤ n ∧ j = .int .i64 l ∧ cc = .bool (citB pp (needB pp) (k : Int) l) ∧ wv = Wr) (fun _ j _ => n - (intOf j).toNat)
        case atStart => exact ⟨0, Nat.zero_le _, rfl, rfl, rfl⟩
        case round =>
          obtain ⟨l, hl, rfl, rfl, rfl⟩ := hrel
          by_cases hln : l < n
          · obtain ⟨b, off, x, y, z, rfl, hb', q1, q2, q3, q4⟩ := HP.out.cellAt hln
            have hBB := below_then HB2.out HBW.out
            have r1 := (hBB.cell (p := ⟨b, off + l * 3, none⟩) hb').trans q1
            have r2 := (hBB.cell (p := ⟨b, off + l * 3 + 1, none⟩) hb').trans q2
            have e2 : wr.cell? ⟨gb, l, none⟩ = some (.bool ((needB pp).getD l false)) := (HBW.out.cell (p := ⟨gb, l, none⟩) HF.out.lt).trans (by rw [HF.out.cell, blC_get (by have h := HBL.out; unfold needB; omega)])
            have hd : pp.getD l (0, 0, 0) = (x, y, z) := by rw [List.getD_eq_getElem?_getD, q4]; rfl
            have hsc : citB pp (needB pp) (k : Int) (l + 1) = (citB pp (needB pp) (k : Int) l || ((needB pp).getD l false && decide (x = 1) && decide (y = (k : Int)))) := by rw [citB, hd]
            have l0 : (0 : Int) ≤ (l : Int) := by omega
            have l1 : (l : Int) < (n : Int) := by omega
            obtain ⟨cq, hcq⟩ : ∃ cq, citB pp (needB pp) (k : Int) l = cq := ⟨_, rfl⟩
            obtain ⟨q, hq⟩ : ∃ q, (needB pp).getD l false = q := ⟨_, rfl⟩
            rw [hcq, hq] at hsc
            rw [hq] at e2
            rw [hcq]
            cases cq
            · cases q
              · have HN := Lib.hid (show citB pp (needB pp) (k : Int) (l + 1) = false from by rw [hsc]; rfl)
                clear hsc hcq hq hd q1 q2 q3 q4 hBB
                go_wp2_with fail
                go_roundw
                case rel => exact ⟨l + 1, by omega, by go_num, by rw [HN.out], trivial⟩
                case measure => simp [intOf] <;> omega
              · by_cases h1 : x = 1
                · subst h1
                  by_cases h2 : y = (k : Int)
                  · subst h2
                    have HN := Lib.hid (show citB pp (needB pp) (k : Int) (l + 1) = true from by rw [hsc]; simp)
                    clear hsc hcq hq hd q1 q2 q3 q4 hBB
                    go_wp2_with fail
                    go_roundw
                    case rel => exact ⟨l + 1, by omega, by go_num, by rw [HN.out], trivial⟩
                    case measure => simp [intOf] <;> omega
                  · have HN := Lib.hid (show citB pp (needB pp) (k : Int) (l + 1) = false from by rw [hsc]; simp [h2])
                    have h2' : (y == (k : Int)) = false := by simpa using h2
                    clear hsc hcq hq hd q1 q2 q3 q4 hBB h2
                    go_wp2_with fail
                    go_roundw
                    case rel => exact ⟨l + 1, by omega, by go_num, by rw [HN.out], trivial⟩
                    case measure => simp [intOf] <;> omega
                · have HN := Lib.hid (show citB pp (needB pp) (k : Int) (l + 1) = false from by rw [hsc]; simp [h1])
                  have h1' : (x == 1) = false := by simpa using h1
                  clear hsc hcq hq hd q1 q2 q3 q4 hBB h1
                  go_wp2_with fail
                  go_roundw
                  case rel => exact ⟨l + 1, by omega, by go_num, by rw [HN.out], trivial⟩
                  case measure => simp [intOf] <;> omega
            · have HN := Lib.hid (show citB pp (needB pp) (k : Int) (l + 1) = true from by rw [hsc]; rfl)
              clear hsc hcq hq hd q1 q2 q3 q4 hBB
              go_wp2_with fail
              go_roundw
              case rel => exact ⟨l + 1, by omega, by go_num, by rw [HN.out], trivial⟩
              case measure => simp [intOf] <;> omega
          · obtain rfl : n = l := by omega
            obtain ⟨cq, hcq⟩ : ∃ cq, citB pp (needB pp) (k : Int) n = cq := ⟨_, rfl⟩
            have HG2 := HG.out
            rw [hcq] at HG2 ⊢
            cases cq
            · rw [if_neg (by simp), List.append_nil] at HG2
              have HN := Lib.hid HG2
              clear HG2 hcq
              go_wp2_with fail
              go_roundw
              case rel => exact ⟨k + 1, m, Av, cv, by omega, by go_num, rfl, by omega, by rw [HN.out]; exact HR.out, HBW.out⟩
              case measure => simp [intOf] <;> omega
            · rw [if_pos rfl] at HG2
              have HN := Lib.hid HG2
              clear HG2 hcq
              go_wp2_with (first
                | (at_builtin
                   refine wpList_append_own_at _ rfl _ _ 26 rfl w2.heap.size 3 i0 _ 1 8 Tryz.underlying26 hi hz0 hz1 hz2 rfl (by omega) (.slice Av m cv) m ((citG pp (needB pp) k).map (Value.int .i64)) rfl (row_below HR.out (bel_al0 _ _)) ⟨wr.heap.size, 0, none⟩ 1 1 [.int .i64 (k : Int)] rfl rfl
                     (World.news_of_block (cs := #[.int .i64 (k : Int)]) (t := 3) (fr := (0, 0)) (heap_alloc_new wr _)) (by simp [Value.oneCell']) (by unfold maxLen; omega) (by omega) (by have := HBW.out.size; simp only [World.size_alloc]; omega) ?_
                   intro v5 w5 hown5 hg5 _ _
                   have HO5 := Lib.hid (row_int_snoc hown5)
                   obtain ⟨g5, cap5, rfl, _⟩ := hown5.form (by omega)
                   have HB5 := Lib.hid ((bel_al HBW.out _).grown hg5 (by have := HBW.out.size; simp only [World.size_alloc]; omega) (fun j e => (HR.out.lt j e).1))
                   clear hown5 hg5))
              go_roundw
              case rel => exact ⟨k + 1, m + 1, _, _, by omega, by go_num, rfl, by omega, by rw [HN.out]; exact HO5.out, HB5.out⟩
              case measure => simp [intOf] <;> omega
      · obtain rfl : gn = k := by omega
        clear hrow hBw
        go_wp2
        go_ret2
        have hm : m = (citG pp (needB pp) gn).length := by have := HR.out.1; rw [List.length_map] at this; omega
        obtain ⟨A', c', e', hI⟩ := row_ints HR.out (by omega)
        cases e'
        exact ⟨_, _, _, rfl, hI, below_then HB2.out HBW.out⟩

end Go.Proofs.YtapcdhagkbfccaaGreat

/- Contract: the reference's SameInts. -/
namespace Go.Proofs.YtapcdhagkbfccaaGreat
open Go.RowKit

set_option maxRecDepth 100000 in
set_option maxHeartbeats 1000000 in
theorem sameInts_any (A A2 : Option Addr) (n c n2 c2 : Nat) (xs ys : List Int) (w : World) (B : Nat) (hx : IntsAt w B A n xs) (hy : IntsAt w B A2 n2 ys) :
    Calls Tryz.prog 11 #[.slice A n c, .slice A2 n2 c2] w fun e w' => e = .returned (.bool (decide (xs = ys))) ∧ ∃ k, w' = w.drewN k := by
  have hlx := hx.len
  have hly := hy.len
  have hmx := hx.max
  by_cases hne : n = n2
  · have HL := Lib.hid (show xs.length = ys.length by omega)
    have HX := Lib.hid hx
    have HY := Lib.hid hy
    have HLX := Lib.hid hlx
    subst hne
    have hb : ((n : Int) != (n : Int)) = false := by simp
    clear hx hy hlx hly
    go_enter Tryz.func11, Tryz.ntmps11
    go_wp2
    go_loopw [5] (fun i wr => ∃ k : Nat, k ≤ n ∧ i = .int .i64 k ∧ Agree xs ys k ∧ ∃ m, wr = w.drewN m) (fun i _ => n - (intOf i).toNat)
    case atStart => exact ⟨0, Nat.zero_le _, rfl, Agree.zero _ _, 0, rfl⟩
    case round =>
      obtain ⟨k, hk, rfl, hA, m, rfl⟩ := hrel
      by_cases hlt : k < n
      · obtain ⟨b, off, z, rfl, c1, k1, e1⟩ := HX.out.cellAt hlt
        obtain ⟨b2, off2, y, rfl, c2, k2, e2⟩ := HY.out.cellAt hlt
        have hk0 : (0 : Int) ≤ (k : Int) := by omega
        have hk1 : (k : Int) < (n : Int) := by omega
        by_cases e : z = y
        · have H := Lib.hid (hA.succ k1 k2 (by rw [e1, e2, e]))
          have he : (z != y) = false := by simp [e]
          have he2 : (z == y) = true := by simp [e]
          clear e e1 e2 hA
          go_wp2_with fail
          go_quiet (fail)
          go_wp2
          go_roundw
          case rel => exact ⟨k + 1, by omega, by go_num, H.out, _, rfl⟩
          case measure => simp [intOf]; omega
        · have H := Lib.hid (Agree.bad k1 k2 (by rw [e1, e2]; exact e))
          have he : (z != y) = true := by simp [e]
          clear e e1 e2 hA
          go_wp2_with fail
          go_quiet (fail)
          go_wp2
          go_ret
          exact ⟨ret_b H.out.symm, _, World.drewN_drewN ..⟩
      · obtain rfl : k = n := by omega
        have H := Lib.hid (Agree.good (by rw [← HLX.out]; exact hA) HL.out)
        clear hA
        go_wp2
        go_ret
        exact ⟨ret_b H.out.symm, _, rfl⟩
  · have H := Lib.hid (len_ne (xs := xs) (ys := ys) (by omega))
    have hb : ((n : Int) != (n2 : Int)) = true := by simp; omega
    clear hx hy hlx hly hne
    go_enter Tryz.func11, Tryz.ntmps11
    go_wp2
    go_ret
    exact ⟨ret_b H.out.symm, 0, rfl⟩

end Go.Proofs.YtapcdhagkbfccaaGreat

namespace Go.Proofs.YtapcdhagkbfccaaGreat
open Go.RowKit

theorem sameInts_one (A A2 : Option Addr) (n c n2 c2 : Nat) (xs : List Int) (w : World) (B : Nat) (hx : IntsAt w B A n xs) (hy : IntsAt w B A2 n2 xs) :
    Calls Tryz.prog 11 #[.slice A n c, .slice A2 n2 c2] w fun e w' => e = .returned (.bool true) ∧ ∃ k, w' = w.drewN k := by
  have := sameInts_any A A2 n c n2 c2 xs xs w B hx hy
  simpa using this

set_option maxRecDepth 100000 in
set_option maxHeartbeats 4000000 in
theorem kp_light (g : Int) (A : Option Addr) (n c : Nat) (pp : List Stp) (w : World) (_hp : StepsAt w w.heap.size A n pp) (h2 : ¬ n ≤ 100) :
    Calls Tryz.prog 3 #[.int .i64 g, .slice A n c] w fun e w' => e = .returned (.bool true) ∧ Below w.heap.size w w' := by
  have HL := Lib.hid (light_any A n c w)
  rw [decide_eq_false h2] at HL
  clear _hp h2
  go_enter Tryz.func3, Tryz.ntmps3
  go_wp2_with (first
    | (go_at_call 5; ((with_reducible refine HL.out.mono ?_); rintro e V1 ⟨rfl, rfl⟩))
    | (go_at_call 6; refine (awake4_any _).mono ?_; rintro e Vz ⟨rfl, hBz⟩; have HBz := Lib.hid (hBz); clear hBz))
  go_ret
  exact ⟨rfl, HBz.out⟩

set_option maxRecDepth 100000 in
set_option maxHeartbeats 4000000 in
theorem kp_good (g : Int) (A : Option Addr) (n c : Nat) (pp : List Stp) (w : World) (hp : StepsAt w w.heap.size A n pp) (h2 : n ≤ 100) :
    Calls Tryz.prog 3 #[.int .i64 g, .slice A n c] w fun e w' => e = .returned (.bool true) ∧ Below w.heap.size w w' := by
  have HL := Lib.hid (light_any A n c w)
  rw [decide_eq_true h2] at HL
  have HV1 := Lib.hid (validProof_any g A n c pp w hp)
  have HV2 := Lib.hid (fun (V : World) (hb : Below w.heap.size w V) => refValidProof_any g A n c pp V (hp.up hb))
  have HN1 := Lib.hid (fun (V : World) (hb : Below w.heap.size w V) => knNeeded_any g A n c pp V (hp.up hb))
  have HN2 := Lib.hid (fun (V : World) (hb : Below w.heap.size w V) => refNeeded_any g A n c pp V (hp.up hb))
  have HC1 := Lib.hid (fun (V : World) (hb : Below w.heap.size w V) => knCited_any g A n c pp V (hp.up hb))
  have HC2 := Lib.hid (fun (V : World) (hb : Below w.heap.size w V) => refCited_any g A n c pp V (hp.up hb))
  have HT1 := Lib.hid (fun (V : World) (hb : Below w.heap.size w V) => count_any g A n c pp V (hp.up hb))
  have HT2 := Lib.hid (fun (V : World) (hb : Below w.heap.size w V) => refCount_any g A n c pp V (hp.up hb))
  have HH1 := Lib.hid (fun (V : World) (hb : Below w.heap.size w V) => height_any g A n c pp V (hp.up hb))
  have HH2 := Lib.hid (fun (V : World) (hb : Below w.heap.size w V) => refHeight_any g A n c pp V (hp.up hb))
  obtain ⟨q, hq⟩ : ∃ q, proofOk g pp = q := ⟨_, rfl⟩
  rw [hq] at HV1
  simp only [hq] at HV2
  obtain ⟨Zn, hZn⟩ : ∃ Z, neeZ g pp = Z := ⟨_, rfl⟩
  obtain ⟨Zc, hZc⟩ : ∃ Z, citZ g pp = Z := ⟨_, rfl⟩
  obtain ⟨Zt, hZt⟩ : ∃ Z, cntZ g pp = Z := ⟨_, rfl⟩
  obtain ⟨Zh, hZh⟩ : ∃ Z, hgtZ g pp = Z := ⟨_, rfl⟩
  rw [hZn] at HN1 HN2
  rw [hZc] at HC1 HC2
  rw [hZt] at HT1 HT2
  rw [hZh] at HH1 HH2
  obtain ⟨ln, en⟩ := Zn
  obtain ⟨lc, ec⟩ := Zc
  obtain ⟨t, et⟩ := Zt
  obtain ⟨hh, eh⟩ := Zh
  simp only at HN1 HN2 HC1 HC2
  have x1 : (q != q) = false := by simp
  have x2 : (en != en) = false := by simp
  have x3 : (ec != ec) = false := by simp
  have x4 : (t != t) = false := by simp
  have x5 : (et != et) = false := by simp
  have x6 : (hh == hh) = true := by simp
  have x7 : (eh == eh) = true := by simp
  clear hp h2 hq hZn hZc hZt hZh
  go_enter Tryz.func3, Tryz.ntmps3
  go_wp2_with (first
    | (go_at_call 5; ((with_reducible refine HL.out.mono ?_); rintro e V1 ⟨rfl, rfl⟩))
    | (go_at_call 7
       (with_reducible refine HV1.out.mono ?_)
       rintro e V2 ⟨rfl, hB2⟩
       have HB2 := Lib.hid hB2
       clear hB2)
    | (go_at_call 8
       (with_reducible refine (HV2.out _ HB2.out).mono ?_)
       rintro e V3 ⟨rfl, hB3⟩
       have HB3 := Lib.hid (below_then HB2.out hB3)
       clear hB3)
    | (go_at_call 9
       (with_reducible refine (HN1.out _ HB3.out).mono ?_)
       rintro e V4 ⟨A4, n4, c4, rfl, hI4, hB4⟩
       have HI4 := Lib.hid hI4
       have HB4 := Lib.hid (below_then HB3.out hB4)
       clear hI4 hB4)
    | (go_at_call 10
       (with_reducible refine (HN2.out _ HB4.out).mono ?_)
       rintro e V5 ⟨A5, n5, c5, rfl, hI5, hB5⟩
       have HI5 := Lib.hid hI5
       have HI45 := Lib.hid (HI4.out.up hB5)
       have HB5 := Lib.hid (below_then HB4.out hB5)
       clear hI5 hB5)
    | (go_at_call 12
       (with_reducible refine (HC1.out _ HB6.out).mono ?_)
       rintro e V7 ⟨A7, n7, c7, rfl, hI7, hB7⟩
       have HI7 := Lib.hid hI7
       have HB7 := Lib.hid (below_then HB6.out hB7)
       clear hI7 hB7)
    | (go_at_call 13
       (with_reducible refine (HC2.out _ HB7.out).mono ?_)
       rintro e V8 ⟨A8, n8, c8, rfl, hI8, hB8⟩
       have HI8 := Lib.hid hI8
       have HI78 := Lib.hid (HI7.out.up hB8)
       have HB8 := Lib.hid (below_then HB7.out hB8)
       clear hI8 hB8)
    | (go_at_call 11
       (with_reducible refine (sameInts_one A7 A8 n7 c7 n8 c8 lc _ _ HI78.out HI8.out).mono ?_)
       rintro e V9 ⟨rfl, j9, hV9⟩
       have HB9 := Lib.hid (show Below w.heap.size w V9 from by rw [hV9]; exact below_drewN HB8.out j9)
       clear hV9)
    | (go_at_call 11
       (with_reducible refine (sameInts_one A4 A5 n4 c4 n5 c5 ln _ _ HI45.out HI5.out).mono ?_)
       rintro e V6 ⟨rfl, j6, hV6⟩
       have HB6 := Lib.hid (show Below w.heap.size w V6 from by rw [hV6]; exact below_drewN HB5.out j6)
       clear hV6)
    | (go_at_call 14
       (with_reducible refine (HT1.out _ HB9.out).mono ?_)
       rintro e V10 ⟨rfl, hB10⟩
       have HB10 := Lib.hid (below_then HB9.out hB10)
       clear hB10)
    | (go_at_call 15
       (with_reducible refine (HT2.out _ HB10.out).mono ?_)
       rintro e V11 ⟨rfl, hB11⟩
       have HB11 := Lib.hid (below_then HB10.out hB11)
       clear hB11)
    | (go_at_call 16
       (with_reducible refine (HH1.out _ HB11.out).mono ?_)
       rintro e V12 ⟨rfl, hB12⟩
       have HB12 := Lib.hid (below_then HB11.out hB12)
       clear hB12)
    | (go_at_call 17
       (with_reducible refine (HH2.out _ HB12.out).mono ?_)
       rintro e V13 ⟨rfl, hB13⟩
       have HB13 := Lib.hid (below_then HB12.out hB13)
       clear hB13)
    | (go_at_call 6; refine (awake4_any _).mono ?_; rintro e Vz ⟨rfl, hBz⟩; have HBz := Lib.hid (below_then HB13.out hBz); clear hBz))
  go_ret
  exact ⟨rfl, HBz.out⟩

theorem kp_walk (g : Int) (A : Option Addr) (n c : Nat) (pp : List Stp) (w : World) (hp : StepsAt w w.heap.size A n pp) :
    Calls Tryz.prog 3 #[.int .i64 g, .slice A n c] w fun e w' => e = .returned (.bool true) ∧ Below w.heap.size w w' := by
  by_cases h2 : n ≤ 100
  · exact kp_good g A n c pp w hp h2
  · exact kp_light g A n c pp w hp h2

end Go.Proofs.YtapcdhagkbfccaaGreat
