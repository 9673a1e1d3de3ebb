/- The kernel's fit: fitted. -/
import Derived.Test.YtojofbmpknpggaaRRg
import Derived.Test.YtojofbmpknpggaaKFg
import Derived.Test.YtojofbmpknpggaaB4g
import Derived.Test.YtojofbmpknpggaaN5g
import Derived.Deep.RegionHeld3
import Derived.Deep.AppendLies
import Derived.Deep.CutRange
import Derived.BigRegion
import Derived.BigRegionIn
namespace Go.Proofs.Ytojofbmpknpggaa
open Go.RowKit
attribute [local go_sem] Oper.semAt_some

set_option maxRecDepth 100000 in
set_option maxHeartbeats 4000000 in
theorem kfitted_any (As An : Option Addr) (ns cs nm cm nn cn0 bm offm : Nat) (ss : Sg) (zm zn : List Int) (f : Nat) (kp' : List Nat) (w : World) (hs : SigAt w w.heap.size As ns ss) (hm : IntsAt w w.heap.size (some ⟨bm, offm, none⟩) nm zm) (hn : IntsAt w w.heap.size An nn zn) (h1 : 1 ≤ nm) (hm60 : nm ≤ 60) (hn60 : nn ≤ 60) (hlo : ∀ z ∈ zn, -100 ≤ z ∧ z ≤ 1000)
    (ho : KOk ss (zm ++ zn.map shv) (kbF ss (zm ++ zn.map shv))) (hp : PartsOk ss (zm ++ zn.map shv)) (hu : uniK ss (zm ++ zn.map shv) (kbF ss (zm ++ zn.map shv)) f (kpF (zm ++ zn.map shv)) 1 nm = some kp') :
    Calls Try.prog 81 #[.slice As ns cs, .slice (some ⟨bm, offm, none⟩) nm cm, .slice An nn cn0] w fun e w' =>
      ∃ fb gn gb gp cn cb cp, e = .returned (.pointer (some ⟨fb, 0, none⟩)) ∧ FitAt w' fb gn gb gp As ns cs cn cb cp ss (zm ++ zn.map shv) (kbF ss (zm ++ zn.map shv)) kp' ∧ Below w.heap.size w w' := by
  obtain ⟨i0, hi, hz0, hz1, hz2⟩ := info_parts info_int
  have hlm := hm.len
  have hln := hn.len
  have HM := Lib.hid hm
  have HNN := Lib.hid hn
  have HLM := Lib.hid hlm
  have HLN := Lib.hid hln
  have HS := Lib.hid hs
  have HO := Lib.hid ho
  have HP := Lib.hid hp
  have HU := Lib.hid hu
  have HLO := Lib.hid hlo
  have CC := Lib.hid (by
    obtain ⟨b, off, e, hb, hc⟩ := hm.mem (by omega)
    cases e
    exact (cloneT_any w bm offm nm cm zm h1 (by omega) hlm.symm hc hb).mono (R' := fun e w' => ∃ g c, e = .returned (.slice (some ⟨g, 0, none⟩) nm c) ∧ w'.ownsRow w.heap.size 3 1 (.slice (some ⟨g, 0, none⟩) nm c) nm (zm.map (Value.int .i64)) ∧ Below w.heap.size w w') fun e w' ⟨v, h1, h2, h3⟩ => by
      rw [List.length_map, ← hlm] at h2
      obtain ⟨g, c, rfl, _⟩ := h2.form (by omega)
      exact ⟨g, c, h1, h2, h3⟩)
  clear hs hm hn ho hp hu hlo hlm hln
  refine callsIn_wide (n := 5) |>.1 ?_
  refine callsIn_of_wp_marks Try.func81 rfl trivial ?_ rfl
  simp only [Try.ntmps81, List.size_toArray, List.length_cons, List.length_nil, Nat.reduceAdd, Nat.reduceSub, Array.replicate_succ, Array.replicate_zero, List.push_toArray, List.append_toArray, List.nil_append, List.cons_append]
  gi_wp2_with (refine ⟨trivial, ?_⟩; gi_at_call 87; refine (callsIn_wide.2 CC.out).mono ?_; rintro e w1 ⟨g1, cap1, rfl, hown1, hB1⟩; have HOWN1 := Lib.hid hown1; have HB1 := Lib.hid hB1; clear hown1 hB1)
  obtain ⟨fb, hfb⟩ : ∃ fb, w1.heap.size = fb := ⟨_, rfl⟩
  obtain ⟨W2, hW2⟩ : ∃ W2, (w1.alloc (.cells #[.slice As ns cs, .slice (some ⟨g1, 0, none⟩) nm cap1, .slice none 0 0, .slice none 0 0] 111)).alloc (.cells #[.pointer (some ⟨w1.heap.size, 0, none⟩)] 107) = W2 := ⟨_, rfl⟩
  have kf : Blk W2 fb 111 #[.slice As ns cs, .slice (some ⟨g1, 0, none⟩) nm cap1, .slice none 0 0, .slice none 0 0] := by rw [← hW2, ← hfb]; exact (Blk.new w1 _ _).alloc _
  have kc : Blk W2 (fb + 1) 107 #[.pointer (some ⟨fb, 0, none⟩)] := by
    rw [← hW2, ← hfb]
    have := Blk.new (w1.alloc (.cells #[.slice As ns cs, .slice (some ⟨g1, 0, none⟩) nm cap1, .slice none 0 0, .slice none 0 0] 111)) 107 #[.pointer (some ⟨w1.heap.size, 0, none⟩)]
    rw [World.size_alloc] at this
    exact this
  have hB2 : Below w1.heap.size w1 W2 := by rw [← hW2]; exact bel_al (bel_al (Below.refl _ w1) _) _
  have hown2 : W2.ownsRow w.heap.size 3 1 (.slice (some ⟨g1, 0, none⟩) nm cap1) nm (zm.map (Value.int .i64)) := by rw [← hW2]; exact (HOWN1.out.alloc _).alloc _
  have hg1 : g1 < fb := by rw [← hfb]; exact (HOWN1.out.lt g1 rfl).2
  rw [hW2, hfb]
  have HB2 := Lib.hid (below_then HB1.out hB2)
  have hfbw : w.heap.size ≤ fb := by rw [← hfb]; exact HB1.out.size
  have HKF := Lib.hid kf
  have HKC := Lib.hid kc
  have HOWN2 := Lib.hid hown2
  clear hW2 hB2 HOWN1 HB1 kf kc hown2 CC hfb
  refine wpIn_wide.2 ?_
  go_loopw [19] (fun i wr => ∃ (k g c : Nat), k ≤ nn ∧ i = .int .i64 k ∧ Hid (Blk wr fb 111 #[.slice As ns cs, .slice (some ⟨g, 0, none⟩) (nm + k) c, .slice none 0 0, .slice none 0 0]) ∧ Hid (Blk wr (fb + 1) 107 #[.pointer (some ⟨fb, 0, none⟩)]) ∧ Hid (wr.ownsRow w.heap.size 3 1 (.slice (some ⟨g, 0, none⟩) (nm + k) c) (nm + k) ((zm ++ (zn.take k).map shv).map (Value.int .i64))) ∧ g ≠ fb ∧ g ≠ fb + 1 ∧ Hid (Below w.heap.size w wr)) (fun i _ => nn - (intOf i).toNat)
  case atStart => exact ⟨0, g1, cap1, Nat.zero_le _, rfl, by rw [Nat.add_zero]; exact HKF, HKC, by rw [Nat.add_zero, List.take_zero, List.map_nil, List.append_nil]; exact HOWN2, by omega, by omega, HB2⟩
  case round =>
    obtain ⟨k, g, c, hk, rfl, hF, hC, hO, hgf, hgc, hB⟩ := hrel
    by_cases hlt : k < nn
    · obtain ⟨b, off, z, rfl, c1, k1, e1⟩ := HNN.out.cellAt hlt
      obtain ⟨b', off', he', hbl, _⟩ := HNN.out.mem (by omega)
      cases he'
      have cz := (hB.out.cell (p := ⟨b, off + k, none⟩) hbl).trans c1
      have hzz := HLO.out z (by rw [← e1]; exact List.getElem_mem k1)
      have hk0 : (0 : Int) ≤ (k : Int) := by omega
      have hk1 : (k : Int) < (nn : Int) := by omega
      have hrow : zm ++ (zn.take (k + 1)).map shv = zm ++ (zn.take k).map shv ++ [shv z] := by
        rw [← e1, ← List.take_append_getElem k1, List.map_append, List.append_assoc]; rfl
      have HROWE := Lib.hid hrow
      obtain ⟨y, hy⟩ : ∃ y, shv z = y := ⟨_, rfl⟩
      have HY := Lib.hid hy
      have cf1 := hF.out.cell 1
      have cc0 := hC.out.cell 0
      have ff1 := hF.out.frozen 1
      simp only [List.getElem?_toArray, List.getElem?_cons_zero, List.getElem?_cons_succ] at cf1 cc0
      clear c1 e1 hrow
      by_cases hneg : z < 0
      · have hy1 : z - 12 = y := by rw [← hy]; unfold shv; rw [if_pos hneg]
        clear hy
        go_upto_region 7 with fail
        have hBd : Below w.heap.size w (wr.drew.alloc (.cells #[.int .i64 y] 3)) := (hB.out.drew).alloc hB.out.size _
        have hWd : Below wr.heap.size wr (wr.drew.alloc (.cells #[.int .i64 y] 3)) := ((Below.refl wr.heap.size wr).drew).alloc (Nat.le_refl _) _
        have HBD := Lib.hid hBd
        have HWD := Lib.hid hWd
        have HROWD := Lib.hid (show (wr.drew.alloc (.cells #[.int .i64 y] 3)).ownsRow w.heap.size 3 1 (.slice (some ⟨g, 0, none⟩) (nm + k) c) (nm + k) ((zm ++ (zn.take k).map shv).map (Value.int .i64)) from World.ownsRow.alloc hO.out _)
        have HF5 := Lib.hid (hF.out.below HWD.out hF.out.lt)
        have HC5 := Lib.hid (hC.out.below HWD.out hC.out.lt)
        have hfl := hF.out.lt
        have hcl := hC.out.lt
        clear hBd hWd
        refine wp_region_noPanic ?_
        refine wp_region_held_drew (S := (fun w' => w'.cell? ⟨fb + 1, 0, none⟩ = some (.pointer (some ⟨fb, 0, none⟩)))) (by kernel_rfl) ?_ (fun hHeld => ?_)
        · first | go_keep | assumption | exact HPUT.out _
        refine wpAnyH_take (i := 0) (v := ?_) rfl (by kernel_rfl) (by kernel_rfl) (by kernel_rfl) (fun _ _ _ h => h) (Or.inl ⟨by rfl, ?_⟩) (by assumption) ?_
        rotate_left
        · intro w hSw; (try dsimp only at hSw); go_simp <;> with_reducible rfl
        try simp only [List.getElem_toArray, List.getElem_cons_zero, Act.put, List.setIfInBounds_toArray, List.set_cons_zero, List.set_cons_succ]
        refine wpAnyH_take (i := 1) (v := ?_) rfl (by kernel_rfl) (by kernel_rfl) (by kernel_rfl) (fun _ _ _ h => h) (Or.inl ⟨by rfl, ?_⟩) (by assumption) ?_
        rotate_left
        · intro w hSw; (try dsimp only at hSw); go_simp <;> with_reducible rfl
        try simp only [List.getElem_toArray, List.getElem_cons_succ, List.getElem_cons_zero, Act.put, List.setIfInBounds_toArray, List.set_cons_zero, List.set_cons_succ]
        refine wpAnyH_take (i := 2) (v := ?_) rfl (by kernel_rfl) (by kernel_rfl) (by kernel_rfl) (fun _ _ _ h => h) (Or.inl ⟨by rfl, ?_⟩) (by assumption) ?_
        rotate_left
        · intro w hSw; (try dsimp only at hSw); go_simp <;> with_reducible rfl
        try simp only [List.getElem_toArray, List.getElem_cons_succ, List.getElem_cons_zero, Act.put, List.setIfInBounds_toArray, List.set_cons_zero, List.set_cons_succ]
        refine wpAnyH_take (i := 3) (v := ?_) rfl (by kernel_rfl) (by kernel_rfl) (by kernel_rfl) (fun _ _ _ h => h) (Or.inl ⟨by rfl, ?_⟩) (by assumption) ?_
        rotate_left
        · intro w hSw; (try dsimp only at hSw); go_simp <;> with_reducible rfl
        try simp only [List.getElem_toArray, List.getElem_cons_succ, List.getElem_cons_zero, Act.put, List.setIfInBounds_toArray, List.set_cons_zero, List.set_cons_succ]
        refine wpAnyH_take (i := 5) (v := ?_) rfl (by kernel_rfl) (by kernel_rfl) (by kernel_rfl) (fun _ _ _ h => h) (Or.inl ⟨by rfl, ?_⟩) (by assumption) ?_
        rotate_left
        · intro w hSw; (try dsimp only at hSw); go_simp <;> with_reducible rfl
        try simp only [List.getElem_toArray, List.getElem_cons_succ, List.getElem_cons_zero, Act.put, List.setIfInBounds_toArray, List.set_cons_zero, List.set_cons_succ]
        refine wpAnyH_ready (rs := [4, 6]) (by kernel_rfl) (by simp) (AllReadyH.cons rfl (fun K hK => ?_) (AllReadyH.cons rfl (fun K hK => ?_) AllReadyH.nil))
        focus
          go_simp
          skip
          try go_wp2_with fail
          refine hK.out _ _ ?_ (fun hHeld => ?_)
          · first | go_keep | assumption | exact HPUT.out _
          clear hK K
          try simp only [List.getElem_toArray, List.getElem_cons_succ, List.getElem_cons_zero, Act.put, List.setIfInBounds_toArray, List.set_cons_zero, List.set_cons_succ]
          refine wpAnyH_ready (rs := [6]) (by kernel_rfl) (by simp) (AllReadyH.cons rfl (fun K hK => ?_) AllReadyH.nil)
          go_simp
          skip
          try go_wp2_with fail
          refine hK.out _ _ ?_ (fun hHeld => ?_)
          · first | go_keep | assumption | exact HPUT.out _
          clear hK K
          try simp only [List.getElem_toArray, List.getElem_cons_succ, List.getElem_cons_zero, Act.put, List.setIfInBounds_toArray, List.set_cons_zero, List.set_cons_succ]
          refine wpAnyH_ready (rs := [7]) (by kernel_rfl) (by simp) (AllReadyH.cons rfl (fun K hK => ?_) AllReadyH.nil)
          refine step_append_lies _ (by rfl) _ _ _ (by rfl) _ 3 i0 _ 1 8 Try.underlying24 hi hz0 hz1 hz2 (by rfl) (by omega) (.slice (some ⟨g, 0, none⟩) (nm + k) c) (nm + k) ((zm ++ (zn.take k).map shv).map (Value.int .i64)) (by rfl) HROWD.out ⟨wr.heap.size, 0, none⟩ 1 1 [.int .i64 y] (by rfl) (by rfl) (World.news_of_block (cs := #[.int .i64 y]) (t := 3) (fr := (0, 0)) (heap_alloc_new wr.drew _)) (by simp [Value.oneCell']) (by omega) (by unfold maxLen; omega) (by omega) HBD.out.size _ rfl ?_
          intro g5 cap5 w5 hrow5 hg5 hloc5 _
          have hb5 : Below w.heap.size w w5 := HBD.out.grown hg5 HBD.out.size (fun j e => (HROWD.out.lt j e).1)
          have cf5 : w5.cell? ⟨fb, 1, none⟩ = some (.slice (some ⟨g, 0, none⟩) (nm + k) c) := (cell_grown hg5 (Nat.lt_of_lt_of_le hfl HWD.out.size) (fun e => hgf (Option.some.inj e))).trans ((HWD.out.cell (p := ⟨fb, 1, none⟩) hfl).trans cf1)
          have cc5 : w5.cell? ⟨fb + 1, 0, none⟩ = some (.pointer (some ⟨fb, 0, none⟩)) := (cell_grown hg5 (Nat.lt_of_lt_of_le hcl HWD.out.size) (fun e => hgc (Option.some.inj e))).trans ((HWD.out.cell (p := ⟨fb + 1, 0, none⟩) hcl).trans cc0)
          have ff5 : w5.frozen? ⟨fb, 1, none⟩ = false := (frozen_grown hg5 (Nat.lt_of_lt_of_le hfl HWD.out.size) (fun e => hgf (Option.some.inj e))).trans ((World.frozen?_of_block (HWD.out.block _ hfl)).trans ff1)
          have HPUT := Lib.hid (fun v => show (w5.setCell ⟨fb, 1, none⟩ v).drew.cell? ⟨fb + 1, 0, none⟩ = some (.pointer (some ⟨fb, 0, none⟩)) from (World.cell?_setCell_far w5 ⟨fb, 1, none⟩ ⟨fb + 1, 0, none⟩ v (show fb ≠ fb + 1 by omega)).trans cc5)
          have HROW5 := Lib.hid hrow5
          have HB5 := Lib.hid hb5
          have HG5 := Lib.hid hg5
          have HLOC := Lib.hid hloc5
          clear hrow5 hg5 hloc5 hb5
          try go_wp2_with fail
          refine hK.out _ _ ?_ (fun hHeld => ?_)
          · first | go_keep | assumption | exact HPUT.out _
          clear hK K
          try simp only [List.getElem_toArray, List.getElem_cons_succ, List.getElem_cons_zero, Act.put, List.setIfInBounds_toArray, List.set_cons_zero, List.set_cons_succ]
          refine wpAnyH_take (i := 8) (v := ?_) rfl (by kernel_rfl) (by kernel_rfl) (by kernel_rfl) (fun _ _ _ h => h) (Or.inl ⟨by rfl, ?_⟩) (by assumption) ?_
          rotate_left
          · intro w hSw; (try dsimp only at hSw); go_simp <;> with_reducible rfl
          try simp only [List.getElem_toArray, List.getElem_cons_succ, List.getElem_cons_zero, Act.put, List.setIfInBounds_toArray, List.set_cons_zero, List.set_cons_succ]
          refine wpAnyH_take (i := 9) (v := ?_) rfl (by kernel_rfl) (by kernel_rfl) (by kernel_rfl) (fun _ _ _ h => h) (Or.inl ⟨by rfl, ?_⟩) (by assumption) ?_
          rotate_left
          · intro w hSw; (try dsimp only at hSw); go_simp <;> with_reducible rfl
          try simp only [List.getElem_toArray, List.getElem_cons_succ, List.getElem_cons_zero, Act.put, List.setIfInBounds_toArray, List.set_cons_zero, List.set_cons_succ]
          refine wpAnyH_ready (rs := [10]) (by kernel_rfl) (by simp) (AllReadyH.cons rfl (fun K hK => ?_) AllReadyH.nil)
          go_simp
          skip
          try go_wp2_with fail
          refine hK.out _ _ ?_ (fun hHeld => ?_)
          · first | go_keep | assumption | exact HPUT.out _
          clear hK K
          try simp only [List.getElem_toArray, List.getElem_cons_succ, List.getElem_cons_zero, Act.put, List.setIfInBounds_toArray, List.set_cons_zero, List.set_cons_succ]
          refine wpAnyH_done (by kernel_rfl) ?_ _
          refine NoPanic.normal ?_
        rotate_left
        focus
          go_simp
          skip
          try go_wp2_with fail
          refine hK.out _ _ ?_ (fun hHeld => ?_)
          · first | go_keep | assumption | exact HPUT.out _
          clear hK K
          try simp only [List.getElem_toArray, List.getElem_cons_succ, List.getElem_cons_zero, Act.put, List.setIfInBounds_toArray, List.set_cons_zero, List.set_cons_succ]
          refine wpAnyH_ready (rs := [4]) (by kernel_rfl) (by simp) (AllReadyH.cons rfl (fun K hK => ?_) AllReadyH.nil)
          go_simp
          skip
          try go_wp2_with fail
          refine hK.out _ _ ?_ (fun hHeld => ?_)
          · first | go_keep | assumption | exact HPUT.out _
          clear hK K
          try simp only [List.getElem_toArray, List.getElem_cons_succ, List.getElem_cons_zero, Act.put, List.setIfInBounds_toArray, List.set_cons_zero, List.set_cons_succ]
          refine wpAnyH_ready (rs := [7]) (by kernel_rfl) (by simp) (AllReadyH.cons rfl (fun K hK => ?_) AllReadyH.nil)
          refine step_append_lies _ (by rfl) _ _ _ (by rfl) _ 3 i0 _ 1 8 Try.underlying24 hi hz0 hz1 hz2 (by rfl) (by omega) (.slice (some ⟨g, 0, none⟩) (nm + k) c) (nm + k) ((zm ++ (zn.take k).map shv).map (Value.int .i64)) (by rfl) HROWD.out ⟨wr.heap.size, 0, none⟩ 1 1 [.int .i64 y] (by rfl) (by rfl) (World.news_of_block (cs := #[.int .i64 y]) (t := 3) (fr := (0, 0)) (heap_alloc_new wr.drew _)) (by simp [Value.oneCell']) (by omega) (by unfold maxLen; omega) (by omega) HBD.out.size _ rfl ?_
          intro g5 cap5 w5 hrow5 hg5 hloc5 _
          have hb5 : Below w.heap.size w w5 := HBD.out.grown hg5 HBD.out.size (fun j e => (HROWD.out.lt j e).1)
          have cf5 : w5.cell? ⟨fb, 1, none⟩ = some (.slice (some ⟨g, 0, none⟩) (nm + k) c) := (cell_grown hg5 (Nat.lt_of_lt_of_le hfl HWD.out.size) (fun e => hgf (Option.some.inj e))).trans ((HWD.out.cell (p := ⟨fb, 1, none⟩) hfl).trans cf1)
          have cc5 : w5.cell? ⟨fb + 1, 0, none⟩ = some (.pointer (some ⟨fb, 0, none⟩)) := (cell_grown hg5 (Nat.lt_of_lt_of_le hcl HWD.out.size) (fun e => hgc (Option.some.inj e))).trans ((HWD.out.cell (p := ⟨fb + 1, 0, none⟩) hcl).trans cc0)
          have ff5 : w5.frozen? ⟨fb, 1, none⟩ = false := (frozen_grown hg5 (Nat.lt_of_lt_of_le hfl HWD.out.size) (fun e => hgf (Option.some.inj e))).trans ((World.frozen?_of_block (HWD.out.block _ hfl)).trans ff1)
          have HPUT := Lib.hid (fun v => show (w5.setCell ⟨fb, 1, none⟩ v).drew.cell? ⟨fb + 1, 0, none⟩ = some (.pointer (some ⟨fb, 0, none⟩)) from (World.cell?_setCell_far w5 ⟨fb, 1, none⟩ ⟨fb + 1, 0, none⟩ v (show fb ≠ fb + 1 by omega)).trans cc5)
          have HROW5 := Lib.hid hrow5
          have HB5 := Lib.hid hb5
          have HG5 := Lib.hid hg5
          have HLOC := Lib.hid hloc5
          clear hrow5 hg5 hloc5 hb5
          try go_wp2_with fail
          refine hK.out _ _ ?_ (fun hHeld => ?_)
          · first | go_keep | assumption | exact HPUT.out _
          clear hK K
          try simp only [List.getElem_toArray, List.getElem_cons_succ, List.getElem_cons_zero, Act.put, List.setIfInBounds_toArray, List.set_cons_zero, List.set_cons_succ]
          refine wpAnyH_take (i := 8) (v := ?_) rfl (by kernel_rfl) (by kernel_rfl) (by kernel_rfl) (fun _ _ _ h => h) (Or.inl ⟨by rfl, ?_⟩) (by assumption) ?_
          rotate_left
          · intro w hSw; (try dsimp only at hSw); go_simp <;> with_reducible rfl
          try simp only [List.getElem_toArray, List.getElem_cons_succ, List.getElem_cons_zero, Act.put, List.setIfInBounds_toArray, List.set_cons_zero, List.set_cons_succ]
          refine wpAnyH_take (i := 9) (v := ?_) rfl (by kernel_rfl) (by kernel_rfl) (by kernel_rfl) (fun _ _ _ h => h) (Or.inl ⟨by rfl, ?_⟩) (by assumption) ?_
          rotate_left
          · intro w hSw; (try dsimp only at hSw); go_simp <;> with_reducible rfl
          try simp only [List.getElem_toArray, List.getElem_cons_succ, List.getElem_cons_zero, Act.put, List.setIfInBounds_toArray, List.set_cons_zero, List.set_cons_succ]
          refine wpAnyH_ready (rs := [10]) (by kernel_rfl) (by simp) (AllReadyH.cons rfl (fun K hK => ?_) AllReadyH.nil)
          go_simp
          skip
          try go_wp2_with fail
          refine hK.out _ _ ?_ (fun hHeld => ?_)
          · first | go_keep | assumption | exact HPUT.out _
          clear hK K
          try simp only [List.getElem_toArray, List.getElem_cons_succ, List.getElem_cons_zero, Act.put, List.setIfInBounds_toArray, List.set_cons_zero, List.set_cons_succ]
          refine wpAnyH_done (by kernel_rfl) ?_ _
          refine NoPanic.normal ?_
        all_goals
          have hF6 : Blk (w5.setCell ⟨fb, 1, none⟩ (.slice (some ⟨g5, 0, none⟩) (nm + k + 1) cap5)) fb 111 #[.slice As ns cs, .slice (some ⟨g5, 0, none⟩) (nm + (k + 1)) cap5, .slice none 0 0, .slice none 0 0] := by
            have h5 : Blk w5 fb 111 #[.slice As ns cs, .slice (some ⟨g, 0, none⟩) (nm + k) c, .slice none 0 0, .slice none 0 0] := (HF5.out).grown HG5.out (fun e => hgf (Option.some.inj e).symm)
            exact h5.set_ 1 _
          have hne5 : g5 ≠ fb ∧ g5 ≠ fb + 1 := by
            rcases HLOC.out with e | e
            · cases e; exact ⟨hgf, hgc⟩
            · have e2 : g5 = wr.heap.size + 1 := by rw [e]; exact World.size_alloc wr _
              omega
          have hC6 : Blk (w5.setCell ⟨fb, 1, none⟩ (.slice (some ⟨g5, 0, none⟩) (nm + k + 1) cap5)) (fb + 1) 107 #[.pointer (some ⟨fb, 0, none⟩)] := by
            have h5 : Blk w5 (fb + 1) 107 #[.pointer (some ⟨fb, 0, none⟩)] := (HC5.out).grown HG5.out (fun e => hgc (Option.some.inj e).symm)
            exact h5.far (by show fb + 1 ≠ fb; omega) _
          have hO6 : (w5.setCell ⟨fb, 1, none⟩ (.slice (some ⟨g5, 0, none⟩) (nm + k + 1) cap5)).ownsRow w.heap.size 3 1 (.slice (some ⟨g5, 0, none⟩) (nm + (k + 1)) cap5) (nm + (k + 1)) ((zm ++ (zn.take (k + 1)).map shv).map (Value.int .i64)) := by
            rw [HROWE.out, HY.out, List.map_append]
            exact ownsRow_movedK HROW5.out fun g' e => by cases e; exact heap_setCell_other w5 ⟨fb, 1, none⟩ g5 _ hne5.1
          have HF6 := Lib.hid hF6
          have HC6 := Lib.hid hC6
          have HO6 := Lib.hid hO6
          have HB6 := Lib.hid (HB5.out.setCell (p := ⟨fb, 1, none⟩) hfbw (.slice (some ⟨g5, 0, none⟩) (nm + k + 1) cap5))
          clear hF6 hC6 hO6
          go_wp2
          go_roundw
          case rel => exact ⟨k + 1, g5, cap5, by omega, by go_num, HF6, HC6, HO6, hne5.1, hne5.2, HB6⟩
          case measure => simp [intOf]; omega
      · have hy1 : y = z := by rw [← hy]; unfold shv; rw [if_neg hneg]
        clear hy
        subst hy1
        go_upto_region 7 with fail
        have hBd : Below w.heap.size w (wr.drew.alloc (.cells #[.int .i64 y] 3)) := (hB.out.drew).alloc hB.out.size _
        have hWd : Below wr.heap.size wr (wr.drew.alloc (.cells #[.int .i64 y] 3)) := ((Below.refl wr.heap.size wr).drew).alloc (Nat.le_refl _) _
        have HBD := Lib.hid hBd
        have HWD := Lib.hid hWd
        have HROWD := Lib.hid (show (wr.drew.alloc (.cells #[.int .i64 y] 3)).ownsRow w.heap.size 3 1 (.slice (some ⟨g, 0, none⟩) (nm + k) c) (nm + k) ((zm ++ (zn.take k).map shv).map (Value.int .i64)) from World.ownsRow.alloc hO.out _)
        have HF5 := Lib.hid (hF.out.below HWD.out hF.out.lt)
        have HC5 := Lib.hid (hC.out.below HWD.out hC.out.lt)
        have hfl := hF.out.lt
        have hcl := hC.out.lt
        clear hBd hWd
        refine wp_region_noPanic ?_
        refine wp_region_held_drew (S := (fun w' => w'.cell? ⟨fb + 1, 0, none⟩ = some (.pointer (some ⟨fb, 0, none⟩)))) (by kernel_rfl) ?_ (fun hHeld => ?_)
        · first | go_keep | assumption | exact HPUT.out _
        refine wpAnyH_take (i := 0) (v := ?_) rfl (by kernel_rfl) (by kernel_rfl) (by kernel_rfl) (fun _ _ _ h => h) (Or.inl ⟨by rfl, ?_⟩) (by assumption) ?_
        rotate_left
        · intro w hSw; (try dsimp only at hSw); go_simp <;> with_reducible rfl
        try simp only [List.getElem_toArray, List.getElem_cons_zero, Act.put, List.setIfInBounds_toArray, List.set_cons_zero, List.set_cons_succ]
        refine wpAnyH_take (i := 1) (v := ?_) rfl (by kernel_rfl) (by kernel_rfl) (by kernel_rfl) (fun _ _ _ h => h) (Or.inl ⟨by rfl, ?_⟩) (by assumption) ?_
        rotate_left
        · intro w hSw; (try dsimp only at hSw); go_simp <;> with_reducible rfl
        try simp only [List.getElem_toArray, List.getElem_cons_succ, List.getElem_cons_zero, Act.put, List.setIfInBounds_toArray, List.set_cons_zero, List.set_cons_succ]
        refine wpAnyH_take (i := 2) (v := ?_) rfl (by kernel_rfl) (by kernel_rfl) (by kernel_rfl) (fun _ _ _ h => h) (Or.inl ⟨by rfl, ?_⟩) (by assumption) ?_
        rotate_left
        · intro w hSw; (try dsimp only at hSw); go_simp <;> with_reducible rfl
        try simp only [List.getElem_toArray, List.getElem_cons_succ, List.getElem_cons_zero, Act.put, List.setIfInBounds_toArray, List.set_cons_zero, List.set_cons_succ]
        refine wpAnyH_take (i := 3) (v := ?_) rfl (by kernel_rfl) (by kernel_rfl) (by kernel_rfl) (fun _ _ _ h => h) (Or.inl ⟨by rfl, ?_⟩) (by assumption) ?_
        rotate_left
        · intro w hSw; (try dsimp only at hSw); go_simp <;> with_reducible rfl
        try simp only [List.getElem_toArray, List.getElem_cons_succ, List.getElem_cons_zero, Act.put, List.setIfInBounds_toArray, List.set_cons_zero, List.set_cons_succ]
        refine wpAnyH_take (i := 5) (v := ?_) rfl (by kernel_rfl) (by kernel_rfl) (by kernel_rfl) (fun _ _ _ h => h) (Or.inl ⟨by rfl, ?_⟩) (by assumption) ?_
        rotate_left
        · intro w hSw; (try dsimp only at hSw); go_simp <;> with_reducible rfl
        try simp only [List.getElem_toArray, List.getElem_cons_succ, List.getElem_cons_zero, Act.put, List.setIfInBounds_toArray, List.set_cons_zero, List.set_cons_succ]
        refine wpAnyH_ready (rs := [4, 6]) (by kernel_rfl) (by simp) (AllReadyH.cons rfl (fun K hK => ?_) (AllReadyH.cons rfl (fun K hK => ?_) AllReadyH.nil))
        focus
          go_simp
          skip
          try go_wp2_with fail
          refine hK.out _ _ ?_ (fun hHeld => ?_)
          · first | go_keep | assumption | exact HPUT.out _
          clear hK K
          try simp only [List.getElem_toArray, List.getElem_cons_succ, List.getElem_cons_zero, Act.put, List.setIfInBounds_toArray, List.set_cons_zero, List.set_cons_succ]
          refine wpAnyH_ready (rs := [6]) (by kernel_rfl) (by simp) (AllReadyH.cons rfl (fun K hK => ?_) AllReadyH.nil)
          go_simp
          skip
          try go_wp2_with fail
          refine hK.out _ _ ?_ (fun hHeld => ?_)
          · first | go_keep | assumption | exact HPUT.out _
          clear hK K
          try simp only [List.getElem_toArray, List.getElem_cons_succ, List.getElem_cons_zero, Act.put, List.setIfInBounds_toArray, List.set_cons_zero, List.set_cons_succ]
          refine wpAnyH_ready (rs := [7]) (by kernel_rfl) (by simp) (AllReadyH.cons rfl (fun K hK => ?_) AllReadyH.nil)
          refine step_append_lies _ (by rfl) _ _ _ (by rfl) _ 3 i0 _ 1 8 Try.underlying24 hi hz0 hz1 hz2 (by rfl) (by omega) (.slice (some ⟨g, 0, none⟩) (nm + k) c) (nm + k) ((zm ++ (zn.take k).map shv).map (Value.int .i64)) (by rfl) HROWD.out ⟨wr.heap.size, 0, none⟩ 1 1 [.int .i64 y] (by rfl) (by rfl) (World.news_of_block (cs := #[.int .i64 y]) (t := 3) (fr := (0, 0)) (heap_alloc_new wr.drew _)) (by simp [Value.oneCell']) (by omega) (by unfold maxLen; omega) (by omega) HBD.out.size _ rfl ?_
          intro g5 cap5 w5 hrow5 hg5 hloc5 _
          have hb5 : Below w.heap.size w w5 := HBD.out.grown hg5 HBD.out.size (fun j e => (HROWD.out.lt j e).1)
          have cf5 : w5.cell? ⟨fb, 1, none⟩ = some (.slice (some ⟨g, 0, none⟩) (nm + k) c) := (cell_grown hg5 (Nat.lt_of_lt_of_le hfl HWD.out.size) (fun e => hgf (Option.some.inj e))).trans ((HWD.out.cell (p := ⟨fb, 1, none⟩) hfl).trans cf1)
          have cc5 : w5.cell? ⟨fb + 1, 0, none⟩ = some (.pointer (some ⟨fb, 0, none⟩)) := (cell_grown hg5 (Nat.lt_of_lt_of_le hcl HWD.out.size) (fun e => hgc (Option.some.inj e))).trans ((HWD.out.cell (p := ⟨fb + 1, 0, none⟩) hcl).trans cc0)
          have ff5 : w5.frozen? ⟨fb, 1, none⟩ = false := (frozen_grown hg5 (Nat.lt_of_lt_of_le hfl HWD.out.size) (fun e => hgf (Option.some.inj e))).trans ((World.frozen?_of_block (HWD.out.block _ hfl)).trans ff1)
          have HPUT := Lib.hid (fun v => show (w5.setCell ⟨fb, 1, none⟩ v).drew.cell? ⟨fb + 1, 0, none⟩ = some (.pointer (some ⟨fb, 0, none⟩)) from (World.cell?_setCell_far w5 ⟨fb, 1, none⟩ ⟨fb + 1, 0, none⟩ v (show fb ≠ fb + 1 by omega)).trans cc5)
          have HROW5 := Lib.hid hrow5
          have HB5 := Lib.hid hb5
          have HG5 := Lib.hid hg5
          have HLOC := Lib.hid hloc5
          clear hrow5 hg5 hloc5 hb5
          try go_wp2_with fail
          refine hK.out _ _ ?_ (fun hHeld => ?_)
          · first | go_keep | assumption | exact HPUT.out _
          clear hK K
          try simp only [List.getElem_toArray, List.getElem_cons_succ, List.getElem_cons_zero, Act.put, List.setIfInBounds_toArray, List.set_cons_zero, List.set_cons_succ]
          refine wpAnyH_take (i := 8) (v := ?_) rfl (by kernel_rfl) (by kernel_rfl) (by kernel_rfl) (fun _ _ _ h => h) (Or.inl ⟨by rfl, ?_⟩) (by assumption) ?_
          rotate_left
          · intro w hSw; (try dsimp only at hSw); go_simp <;> with_reducible rfl
          try simp only [List.getElem_toArray, List.getElem_cons_succ, List.getElem_cons_zero, Act.put, List.setIfInBounds_toArray, List.set_cons_zero, List.set_cons_succ]
          refine wpAnyH_take (i := 9) (v := ?_) rfl (by kernel_rfl) (by kernel_rfl) (by kernel_rfl) (fun _ _ _ h => h) (Or.inl ⟨by rfl, ?_⟩) (by assumption) ?_
          rotate_left
          · intro w hSw; (try dsimp only at hSw); go_simp <;> with_reducible rfl
          try simp only [List.getElem_toArray, List.getElem_cons_succ, List.getElem_cons_zero, Act.put, List.setIfInBounds_toArray, List.set_cons_zero, List.set_cons_succ]
          refine wpAnyH_ready (rs := [10]) (by kernel_rfl) (by simp) (AllReadyH.cons rfl (fun K hK => ?_) AllReadyH.nil)
          go_simp
          skip
          try go_wp2_with fail
          refine hK.out _ _ ?_ (fun hHeld => ?_)
          · first | go_keep | assumption | exact HPUT.out _
          clear hK K
          try simp only [List.getElem_toArray, List.getElem_cons_succ, List.getElem_cons_zero, Act.put, List.setIfInBounds_toArray, List.set_cons_zero, List.set_cons_succ]
          refine wpAnyH_done (by kernel_rfl) ?_ _
          refine NoPanic.normal ?_
        rotate_left
        focus
          go_simp
          skip
          try go_wp2_with fail
          refine hK.out _ _ ?_ (fun hHeld => ?_)
          · first | go_keep | assumption | exact HPUT.out _
          clear hK K
          try simp only [List.getElem_toArray, List.getElem_cons_succ, List.getElem_cons_zero, Act.put, List.setIfInBounds_toArray, List.set_cons_zero, List.set_cons_succ]
          refine wpAnyH_ready (rs := [4]) (by kernel_rfl) (by simp) (AllReadyH.cons rfl (fun K hK => ?_) AllReadyH.nil)
          go_simp
          skip
          try go_wp2_with fail
          refine hK.out _ _ ?_ (fun hHeld => ?_)
          · first | go_keep | assumption | exact HPUT.out _
          clear hK K
          try simp only [List.getElem_toArray, List.getElem_cons_succ, List.getElem_cons_zero, Act.put, List.setIfInBounds_toArray, List.set_cons_zero, List.set_cons_succ]
          refine wpAnyH_ready (rs := [7]) (by kernel_rfl) (by simp) (AllReadyH.cons rfl (fun K hK => ?_) AllReadyH.nil)
          refine step_append_lies _ (by rfl) _ _ _ (by rfl) _ 3 i0 _ 1 8 Try.underlying24 hi hz0 hz1 hz2 (by rfl) (by omega) (.slice (some ⟨g, 0, none⟩) (nm + k) c) (nm + k) ((zm ++ (zn.take k).map shv).map (Value.int .i64)) (by rfl) HROWD.out ⟨wr.heap.size, 0, none⟩ 1 1 [.int .i64 y] (by rfl) (by rfl) (World.news_of_block (cs := #[.int .i64 y]) (t := 3) (fr := (0, 0)) (heap_alloc_new wr.drew _)) (by simp [Value.oneCell']) (by omega) (by unfold maxLen; omega) (by omega) HBD.out.size _ rfl ?_
          intro g5 cap5 w5 hrow5 hg5 hloc5 _
          have hb5 : Below w.heap.size w w5 := HBD.out.grown hg5 HBD.out.size (fun j e => (HROWD.out.lt j e).1)
          have cf5 : w5.cell? ⟨fb, 1, none⟩ = some (.slice (some ⟨g, 0, none⟩) (nm + k) c) := (cell_grown hg5 (Nat.lt_of_lt_of_le hfl HWD.out.size) (fun e => hgf (Option.some.inj e))).trans ((HWD.out.cell (p := ⟨fb, 1, none⟩) hfl).trans cf1)
          have cc5 : w5.cell? ⟨fb + 1, 0, none⟩ = some (.pointer (some ⟨fb, 0, none⟩)) := (cell_grown hg5 (Nat.lt_of_lt_of_le hcl HWD.out.size) (fun e => hgc (Option.some.inj e))).trans ((HWD.out.cell (p := ⟨fb + 1, 0, none⟩) hcl).trans cc0)
          have ff5 : w5.frozen? ⟨fb, 1, none⟩ = false := (frozen_grown hg5 (Nat.lt_of_lt_of_le hfl HWD.out.size) (fun e => hgf (Option.some.inj e))).trans ((World.frozen?_of_block (HWD.out.block _ hfl)).trans ff1)
          have HPUT := Lib.hid (fun v => show (w5.setCell ⟨fb, 1, none⟩ v).drew.cell? ⟨fb + 1, 0, none⟩ = some (.pointer (some ⟨fb, 0, none⟩)) from (World.cell?_setCell_far w5 ⟨fb, 1, none⟩ ⟨fb + 1, 0, none⟩ v (show fb ≠ fb + 1 by omega)).trans cc5)
          have HROW5 := Lib.hid hrow5
          have HB5 := Lib.hid hb5
          have HG5 := Lib.hid hg5
          have HLOC := Lib.hid hloc5
          clear hrow5 hg5 hloc5 hb5
          try go_wp2_with fail
          refine hK.out _ _ ?_ (fun hHeld => ?_)
          · first | go_keep | assumption | exact HPUT.out _
          clear hK K
          try simp only [List.getElem_toArray, List.getElem_cons_succ, List.getElem_cons_zero, Act.put, List.setIfInBounds_toArray, List.set_cons_zero, List.set_cons_succ]
          refine wpAnyH_take (i := 8) (v := ?_) rfl (by kernel_rfl) (by kernel_rfl) (by kernel_rfl) (fun _ _ _ h => h) (Or.inl ⟨by rfl, ?_⟩) (by assumption) ?_
          rotate_left
          · intro w hSw; (try dsimp only at hSw); go_simp <;> with_reducible rfl
          try simp only [List.getElem_toArray, List.getElem_cons_succ, List.getElem_cons_zero, Act.put, List.setIfInBounds_toArray, List.set_cons_zero, List.set_cons_succ]
          refine wpAnyH_take (i := 9) (v := ?_) rfl (by kernel_rfl) (by kernel_rfl) (by kernel_rfl) (fun _ _ _ h => h) (Or.inl ⟨by rfl, ?_⟩) (by assumption) ?_
          rotate_left
          · intro w hSw; (try dsimp only at hSw); go_simp <;> with_reducible rfl
          try simp only [List.getElem_toArray, List.getElem_cons_succ, List.getElem_cons_zero, Act.put, List.setIfInBounds_toArray, List.set_cons_zero, List.set_cons_succ]
          refine wpAnyH_ready (rs := [10]) (by kernel_rfl) (by simp) (AllReadyH.cons rfl (fun K hK => ?_) AllReadyH.nil)
          go_simp
          skip
          try go_wp2_with fail
          refine hK.out _ _ ?_ (fun hHeld => ?_)
          · first | go_keep | assumption | exact HPUT.out _
          clear hK K
          try simp only [List.getElem_toArray, List.getElem_cons_succ, List.getElem_cons_zero, Act.put, List.setIfInBounds_toArray, List.set_cons_zero, List.set_cons_succ]
          refine wpAnyH_done (by kernel_rfl) ?_ _
          refine NoPanic.normal ?_
        all_goals
          have hF6 : Blk (w5.setCell ⟨fb, 1, none⟩ (.slice (some ⟨g5, 0, none⟩) (nm + k + 1) cap5)) fb 111 #[.slice As ns cs, .slice (some ⟨g5, 0, none⟩) (nm + (k + 1)) cap5, .slice none 0 0, .slice none 0 0] := by
            have h5 : Blk w5 fb 111 #[.slice As ns cs, .slice (some ⟨g, 0, none⟩) (nm + k) c, .slice none 0 0, .slice none 0 0] := (HF5.out).grown HG5.out (fun e => hgf (Option.some.inj e).symm)
            exact h5.set_ 1 _
          have hne5 : g5 ≠ fb ∧ g5 ≠ fb + 1 := by
            rcases HLOC.out with e | e
            · cases e; exact ⟨hgf, hgc⟩
            · have e2 : g5 = wr.heap.size + 1 := by rw [e]; exact World.size_alloc wr _
              omega
          have hC6 : Blk (w5.setCell ⟨fb, 1, none⟩ (.slice (some ⟨g5, 0, none⟩) (nm + k + 1) cap5)) (fb + 1) 107 #[.pointer (some ⟨fb, 0, none⟩)] := by
            have h5 : Blk w5 (fb + 1) 107 #[.pointer (some ⟨fb, 0, none⟩)] := (HC5.out).grown HG5.out (fun e => hgc (Option.some.inj e).symm)
            exact h5.far (by show fb + 1 ≠ fb; omega) _
          have hO6 : (w5.setCell ⟨fb, 1, none⟩ (.slice (some ⟨g5, 0, none⟩) (nm + k + 1) cap5)).ownsRow w.heap.size 3 1 (.slice (some ⟨g5, 0, none⟩) (nm + (k + 1)) cap5) (nm + (k + 1)) ((zm ++ (zn.take (k + 1)).map shv).map (Value.int .i64)) := by
            rw [HROWE.out, HY.out, List.map_append]
            exact ownsRow_movedK HROW5.out fun g' e => by cases e; exact heap_setCell_other w5 ⟨fb, 1, none⟩ g5 _ hne5.1
          have HF6 := Lib.hid hF6
          have HC6 := Lib.hid hC6
          have HO6 := Lib.hid hO6
          have HB6 := Lib.hid (HB5.out.setCell (p := ⟨fb, 1, none⟩) hfbw (.slice (some ⟨g5, 0, none⟩) (nm + k + 1) cap5))
          clear hF6 hC6 hO6
          go_wp2
          go_roundw
          case rel => exact ⟨k + 1, g5, cap5, by omega, by go_num, HF6, HC6, HO6, hne5.1, hne5.2, HB6⟩
          case measure => simp [intOf]; omega
    · obtain rfl : k = nn := by omega
      have hz : zn.take k = zn := List.take_of_length_le (by have := HLN.out; omega)
      rw [hz] at hO
      obtain ⟨nums, hnums⟩ : ∃ nums, zm ++ zn.map shv = nums := ⟨_, rfl⟩
      have hNl : nums.length = nm + k := by rw [← hnums, List.length_append, List.length_map]; have := HLM.out; have := HLN.out; omega
      rw [hnums] at hO HO HP HU
      have HNUMS := Lib.hid hnums
      obtain ⟨N, hN⟩ : ∃ N, nm + k = N := ⟨_, rfl⟩
      rw [hN] at hF hO hNl
      have hN120 : N ≤ 120 := by omega
      have hnmN : nm ≤ N := by omega
      have hmk : ∀ W : World, (Instr.makeSlice 24 (.int .i64 (N : Int)) (.int .i64 (N : Int))).run Try.prog W = .ok (.slice (some ⟨W.heap.size, 0, none⟩) N N) (W.alloc (.cells (natV (List.replicate N 0)).toArray 3)) := by
        intro W
        have e : (natV (List.replicate N 0)).toArray = madeCells #[.int .i64 0] (N * 1) := by
          unfold natV madeCells
          apply Array.ext
          · simp
          · intro i h1 h2
            simp [Nat.mod_one]
        rw [e]
        have := run_make_rowN (P := Try.prog) 24 3 i0 _ Try.underlying24 hi hz0 .i64 .i64 N N (Nat.le_refl _) (by rw [hz2]; omega) (by omega) W
        rw [hz1] at this
        exact this
      have cf1 := hF.out.cell 1
      have cc0 := hC.out.cell 0
      have ff2 := hF.out.frozen 2
      have ff3 := hF.out.frozen 3
      have cf2 := hF.out.cell 2
      have cf3 := hF.out.cell 3
      simp only [List.getElem?_toArray, List.getElem?_cons_zero, List.getElem?_cons_succ] at cf1 cc0 cf2 cf3
      have HPUT := Lib.hid (fun (V : World) (u : Value) (q : Nat) (o : Obj) (hq : 1 < q) (h1 : fb < V.heap.size) (h2 : fb + 1 < V.heap.size) (c1 : V.cell? ⟨fb + 1, 0, none⟩ = some (.pointer (some ⟨fb, 0, none⟩))) (c2 : V.cell? ⟨fb, 1, none⟩ = some (.slice (some ⟨g, 0, none⟩) N c)) =>
        show ((V.setCell ⟨fb, q, none⟩ u).alloc o).drew.cell? ⟨fb + 1, 0, none⟩ = some (.pointer (some ⟨fb, 0, none⟩)) ∧ ((V.setCell ⟨fb, q, none⟩ u).alloc o).drew.cell? ⟨fb, 1, none⟩ = some (.slice (some ⟨g, 0, none⟩) N c) from
        ⟨(alloc_keep (V.setCell ⟨fb, q, none⟩ u) o ⟨fb + 1, 0, none⟩ (by rw [World.size_setCell]; exact h2)).trans ((World.cell?_setCell_other V ⟨fb, q, none⟩ ⟨fb + 1, 0, none⟩ u (fun e => by have h3 : fb = fb + 1 := congrArg Addr.block e; omega)).trans c1),
         (alloc_keep (V.setCell ⟨fb, q, none⟩ u) o ⟨fb, 1, none⟩ (by rw [World.size_setCell]; exact h1)).trans ((World.cell?_setCell_other V ⟨fb, q, none⟩ ⟨fb, 1, none⟩ u (fun e => by have h3 : q = 1 := congrArg Addr.off e; omega)).trans c2)⟩)
      have hfl := hF.out.lt
      have hcl := hC.out.lt
      have HQ2 := Lib.hid (fun (u : Value) (o : Obj) => (HPUT.out wr u 2 o (by omega) hfl hcl cc0 cf1).2)
      have HQ1 := Lib.hid (fun (u : Value) (o : Obj) => (HPUT.out wr u 2 o (by omega) hfl hcl cc0 cf1).1)
      have HF0 := Lib.hid hF.out
      have HC0 := Lib.hid hC.out
      have HO0 := Lib.hid hO.out
      have HB0 := Lib.hid hB.out
      have HNL := Lib.hid hNl
      have HNN2 := Lib.hid hN
      clear hz hnums hN hNl hF hC hB hO
      go_wp2_with fail
      gi_wp2_with fail
      refine wpIn_wide.2 ?_
      go_region_held3 (fun w' => w'.cell? ⟨fb + 1, 0, none⟩ = some (.pointer (some ⟨fb, 0, none⟩)) ∧ w'.cell? ⟨fb, 1, none⟩ = some (.slice (some ⟨g, 0, none⟩) N c))
        (first | exact ⟨HQ1.out _ _, HQ2.out _ _⟩ | exact HQ2.out _ _ | exact HQ1.out _ _ | go_keep | assumption | (exact ⟨by assumption, by assumption⟩))
        (fail)
      obtain ⟨gb, hgb⟩ : ∃ gb, wr.heap.size = gb := ⟨_, rfl⟩
      have hfgb : fb < gb := by omega
      have hfgb1 : fb + 1 < gb := by omega
      have hggb : g < gb := by rw [← hgb]; exact (HO0.out.lt g rfl).2
      obtain ⟨W3, hW3⟩ : ∃ W3, ((wr.setCell ⟨fb, 2, none⟩ (.slice (some ⟨wr.heap.size, 0, none⟩) N N)).alloc (.cells (natV (List.replicate N 0)).toArray 3)).drew = W3 := ⟨_, rfl⟩
      have kF3 : Blk W3 fb 111 #[.slice As ns cs, .slice (some ⟨g, 0, none⟩) N c, .slice (some ⟨gb, 0, none⟩) N N, .slice none 0 0] := by
        rw [← hW3, hgb]
        exact ((HF0.out.set_ 2 _).alloc _).drewN 1
      have kC3 : Blk W3 (fb + 1) 107 #[.pointer (some ⟨fb, 0, none⟩)] := by
        rw [← hW3]
        exact ((HC0.out.far (by show fb + 1 ≠ fb; omega) _).alloc _).drewN 1
      have kB3 : Blk W3 gb 3 (natV (List.replicate N 0)).toArray := by
        rw [← hW3]
        have := Blk.new (wr.setCell ⟨fb, 2, none⟩ (.slice (some ⟨wr.heap.size, 0, none⟩) N N)) 3 (natV (List.replicate N 0)).toArray
        rw [World.size_setCell, hgb] at this
        rw [hgb]
        exact this.drewN 1
      have kO3 : W3.ownsRow w.heap.size 3 1 (.slice (some ⟨g, 0, none⟩) N c) N (nums.map (Value.int .i64)) := by
        rw [← hW3]
        have h1 := ownsRow_movedK HO0.out fun g' e => by cases e; exact heap_setCell_other wr ⟨fb, 2, none⟩ g (.slice (some ⟨wr.heap.size, 0, none⟩) N N) hgf
        exact h1.alloc _
      have kW3 : Below w.heap.size w W3 := by
        rw [← hW3]
        exact below_drewN (bel_al (HB0.out.setCell (p := ⟨fb, 2, none⟩) hfbw _) _) 1
      rw [hW3]
      have s3 : gb < W3.heap.size := kB3.lt
      have cf1 := kF3.cell 1
      have cc0 := kC3.cell 0
      have ff3 := kF3.frozen 3
      have cf3 := kF3.cell 3
      simp only [List.getElem?_toArray, List.getElem?_cons_zero, List.getElem?_cons_succ] at cf1 cc0 cf3
      have hfl := kF3.lt
      have hcl := kC3.lt
      have HQ2 := Lib.hid (fun (u : Value) (o : Obj) => (HPUT.out W3 u 3 o (by omega) hfl hcl cc0 cf1).2)
      have HQ1 := Lib.hid (fun (u : Value) (o : Obj) => (HPUT.out W3 u 3 o (by omega) hfl hcl cc0 cf1).1)
      have HF3 := Lib.hid kF3
      have HC3 := Lib.hid kC3
      have HB3 := Lib.hid kB3
      have HO3 := Lib.hid kO3
      have HW3 := Lib.hid kW3
      clear hW3 kF3 kC3 kB3 kO3 kW3 HF0 HC0 HO0 HB0 hgb ff2 cf2
      go_wp2_with fail
      gi_wp2_with fail
      refine wpIn_wide.2 ?_
      go_region_held3 (fun w' => w'.cell? ⟨fb + 1, 0, none⟩ = some (.pointer (some ⟨fb, 0, none⟩)) ∧ w'.cell? ⟨fb, 1, none⟩ = some (.slice (some ⟨g, 0, none⟩) N c))
        (first | exact ⟨HQ1.out _ _, HQ2.out _ _⟩ | exact HQ2.out _ _ | exact HQ1.out _ _ | go_keep | assumption | (exact ⟨by assumption, by assumption⟩))
        (fail)
      obtain ⟨gp, hgp⟩ : ∃ gp, W3.heap.size = gp := ⟨_, rfl⟩
      have hfgp : fb < gp := by omega
      have hfgp1 : fb + 1 < gp := by omega
      have hgbp : gb < gp := by omega
      have hggp : g < gp := by rw [← hgp]; exact (HO3.out.lt g rfl).2
      obtain ⟨W4, hW4⟩ : ∃ W4, ((W3.setCell ⟨fb, 3, none⟩ (.slice (some ⟨W3.heap.size, 0, none⟩) N N)).alloc (.cells (natV (List.replicate N 0)).toArray 3)).drew = W4 := ⟨_, rfl⟩
      have kF4 : Blk W4 fb 111 #[.slice As ns cs, .slice (some ⟨g, 0, none⟩) N c, .slice (some ⟨gb, 0, none⟩) N N, .slice (some ⟨gp, 0, none⟩) N N] := by
        rw [← hW4, hgp]
        exact ((HF3.out.set_ 3 _).alloc _).drewN 1
      have kC4 : Blk W4 (fb + 1) 107 #[.pointer (some ⟨fb, 0, none⟩)] := by
        rw [← hW4]
        exact ((HC3.out.far (by show fb + 1 ≠ fb; omega) _).alloc _).drewN 1
      have kB4 : Blk W4 gb 3 (natV (List.replicate N 0)).toArray := by
        rw [← hW4]
        exact ((HB3.out.far (by show gb ≠ fb; omega) _).alloc _).drewN 1
      have kP4 : Blk W4 gp 3 (natV (List.replicate N 0)).toArray := by
        rw [← hW4]
        have := Blk.new (W3.setCell ⟨fb, 3, none⟩ (.slice (some ⟨W3.heap.size, 0, none⟩) N N)) 3 (natV (List.replicate N 0)).toArray
        rw [World.size_setCell, hgp] at this
        rw [hgp]
        exact this.drewN 1
      have kO4 : W4.ownsRow w.heap.size 3 1 (.slice (some ⟨g, 0, none⟩) N c) N (nums.map (Value.int .i64)) := by
        rw [← hW4]
        have h1 := ownsRow_movedK HO3.out fun g' e => by cases e; exact heap_setCell_other W3 ⟨fb, 3, none⟩ g (.slice (some ⟨W3.heap.size, 0, none⟩) N N) hgf
        exact h1.alloc _
      have kW4 : Below w.heap.size w W4 := by
        rw [← hW4]
        exact below_drewN (bel_al (HW3.out.setCell (p := ⟨fb, 3, none⟩) hfbw _) _) 1
      rw [hW4]
      have s4 : gp < W4.heap.size := kP4.lt
      have cf1 := kF4.cell 1
      have cc0 := kC4.cell 0
      simp only [List.getElem?_toArray, List.getElem?_cons_zero, List.getElem?_cons_succ] at cf1 cc0
      have HF4 := Lib.hid kF4
      have HC4 := Lib.hid kC4
      have HB4 := Lib.hid kB4
      have HP4 := Lib.hid kP4
      have HO4 := Lib.hid kO4
      have HW4 := Lib.hid kW4
      clear hW4 kF4 kC4 kB4 kP4 kO4 kW4 HF3 HC3 HB3 HO3 HW3 hgp ff3 cf3 HQ1 HQ2 HPUT hfl hcl s3 HNN2 hmk hi hz0 hz1 hz2
      go_wp2_with fail
      gi_wp2_with (refine ⟨trivial, ?_⟩; gi_at_call 88; refine (callsIn_wide.2 (backward_any _ _ _ _)).mono ?_; rintro e w5 ⟨rfl, rfl⟩)
      obtain ⟨dx, hdx⟩ : ∃ dx, W4.heap.size = dx := ⟨_, rfl⟩
      obtain ⟨W5, hW5⟩ : ∃ W5, W4.alloc (.cells #[.slice (some ⟨g, 0, none⟩) N c] 24) = W5 := ⟨_, rfl⟩
      have hB45 : Below W4.heap.size W4 W5 := by rw [← hW5]; exact bel_al0 _ _
      have kX5 : Blk W5 dx 24 #[.slice (some ⟨g, 0, none⟩) N c] := by rw [← hW5, ← hdx]; exact Blk.new _ _ _
      have kI : IFit w fb g gb gp dx As ns cs c N ss nums 0 W5 := by
        refine ⟨HF4.out.below hB45 HF4.out.lt, HC4.out.below hB45 HC4.out.lt, fun i x hi => ?_, ?_, ?_, ?_, kX5, below_then HW4.out hB45⟩
        · obtain ⟨_, g', c', e, _, _, hcell⟩ := row_ints_at HO4.out (by omega)
          cases e
          obtain ⟨hil, rfl⟩ := List.getElem?_eq_some_iff.1 hi
          exact (hB45.cell (p := ⟨g, i, none⟩) (HO4.out.lt g rfl).2).trans (hcell i hil)
        · rw [endL_zero, kbF_len, HNL.out]; exact HB4.out.below hB45 HB4.out.lt
        · rw [endL_zero, kpF_len, HNL.out]; exact HP4.out.below hB45 HP4.out.lt
        · exact HS.out.below (below_then HW4.out hB45)
      have sz5 : W5.heap.size = dx + 1 := by rw [← hW5, ← hdx]; exact World.size_alloc _ _
      rw [hdx, hW5]
      have hgpdx : gp < dx := by rw [← hdx]; exact HP4.out.lt
      have hwdx : w.heap.size ≤ dx := by rw [← hdx]; exact HW4.out.size
      clear hW5 hB45 kX5 hdx HF4 HC4 HB4 HP4 HO4 HW4 cf1 cc0 s4
      refine' range_k (gf := 97) (lb := #[.pointer (some ⟨dx, 0, none⟩)]) rfl (enters_of Try.func97 (by kernel_rfl) rfl) (encs := encB N) (fun _ _ => rfl)
        (HxB nums) N (IFit w fb g gb gp dx As ns cs c N ss nums) (fun _ => False) (IFit.own (by omega)) (fun _ _ _ _ h _ _ => h.elim) (fun k x W l o o' hx _ _ _ => hx) kI ?seq _ ?assign ?body ?done ?stop
      case seq =>
        intro l J JL V hV hJ hJL hJI hY hJ0
        have := bwdC_in l 4 dx g c nums J JL (by rw [HNL.out]; omega) (fun k A hA => by
          have h := hJI k A hA
          exact ⟨by rw [HNL.out]; exact h.kX, h.kN⟩) (by rw [HNL.out]; exact hY) V hJ0
        rw [HNL.out] at this
        exact this
      case assign =>
        intro l m k x W K hK
        unfold encB
        gi_wp2
        exact hK
      case body =>
        rintro l m k x W hI hx hk
        obtain ⟨p, hp⟩ : ∃ p : Nat, (N : Int) - 1 - (k : Int) = (p : Int) := ⟨N - 1 - k, by omega⟩
        have hpN : p < N := by omega
        have hxp : nums[p]? = some x := by
          unfold HxB at hx
          rw [HNL.out, show N - 1 - k = p by omega] at hx
          exact hx
        have cc := hI.kC.cell 0
        have cf0 := hI.kF.cell 0
        have cf1 := hI.kF.cell 1
        have cf2 := hI.kF.cell 2
        have cf3 := hI.kF.cell 3
        simp only [List.getElem?_toArray, List.getElem?_cons_zero, List.getElem?_cons_succ] at cc cf0 cf1 cf2 cf3
        have cb0 : W.cell? ⟨gb, p, none⟩ = some (.int .i64 ((0 : Nat) : Int)) := by
          rw [hI.kB.cell, List.getElem?_toArray]
          refine natV_get ?_
          unfold endL
          rw [List.getElem?_append_left (by rw [List.length_replicate, kbF_len, HNL.out]; omega), List.getElem?_replicate, if_pos (by rw [kbF_len, HNL.out]; omega)]
        have fb0 := hI.kB.frozen p
        have HI := Lib.hid hI
        have HXP := Lib.hid hxp
        have hp0 : (0 : Int) ≤ (p : Int) := by omega
        have hp1 : (p : Int) < (N : Int) := by omega
        have hp2 : (p : Int) ≤ 1000 := by omega
        have HPK := Lib.hid hp
        clear hI hx hxp
        simp only [hp]
        gi_wp2_with fail
        have hne1 : fb ≠ gb ∧ fb + 1 ≠ gb ∧ g ≠ gb ∧ gp ≠ gb ∧ dx ≠ gb := ⟨by omega, by omega, by omega, by omega, by omega⟩
        have hne2 : fb ≠ gp ∧ fb + 1 ≠ gp ∧ g ≠ gp ∧ gb ≠ gp ∧ dx ≠ gp := ⟨by omega, by omega, by omega, by omega, by omega⟩
        have hI1 : IFitB w fb g gb gp dx As ns cs c N ss nums ((endL (kbF ss nums) k).set p (p + 1)) (endL (kpF nums) k) (W.setCell ⟨gb, p, none⟩ (.int .i64 ((p + 1 : Nat) : Int))) := IFitB.setB HI.out hne1 (by omega) p (p + 1)
        rw [show ((p + 1 : Nat) : Int) = (p : Int) + 1 by omega] at hI1
        obtain ⟨W1, hW1⟩ : ∃ W1, W.setCell ⟨gb, p, none⟩ (.int .i64 ((p : Int) + 1)) = W1 := ⟨_, rfl⟩
        have hKF1 : KeepsFrom W5.heap.size W W1 := by rw [← hW1]; exact (KeepsOthers.setCell _ _ _).from _
        rw [hW1] at hI1
        have hxs := HO.out.sym x (List.mem_of_getElem? HXP.out)
        have CA := Lib.hid (karity_any fb g N c p ns cs w.heap.size As ss x W1 (hI1.kF.cell 0) (hI1.kF.cell 1) (hI1.kN p x HXP.out) hpN (by omega) hI1.kS (by rw [HS.out.len]; exact hxs) HO.out.ar)
        have ha3 : arOf ss x ≤ 3 := arOf_le HO.out.ar _
        obtain ⟨a, hae⟩ : ∃ a, arOf ss x = a := ⟨_, rfl⟩
        rw [hae] at CA ha3
        have HAE := Lib.hid hae
        have HI1 := Lib.hid hI1
        have HKF1 := Lib.hid hKF1
        have HW1 := Lib.hid hW1
        clear hI1 hKF1 hae hxs
        rw [← HW1.out] at CA
        first | refine ⟨trivial, fun h => (by cases h), ?_⟩ | refine ⟨trivial, ?_⟩
        refine (CallsIn.inRound l (callsIn_wide.2 CA.out)).mono ?_
        rintro e W2 ⟨rfl, j2, rfl⟩
        gi_wp2_with fail
        obtain ⟨W2, hW2⟩ : ∃ W2, W1.drewN j2 = W2 := ⟨_, rfl⟩
        have hI2 : IFitB w fb g gb gp dx As ns cs c N ss nums ((endL (kbF ss nums) k).set p (p + 1)) (endL (kpF nums) k) W2 := by
          rw [← hW2]
          exact HI1.out.up (below_drewN (Below.refl _ _) j2)
        have hK2 : KeepsFrom W5.heap.size W W2 := by
          rw [← hW2]
          exact HKF1.out.trans ((⟨Nat.le_refl _, fun _ _ h _ => h⟩ : KeepsOthers W1 (W1.drewN j2)).from _)
        rw [hW2]
        have HI2 := Lib.hid hI2
        have HK2 := Lib.hid hK2
        obtain ⟨hpl, hpx⟩ := List.getElem?_eq_some_iff.1 HXP.out
        obtain ⟨⟨rr, hrr⟩, hall⟩ := bhd_all HP.out hpl
        rw [hpx, HAE.out] at hrr hall
        have HRR := Lib.hid hrr
        have HALL := Lib.hid hall
        have HPL := Lib.hid hpl
        clear hW2 hI2 hK2 hrr hall hpl hpx cf0 cf1 cf2 cf3 cb0 cc fb0 CA HI1 HKF1 HW1
        gi_loopw [74] (fun iv wr => ∃ j : Nat, j ≤ a ∧ iv = .int .i64 j ∧ Hid (IFitB w fb g gb gp dx As ns cs c N ss nums ((endL (kbF ss nums) k).set p (bhj ss nums (p + 1) j)) (endL (kpF nums) k) wr) ∧ Hid (KeepsFrom W5.heap.size W wr)) (fun iv _ => a - (intOf iv).toNat)
        case atStart => exact ⟨0, Nat.zero_le _, rfl, by rw [bhj_zero (by have := HPL.out; omega)]; exact HI2, HK2⟩
        case round =>
          obtain ⟨j, hj, rfl, hIr, hKr⟩ := hrel
          have cc := hIr.out.kC.cell 0
          have cf2 := hIr.out.kF.cell 2
          have cf3 := hIr.out.kF.cell 3
          have cf1 := hIr.out.kF.cell 1
          simp only [List.getElem?_toArray, List.getElem?_cons_zero, List.getElem?_cons_succ] at cc cf1 cf2 cf3
          have hel : (endL (kbF ss nums) k).length = N := by rw [endL_len, kbF_len, HNL.out]
          by_cases hlt : j < a
          · obtain ⟨b1, b2, b3⟩ := bhj_succ HRR.out hlt (by have := HPL.out; omega)
            obtain ⟨b, hb⟩ : ∃ b, bhj ss nums (p + 1) j = b := ⟨_, rfl⟩
            obtain ⟨q, hq⟩ : ∃ q, bhj ss nums (p + 1) (j + 1) = q := ⟨_, rfl⟩
            rw [hb] at b1 b2 b3 hIr
            rw [hq] at b3
            rw [HNL.out] at b2
            have cp : wr.cell? ⟨gb, p, none⟩ = some (.int .i64 (b : Int)) := by
              rw [hIr.out.kB.cell, List.getElem?_toArray]
              exact natV_get (by rw [List.getElem?_set, if_pos rfl, if_pos (by rw [hel]; exact hpN)])
            have cb : wr.cell? ⟨gb, b, none⟩ = some (.int .i64 (q : Int)) := by
              rw [hIr.out.kB.cell, List.getElem?_toArray]
              refine natV_get ?_
              rw [List.getElem?_set, if_neg (by omega), endL_get (by rw [kbF_len, HNL.out]; omega), kbF_get (by rw [HNL.out]; exact b2), b3]
            have fp := hIr.out.kB.frozen p
            have hI3 := IFitB.setB hIr.out hne1 (by omega) p q
            rw [List.set_set] at hI3
            have HI3 := Lib.hid hI3
            have HK3 := Lib.hid (hKr.out.trans ((KeepsOthers.setCell wr ⟨gb, p, none⟩ (.int .i64 (q : Int))).from W5.heap.size))
            have HQ := Lib.hid hq
            have hb0 : (0 : Int) ≤ (b : Int) := by omega
            have hb1 : (b : Int) < (N : Int) := by omega
            have hj0 : (0 : Int) ≤ (j : Int) := by omega
            have hj1 : (j : Int) < (a : Int) := by omega
            have hbp : b ≠ p := by omega
            have HPUT := Lib.hid (show (wr.setCell ⟨gb, p, none⟩ (.int .i64 (q : Int))).cell? ⟨fb + 1, 0, none⟩ = some (.pointer (some ⟨fb, 0, none⟩)) ∧ (wr.setCell ⟨gb, p, none⟩ (.int .i64 (q : Int))).cell? ⟨fb, 2, none⟩ = some (.slice (some ⟨gb, 0, none⟩) N N) ∧ (wr.setCell ⟨gb, p, none⟩ (.int .i64 (q : Int))).cell? ⟨gb, b, none⟩ = some (.int .i64 (q : Int)) from
              ⟨(World.cell?_setCell_far wr ⟨gb, p, none⟩ ⟨fb + 1, 0, none⟩ _ (show gb ≠ fb + 1 by omega)).trans cc, (World.cell?_setCell_far wr ⟨gb, p, none⟩ ⟨fb, 2, none⟩ _ (show gb ≠ fb by omega)).trans cf2, (World.cell?_setCell_other wr ⟨gb, p, none⟩ ⟨gb, b, none⟩ _ (fun e => hbp (congrArg Addr.off e).symm)).trans cb⟩)
            clear hI3 hIr hKr hq hb b1 b2 b3 hel
            gi_wp2_with fail
            refine region_round (S := (fun w' => w'.cell? ⟨fb + 1, 0, none⟩ = some (.pointer (some ⟨fb, 0, none⟩)) ∧ w'.cell? ⟨fb, 2, none⟩ = some (.slice (some ⟨gb, 0, none⟩) N N) ∧ w'.cell? ⟨gb, b, none⟩ = some (.int .i64 (q : Int)))) (by kernel_rfl) (by kernel_rfl) ?_ (fun hHeld => ?_)
            · first | exact HPUT.out | exact ⟨cc, cf2, cb⟩ | go_keep
            refine wpAnyH_take (i := 0) (v := ?_) rfl (by kernel_rfl) (by kernel_rfl) (by kernel_rfl) (fun _ _ _ h => h) (Or.inl ⟨by rfl, ?_⟩) (by assumption) ?_
            rotate_left
            · intro w hSw; (try dsimp only at hSw); go_simp <;> with_reducible rfl
            try simp only [List.getElem_toArray, List.getElem_cons_zero, Act.put, List.setIfInBounds_toArray, List.set_cons_zero, List.set_cons_succ]
            refine wpAnyH_take (i := 1) (v := ?_) rfl (by kernel_rfl) (by kernel_rfl) (by kernel_rfl) (fun _ _ _ h => h) (Or.inl ⟨by rfl, ?_⟩) (by assumption) ?_
            rotate_left
            · intro w hSw; (try dsimp only at hSw); go_simp <;> with_reducible rfl
            try simp only [List.getElem_toArray, List.getElem_cons_succ, List.getElem_cons_zero, Act.put, List.setIfInBounds_toArray, List.set_cons_zero, List.set_cons_succ]
            refine wpAnyH_take (i := 2) (v := ?_) rfl (by kernel_rfl) (by kernel_rfl) (by kernel_rfl) (fun _ _ _ h => h) (Or.inl ⟨by rfl, ?_⟩) (by assumption) ?_
            rotate_left
            · intro w hSw; (try dsimp only at hSw); go_simp <;> with_reducible rfl
            try simp only [List.getElem_toArray, List.getElem_cons_succ, List.getElem_cons_zero, Act.put, List.setIfInBounds_toArray, List.set_cons_zero, List.set_cons_succ]
            refine wpAnyH_take (i := 3) (v := ?_) rfl (by kernel_rfl) (by kernel_rfl) (by kernel_rfl) (fun _ _ _ h => h) (Or.inl ⟨by rfl, ?_⟩) (by assumption) ?_
            rotate_left
            · intro w hSw; (try dsimp only at hSw); go_simp <;> with_reducible rfl
            try simp only [List.getElem_toArray, List.getElem_cons_succ, List.getElem_cons_zero, Act.put, List.setIfInBounds_toArray, List.set_cons_zero, List.set_cons_succ]
            refine wpAnyH_take (i := 4) (v := ?_) rfl (by kernel_rfl) (by kernel_rfl) (by kernel_rfl) (fun _ _ _ h => h) (Or.inl ⟨by rfl, ?_⟩) (by assumption) ?_
            rotate_left
            · intro w hSw; (try dsimp only at hSw); go_simp <;> with_reducible rfl
            try simp only [List.getElem_toArray, List.getElem_cons_succ, List.getElem_cons_zero, Act.put, List.setIfInBounds_toArray, List.set_cons_zero, List.set_cons_succ]
            refine wpAnyH_take (i := 5) (v := ?_) rfl (by kernel_rfl) (by kernel_rfl) (by kernel_rfl) (fun _ _ _ h => h) (Or.inl ⟨by rfl, ?_⟩) (by assumption) ?_
            rotate_left
            · intro w hSw; (try dsimp only at hSw); go_simp <;> with_reducible rfl
            try simp only [List.getElem_toArray, List.getElem_cons_succ, List.getElem_cons_zero, Act.put, List.setIfInBounds_toArray, List.set_cons_zero, List.set_cons_succ]
            refine wpAnyH_take (i := 6) (v := ?_) rfl (by kernel_rfl) (by kernel_rfl) (by kernel_rfl) (fun _ _ _ h => h) (Or.inl ⟨by rfl, ?_⟩) (by assumption) ?_
            rotate_left
            · intro w hSw; (try dsimp only at hSw); go_simp <;> with_reducible rfl
            try simp only [List.getElem_toArray, List.getElem_cons_succ, List.getElem_cons_zero, Act.put, List.setIfInBounds_toArray, List.set_cons_zero, List.set_cons_succ]
            refine wpAnyH_take (i := 7) (v := ?_) rfl (by kernel_rfl) (by kernel_rfl) (by kernel_rfl) (fun _ _ _ h => h) (Or.inl ⟨by rfl, ?_⟩) (by assumption) ?_
            rotate_left
            · intro w hSw; (try dsimp only at hSw); go_simp <;> with_reducible rfl
            try simp only [List.getElem_toArray, List.getElem_cons_succ, List.getElem_cons_zero, Act.put, List.setIfInBounds_toArray, List.set_cons_zero, List.set_cons_succ]
            refine wpAnyH_take (i := 8) (v := ?_) rfl (by kernel_rfl) (by kernel_rfl) (by kernel_rfl) (fun _ _ _ h => h) (Or.inl ⟨by rfl, ?_⟩) (by assumption) ?_
            rotate_left
            · intro w hSw; (try dsimp only at hSw); go_simp <;> with_reducible rfl
            try simp only [List.getElem_toArray, List.getElem_cons_succ, List.getElem_cons_zero, Act.put, List.setIfInBounds_toArray, List.set_cons_zero, List.set_cons_succ]
            refine wpAnyH_take (i := 9) (v := ?_) rfl (by kernel_rfl) (by kernel_rfl) (by kernel_rfl) (fun _ _ _ h => h) (Or.inl ⟨by rfl, ?_⟩) (by assumption) ?_
            rotate_left
            · intro w hSw; (try dsimp only at hSw); go_simp <;> with_reducible rfl
            try simp only [List.getElem_toArray, List.getElem_cons_succ, List.getElem_cons_zero, Act.put, List.setIfInBounds_toArray, List.set_cons_zero, List.set_cons_succ]
            refine wpAnyH_take (i := 10) (v := ?_) rfl (by kernel_rfl) (by kernel_rfl) (by kernel_rfl) (fun _ _ _ h => h) (Or.inl ⟨by rfl, ?_⟩) (by assumption) ?_
            rotate_left
            · intro w hSw; (try dsimp only at hSw); go_simp <;> with_reducible rfl
            try simp only [List.getElem_toArray, List.getElem_cons_succ, List.getElem_cons_zero, Act.put, List.setIfInBounds_toArray, List.set_cons_zero, List.set_cons_succ]
            refine wpAnyH_take (i := 11) (v := ?_) rfl (by kernel_rfl) (by kernel_rfl) (by kernel_rfl) (fun _ _ _ h => h) (Or.inl ⟨by rfl, ?_⟩) (by assumption) ?_
            rotate_left
            · intro w hSw; (try dsimp only at hSw); go_simp <;> with_reducible rfl
            try simp only [List.getElem_toArray, List.getElem_cons_succ, List.getElem_cons_zero, Act.put, List.setIfInBounds_toArray, List.set_cons_zero, List.set_cons_succ]
            refine wpAnyH_take (i := 12) (v := ?_) rfl (by kernel_rfl) (by kernel_rfl) (by kernel_rfl) (fun _ _ _ h => h) (Or.inl ⟨by rfl, ?_⟩) (by assumption) ?_
            rotate_left
            · intro w hSw; (try dsimp only at hSw); go_simp <;> with_reducible rfl
            try simp only [List.getElem_toArray, List.getElem_cons_succ, List.getElem_cons_zero, Act.put, List.setIfInBounds_toArray, List.set_cons_zero, List.set_cons_succ]
            refine wpAnyH_take (i := 13) (v := ?_) rfl (by kernel_rfl) (by kernel_rfl) (by kernel_rfl) (fun _ _ _ h => h) (Or.inl ⟨by rfl, ?_⟩) (by assumption) ?_
            rotate_left
            · intro w hSw; (try dsimp only at hSw); go_simp <;> with_reducible rfl
            try simp only [List.getElem_toArray, List.getElem_cons_succ, List.getElem_cons_zero, Act.put, List.setIfInBounds_toArray, List.set_cons_zero, List.set_cons_succ]
            refine wpAnyH_take (i := 14) (v := ?_) rfl (by kernel_rfl) (by kernel_rfl) (by kernel_rfl) (fun _ _ _ h => h) (Or.inl ⟨by rfl, ?_⟩) (by assumption) ?_
            rotate_left
            · intro w hSw; (try dsimp only at hSw); go_simp <;> with_reducible rfl
            try simp only [List.getElem_toArray, List.getElem_cons_succ, List.getElem_cons_zero, Act.put, List.setIfInBounds_toArray, List.set_cons_zero, List.set_cons_succ]
            refine wpAnyH_ready (rs := [15]) (by kernel_rfl) (by simp) (AllReadyH.cons rfl (fun K hK => ?_) AllReadyH.nil)
            go_simp
            try go_wp2_with fail
            refine hK.out _ _ ?_ (fun hHeld => ?_)
            · first | exact HPUT.out | exact ⟨cc, cf2, cb⟩ | go_keep
            clear hK K
            try simp only [List.getElem_toArray, List.getElem_cons_succ, List.getElem_cons_zero, Act.put, List.setIfInBounds_toArray, List.set_cons_zero, List.set_cons_succ]
            refine wpAnyH_take (i := 16) (v := ?_) rfl (by kernel_rfl) (by kernel_rfl) (by kernel_rfl) (fun _ _ _ h => h) (Or.inl ⟨by rfl, ?_⟩) (by assumption) ?_
            rotate_left
            · intro w hSw; (try dsimp only at hSw); go_simp <;> with_reducible rfl
            try simp only [List.getElem_toArray, List.getElem_cons_succ, List.getElem_cons_zero, Act.put, List.setIfInBounds_toArray, List.set_cons_zero, List.set_cons_succ]
            refine wpAnyH_take (i := 17) (v := ?_) rfl (by kernel_rfl) (by kernel_rfl) (by kernel_rfl) (fun _ _ _ h => h) (Or.inl ⟨by rfl, ?_⟩) (by assumption) ?_
            rotate_left
            · intro w hSw; (try dsimp only at hSw); go_simp <;> with_reducible rfl
            try simp only [List.getElem_toArray, List.getElem_cons_succ, List.getElem_cons_zero, Act.put, List.setIfInBounds_toArray, List.set_cons_zero, List.set_cons_succ]
            refine wpAnyH_take (i := 18) (v := ?_) rfl (by kernel_rfl) (by kernel_rfl) (by kernel_rfl) (fun _ _ _ h => h) (Or.inl ⟨by rfl, ?_⟩) (by assumption) ?_
            rotate_left
            · intro w hSw; (try dsimp only at hSw); go_simp <;> with_reducible rfl
            try simp only [List.getElem_toArray, List.getElem_cons_succ, List.getElem_cons_zero, Act.put, List.setIfInBounds_toArray, List.set_cons_zero, List.set_cons_succ]
            refine wpAnyH_ready (rs := [19]) (by kernel_rfl) (by simp) (AllReadyH.cons rfl (fun K hK => ?_) AllReadyH.nil)
            go_simp
            try go_wp2_with fail
            refine hK.out _ _ ?_ (fun hHeld => ?_)
            · first | exact HPUT.out | exact ⟨cc, cf2, cb⟩ | go_keep
            clear hK K
            try simp only [List.getElem_toArray, List.getElem_cons_succ, List.getElem_cons_zero, Act.put, List.setIfInBounds_toArray, List.set_cons_zero, List.set_cons_succ]
            refine wpAnyH_done (by kernel_rfl) ⟨(fun e => by cases e), ?_⟩ _
            gi_wp2_with fail
            go_roundw
            case rel => exact ⟨j + 1, by omega, by go_num, by rw [HQ.out]; first | exact HI3 | exact Lib.hid (HI3.out.up ((Below.refl _ _).drew)), by first | exact HK3 | exact Lib.hid (HK3.out.trans ((⟨Nat.le_refl _, fun _ _ h _ => h⟩ : KeepsOthers (wr.setCell ⟨gb, p, none⟩ (.int .i64 (q : Int))) (wr.setCell ⟨gb, p, none⟩ (.int .i64 (q : Int))).drew).from W5.heap.size))⟩
            case measure => simp [intOf]; omega
          · obtain rfl : j = a := by omega
            rw [HALL.out] at hIr
            have hkF : (endL (kbF ss nums) k).set p (bhd ss nums p) = endL (kbF ss nums) (k + 1) := by
              have hpe : p = (kbF ss nums).length - 1 - k := by rw [kbF_len, HNL.out]; omega
              rw [hpe]
              exact endL_set (by rw [kbF_len, HNL.out]; exact hk) (by rw [← hpe]; exact kbF_get HPL.out)
            rw [hkF] at hIr
            have cp : wr.cell? ⟨gp, p, none⟩ = some (.int .i64 ((0 : Nat) : Int)) := by
              rw [hIr.out.kP.cell, List.getElem?_toArray]
              refine natV_get ?_
              unfold endL
              rw [List.getElem?_append_left (by rw [List.length_replicate, kpF_len, HNL.out]; omega), List.getElem?_replicate, if_pos (by rw [kpF_len, HNL.out]; omega)]
            have fp := hIr.out.kP.frozen p
            have hI4 := IFitB.setP hIr.out hne2 (by omega) p p
            have hpe : p = (kpF nums).length - 1 - k := by rw [kpF_len, HNL.out]; omega
            have hkp : (kpF nums)[p]? = some (if x < 0 then nums.idxOf x else p) := by
              rw [kpF_get HPL.out, List.getD_eq_getElem?_getD, HXP.out]; rfl
            by_cases hx0 : x < 0
            · have d0 : decide (x < 0) = true := decide_eq_true hx0
              rw [if_pos hx0] at hkp
              obtain ⟨q, hq⟩ : ∃ q, nums.idxOf x = q := ⟨_, rfl⟩
              rw [hq] at hkp
              have hI5 := IFitB.setP hI4 hne2 (by omega) p q
              rw [List.set_set, show (endL (kpF nums) k).set p q = endL (kpF nums) (k + 1) from by
                have h9 := endL_set (F := kpF nums) (k := k) (x := q) (by rw [kpF_len, HNL.out]; exact hk) (by rw [← hpe]; exact hkp)
                rw [← hpe] at h9
                exact h9] at hI5
              obtain ⟨W6, hW6⟩ : ∃ W6, wr.setCell ⟨gp, p, none⟩ (.int .i64 (p : Int)) = W6 := ⟨_, rfl⟩
              rw [hW6] at hI4 hI5
              have hrow6 : IntsAt W6 W6.heap.size (some ⟨g, 0, none⟩) N nums := ⟨HNL.out.symm, by omega, fun _ => ⟨g, 0, rfl, World.block_lt_of_cell? W6 _ (hI4.kN p x HXP.out), fun i hi => by rw [Nat.zero_add]; exact hI4.kN i _ (List.getElem?_eq_getElem hi)⟩⟩
              have CI := Lib.hid (fun V (h : Below W6.heap.size W6 V) => indexK_any (some ⟨g, 0, none⟩) N c nums x V _ (hrow6.up h) (List.mem_of_getElem? HXP.out))
              rw [hq] at CI
              have c6 := hI4.kC.cell 0
              have c63 := hI4.kF.cell 3
              have c61 := hI4.kF.cell 1
              have cp6 := hI4.kP.cell p
              have fp6 := hI4.kP.frozen p
              simp only [List.getElem?_toArray, List.getElem?_cons_zero, List.getElem?_cons_succ] at c6 c63 c61 cp6
              rw [natV_get (show ((endL (kpF nums) k).set p p)[p]? = some p from by rw [List.getElem?_set, if_pos rfl, if_pos (by rw [endL_len, kpF_len, HNL.out]; exact hpN)])] at cp6
              have HI5 := Lib.hid hI5
              have HK5 := Lib.hid ((hKr.out.trans (by rw [← hW6]; exact (KeepsOthers.setCell wr ⟨gp, p, none⟩ (.int .i64 (p : Int))).from W5.heap.size)).trans ((KeepsOthers.setCell W6 ⟨gp, p, none⟩ (.int .i64 (q : Int))).from W5.heap.size))
              have HW6 := Lib.hid hW6
              clear hI4 hI5 hrow6 hIr hKr hkF hkp hpe hel hW6 hq
              gi_wp2_with fail
              rw [HW6.out]
              have HPUT6 := Lib.hid (show (W6.setCell ⟨gp, p, none⟩ (.int .i64 (q : Int))).cell? ⟨fb + 1, 0, none⟩ = some (.pointer (some ⟨fb, 0, none⟩)) ∧ (W6.setCell ⟨gp, p, none⟩ (.int .i64 (q : Int))).cell? ⟨fb, 3, none⟩ = some (.slice (some ⟨gp, 0, none⟩) N N) ∧ (W6.setCell ⟨gp, p, none⟩ (.int .i64 (q : Int))).cell? ⟨fb, 1, none⟩ = some (.slice (some ⟨g, 0, none⟩) N c) from
                ⟨(World.cell?_setCell_far W6 ⟨gp, p, none⟩ ⟨fb + 1, 0, none⟩ _ (show gp ≠ fb + 1 by omega)).trans c6, (World.cell?_setCell_far W6 ⟨gp, p, none⟩ ⟨fb, 3, none⟩ _ (show gp ≠ fb by omega)).trans c63, (World.cell?_setCell_far W6 ⟨gp, p, none⟩ ⟨fb, 1, none⟩ _ (show gp ≠ fb by omega)).trans c61⟩)
              refine region_round (S := (fun w' => w'.cell? ⟨fb + 1, 0, none⟩ = some (.pointer (some ⟨fb, 0, none⟩)) ∧ w'.cell? ⟨fb, 3, none⟩ = some (.slice (some ⟨gp, 0, none⟩) N N) ∧ w'.cell? ⟨fb, 1, none⟩ = some (.slice (some ⟨g, 0, none⟩) N c))) (by kernel_rfl) (by kernel_rfl) ?_ (fun hHeld => ?_)
              · first | exact HPUT6.out | exact ⟨c6, c63, c61⟩ | go_keep
              refine wpAnyH_take (i := 0) (v := ?_) rfl (by kernel_rfl) (by kernel_rfl) (by kernel_rfl) (fun _ _ _ h => h) (Or.inl ⟨by rfl, ?_⟩) (by assumption) ?_
              rotate_left
              · intro w hSw; (try dsimp only at hSw); go_simp <;> with_reducible rfl
              try simp only [List.getElem_toArray, List.getElem_cons_zero, Act.put, List.setIfInBounds_toArray, List.set_cons_zero, List.set_cons_succ]
              refine wpAnyH_take (i := 1) (v := ?_) rfl (by kernel_rfl) (by kernel_rfl) (by kernel_rfl) (fun _ _ _ h => h) (Or.inl ⟨by rfl, ?_⟩) (by assumption) ?_
              rotate_left
              · intro w hSw; (try dsimp only at hSw); go_simp <;> with_reducible rfl
              try simp only [List.getElem_toArray, List.getElem_cons_succ, List.getElem_cons_zero, Act.put, List.setIfInBounds_toArray, List.set_cons_zero, List.set_cons_succ]
              refine wpAnyH_take (i := 2) (v := ?_) rfl (by kernel_rfl) (by kernel_rfl) (by kernel_rfl) (fun _ _ _ h => h) (Or.inl ⟨by rfl, ?_⟩) (by assumption) ?_
              rotate_left
              · intro w hSw; (try dsimp only at hSw); go_simp <;> with_reducible rfl
              try simp only [List.getElem_toArray, List.getElem_cons_succ, List.getElem_cons_zero, Act.put, List.setIfInBounds_toArray, List.set_cons_zero, List.set_cons_succ]
              refine wpAnyH_take (i := 3) (v := ?_) rfl (by kernel_rfl) (by kernel_rfl) (by kernel_rfl) (fun _ _ _ h => h) (Or.inl ⟨by rfl, ?_⟩) (by assumption) ?_
              rotate_left
              · intro w hSw; (try dsimp only at hSw); go_simp <;> with_reducible rfl
              try simp only [List.getElem_toArray, List.getElem_cons_succ, List.getElem_cons_zero, Act.put, List.setIfInBounds_toArray, List.set_cons_zero, List.set_cons_succ]
              refine wpAnyH_take (i := 4) (v := ?_) rfl (by kernel_rfl) (by kernel_rfl) (by kernel_rfl) (fun _ _ _ h => h) (Or.inl ⟨by rfl, ?_⟩) (by assumption) ?_
              rotate_left
              · intro w hSw; (try dsimp only at hSw); go_simp <;> with_reducible rfl
              try simp only [List.getElem_toArray, List.getElem_cons_succ, List.getElem_cons_zero, Act.put, List.setIfInBounds_toArray, List.set_cons_zero, List.set_cons_succ]
              refine wpAnyH_take (i := 5) (v := ?_) rfl (by kernel_rfl) (by kernel_rfl) (by kernel_rfl) (fun _ _ _ h => h) (Or.inl ⟨by rfl, ?_⟩) (by assumption) ?_
              rotate_left
              · intro w hSw; (try dsimp only at hSw); go_simp <;> with_reducible rfl
              try simp only [List.getElem_toArray, List.getElem_cons_succ, List.getElem_cons_zero, Act.put, List.setIfInBounds_toArray, List.set_cons_zero, List.set_cons_succ]
              refine wpAnyH_take (i := 6) (v := ?_) rfl (by kernel_rfl) (by kernel_rfl) (by kernel_rfl) (fun _ _ _ h => h) (Or.inl ⟨by rfl, ?_⟩) (by assumption) ?_
              rotate_left
              · intro w hSw; (try dsimp only at hSw); go_simp <;> with_reducible rfl
              try simp only [List.getElem_toArray, List.getElem_cons_succ, List.getElem_cons_zero, Act.put, List.setIfInBounds_toArray, List.set_cons_zero, List.set_cons_succ]
              refine wpAnyH_take (i := 7) (v := ?_) rfl (by kernel_rfl) (by kernel_rfl) (by kernel_rfl) (fun _ _ _ h => h) (Or.inl ⟨by rfl, ?_⟩) (by assumption) ?_
              rotate_left
              · intro w hSw; (try dsimp only at hSw); go_simp <;> with_reducible rfl
              try simp only [List.getElem_toArray, List.getElem_cons_succ, List.getElem_cons_zero, Act.put, List.setIfInBounds_toArray, List.set_cons_zero, List.set_cons_succ]
              refine wpAnyH_take (i := 8) (v := ?_) rfl (by kernel_rfl) (by kernel_rfl) (by kernel_rfl) (fun _ _ _ h => h) (Or.inl ⟨by rfl, ?_⟩) (by assumption) ?_
              rotate_left
              · intro w hSw; (try dsimp only at hSw); go_simp <;> with_reducible rfl
              try simp only [List.getElem_toArray, List.getElem_cons_succ, List.getElem_cons_zero, Act.put, List.setIfInBounds_toArray, List.set_cons_zero, List.set_cons_succ]
              refine wpAnyH_take (i := 9) (v := ?_) rfl (by kernel_rfl) (by kernel_rfl) (by kernel_rfl) (fun _ _ _ h => h) (Or.inl ⟨by rfl, ?_⟩) (by assumption) ?_
              rotate_left
              · intro w hSw; (try dsimp only at hSw); go_simp <;> with_reducible rfl
              try simp only [List.getElem_toArray, List.getElem_cons_succ, List.getElem_cons_zero, Act.put, List.setIfInBounds_toArray, List.set_cons_zero, List.set_cons_succ]
              refine wpAnyH_ready (rs := [10]) (by kernel_rfl) (by simp) (AllReadyH.cons rfl (fun K hK => ?_) AllReadyH.nil)
              go_simp
              (go_at_call 60; refine (CI.out _ ((Below.refl _ W6).drew)).mono ?_; rintro e w7 ⟨rfl, rfl⟩)
              try go_wp2_with fail
              refine hK.out _ _ ?_ (fun hHeld => ?_)
              · first | exact HPUT6.out | exact ⟨c6, c63, c61⟩ | go_keep
              clear hK K
              try simp only [List.getElem_toArray, List.getElem_cons_succ, List.getElem_cons_zero, Act.put, List.setIfInBounds_toArray, List.set_cons_zero, List.set_cons_succ]
              refine wpAnyH_take (i := 11) (v := ?_) rfl (by kernel_rfl) (by kernel_rfl) (by kernel_rfl) (fun _ _ _ h => h) (Or.inl ⟨by rfl, ?_⟩) (by assumption) ?_
              rotate_left
              · intro w hSw; (try dsimp only at hSw); go_simp <;> with_reducible rfl
              try simp only [List.getElem_toArray, List.getElem_cons_succ, List.getElem_cons_zero, Act.put, List.setIfInBounds_toArray, List.set_cons_zero, List.set_cons_succ]
              refine wpAnyH_ready (rs := [12]) (by kernel_rfl) (by simp) (AllReadyH.cons rfl (fun K hK => ?_) AllReadyH.nil)
              go_simp
              try go_wp2_with fail
              refine hK.out _ _ ?_ (fun hHeld => ?_)
              · first | exact HPUT6.out | exact ⟨c6, c63, c61⟩ | go_keep
              clear hK K
              try simp only [List.getElem_toArray, List.getElem_cons_succ, List.getElem_cons_zero, Act.put, List.setIfInBounds_toArray, List.set_cons_zero, List.set_cons_succ]
              refine wpAnyH_done (by kernel_rfl) ⟨(fun e => by cases e), ?_⟩ _
              gi_wp2_with fail
              refine ⟨?_, ?_⟩
              · rw [← sz5]
                first
                  | exact HK5.out
                  | exact HK5.out.trans ((⟨Nat.le_refl _, fun _ _ h _ => h⟩ : KeepsOthers (W6.setCell ⟨gp, p, none⟩ (.int .i64 (q : Int))) (W6.setCell ⟨gp, p, none⟩ (.int .i64 (q : Int))).drew).from W5.heap.size)
              · first
                  | exact HI5.out
                  | exact HI5.out.up ((Below.refl _ _).drew)
            · have d0 : decide (x < 0) = false := decide_eq_false hx0
              rw [if_neg hx0] at hkp
              rw [show (endL (kpF nums) k).set p p = endL (kpF nums) (k + 1) from by
                have h9 := endL_set (F := kpF nums) (k := k) (x := p) (by rw [kpF_len, HNL.out]; exact hk) (by rw [← hpe]; exact hkp)
                rw [← hpe] at h9
                exact h9] at hI4
              have HI4 := Lib.hid hI4
              have HK4 := Lib.hid (hKr.out.trans ((KeepsOthers.setCell wr ⟨gp, p, none⟩ (.int .i64 (p : Int))).from W5.heap.size))
              clear hI4 hIr hKr hkF hkp hpe hel
              gi_wp2_with fail
              exact ⟨by rw [← sz5]; exact HK4.out, HI4.out⟩

      case done =>
        rintro D W hD hI hK
        have hfit := hI.fit HNL.out ⟨hfgp, hggp, hgbp⟩ (by omega) (by omega)
        have CU := Lib.hid (kunite_any fb g gb gp As ns cs c N N ss nums (kbF ss nums) HO.out f (kpF nums) 1 nm kp' W hfit HU.out)
        have hltD : D < W.heap.size := (Array.getElem?_eq_some_iff.1 hK).1
        have cc := hI.kC.cell 0
        simp only [List.getElem?_toArray, List.getElem?_cons_zero] at cc
        have hcl := hI.kC.lt
        have hpl := hI.kP.lt
        have HKW := Lib.hid hI.kW
        have HKD := Lib.hid hK
        have hDgp : D ≠ gp := by omega
        clear hfit hI hK
        gi_wp2_with (refine ⟨trivial, ?_⟩; gi_at_call 90; refine (callsIn_wide.2 CU.out).mono ?_; rintro e w9 ⟨⟨v9, rfl⟩, hK9, hF9⟩; have cc9 := (KeepE.cell hK9 (p := ⟨fb + 1, 0, none⟩) ⟨hcl, by show fb + 1 ≠ gp; omega⟩).trans cc; have HK2 := Lib.hid ((hK9.block D ⟨hltD, hDgp⟩).trans HKD.out); have HF9 := Lib.hid hF9; have HK9 := Lib.hid hK9; clear hK9 hF9)
        refine ⟨by simp, .inl ⟨_, _, rfl, run_takeDeferred HK2.out, ?_⟩⟩
        refine ⟨_, results_tmp rfl _ _ _, fb, g, gb, gp, c, N, N, rfl, ?_, ?_⟩
        · rw [HNUMS.out]
          have hg := grownBy_putObj' w9 D (.deferred none)
          have hb : Below gp w9 (w9.putObj D (.deferred none)) := ⟨hg.os, hg.tape, hg.output, hg.size, fun q hq => hg.block q (Nat.lt_trans hq HF9.out.prox.lt) (fun e => by have := Option.some.inj e; omega)⟩
          exact HF9.out.keep hb (HF9.out.prox.grown hg (fun e => hDgp (Option.some.inj e).symm)) rfl
        · have hg := grownBy_putObj' w9 D (.deferred none)
          have h9 : Below w.heap.size w w9 := HKW.out.trans (KeepE.below HK9.out fun b hb => ⟨by have := HKW.out.size; omega, by omega⟩)
          exact h9.grown hg h9.size (fun q e => by have := Option.some.inj e; omega)
      case stop =>
        rintro D W hD hI
        exact hI.elim

end Go.Proofs.Ytojofbmpknpggaa
