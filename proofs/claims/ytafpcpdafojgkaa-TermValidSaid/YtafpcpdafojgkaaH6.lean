/- Contracts: Counts, the reference's Counts. -/
import Derived.Test.YtafpcpdafojgkaaH5
import Derived.Test.YtafpcpdafojgkaaF3
namespace Go.Proofs.Ytafpcpdafojgkaa
open Go.RowKit

theorem IntsAt.of_ccells {w : World} {b n : Nat} {zs : List Int} {k : Nat} (h : Blk w b 3 (ccells n zs k)) (hk : zs.length ≤ k) (hn : n ≤ 1000000) : IntsAt w w.heap.size (some ⟨b, 0, none⟩) n (cntL n zs zs.length) := by
  rw [← cntL_all hk]
  exact IntsAt.of_blk h (cntL_len n zs k).symm (by rw [cntL_len]; exact hn)

set_option maxHeartbeats 400000 in
theorem counts_bad (As At : Option Addr) (ns cs nt ct : Nat) (ss : Sg) (zs : List Int) (w : World) (hs : SigAt w w.heap.size As ns ss) (ht : IntsAt w w.heap.size At nt zs) (hv : valOk ss zs = false) :
    Calls Try.prog 25 #[.slice As ns cs, .slice At nt ct] w (RetT w [] 1) := by
  have C := Lib.hid (valid_any As At ns cs nt ct ss zs w hs ht)
  have HV := Lib.hid hv
  clear hv hs ht
  go_enter Try.func25, Try.ntmps25
  go_wp2_with (go_at_call 18; refine C.out.mono ?_; rintro e w1 ⟨rfl, hB⟩; rw [HV.out]; have HB := Lib.hid hB)
  go_ret2
  exact ⟨none, 0, 0, rfl, IntsAt.nil _ _ 0, HB.out⟩

set_option maxHeartbeats 400000 in
theorem refCounts_bad (As At : Option Addr) (ns cs nt ct : Nat) (ss : Sg) (zs : List Int) (w : World) (hs : SigAt w w.heap.size As ns ss) (ht : IntsAt w w.heap.size At nt zs) (hv : valOk ss zs = false) :
    Calls Try.prog 26 #[.slice As ns cs, .slice At nt ct] w (RetT w [] 1) := by
  have C := Lib.hid (refValid_any As At ns cs nt ct ss zs w _ hs ht)
  have HV := Lib.hid hv
  clear hv hs ht
  go_enter Try.func26, Try.ntmps26
  go_wp2_with (go_at_call 19; refine C.out.mono ?_; rintro e w1 ⟨rfl, k1, rfl⟩; rw [HV.out])
  go_ret2
  exact ⟨none, 0, 0, rfl, IntsAt.nil _ _ 0, below_drewN (Below.refl _ _) _⟩

set_option maxRecDepth 100000 in
set_option maxHeartbeats 1000000 in
theorem counts_ok (As At : Option Addr) (ns cs nt ct : Nat) (ss : Sg) (zs : List Int) (w : World) (hs : SigAt w w.heap.size As ns ss) (ht : IntsAt w w.heap.size At nt zs) (hv : valOk ss zs = true) :
    Calls Try.prog 25 #[.slice As ns cs, .slice At nt ct] w (RetT w (cntL ns zs zs.length) 0) := by
  obtain ⟨i0, hi, hz0, hz1, hz2⟩ := info_parts info_int
  have C := Lib.hid (valid_any As At ns cs nt ct ss zs w hs ht)
  obtain ⟨h1, h60, hnum, _⟩ := valOk_term hv
  have h12 := sigOk_len (valOk_sig hv)
  rw [← hs.len] at h12
  have hl := ht.len
  obtain ⟨bt, offt, rfl, hbt, htc⟩ := ht.mem (by omega)
  have hmk : ∀ W : World, (Instr.makeSlice 24 (.int .i64 (ns : Int)) (.int .i64 (ns : Int))).run Try.prog W = .ok (.slice (some ⟨W.heap.size, 0, none⟩) ns ns) (W.alloc (.cells (ccells ns zs 0) 3)) := by
    intro W
    rw [ccells_zero]
    have := run_make_rowN (P := Try.prog) 24 3 i0 _ Try.underlying24 hi hz0 .i64 .i64 ns ns (Nat.le_refl _) (by rw [hz2]; omega) (by omega) W
    rw [hz1] at this
    exact this
  have HV := Lib.hid hv
  have HL := Lib.hid hl
  have HNUM := Lib.hid (show ∀ z ∈ zs, z < (ns : Int) by rw [hs.len]; exact fun z hz => (hnum z hz).2)
  have hnt : nt ≤ 60 := by omega
  have HTC := Lib.hid htc
  clear hv hs ht h1 h60 hnum hl hi hz0 hz1 hz2 htc
  go_enter Try.func25, Try.ntmps25
  go_wp2_with (go_at_call 18; refine C.out.mono ?_; rintro e w1 ⟨rfl, hB⟩; rw [HV.out]; have HB := Lib.hid hB; clear hB)
  go_loopw [18] (fun c wr => ∃ k : Nat, k ≤ nt ∧ c = .int .i64 k ∧ Blk wr w1.heap.size 3 (ccells ns zs k) ∧ Below w.heap.size w wr) (fun c _ => nt - (intOf c).toNat)
  case atStart => exact ⟨0, Nat.zero_le _, rfl, Blk.new _ _ _, HB.out.alloc HB.out.size _⟩
  case round =>
    obtain ⟨k, hk, rfl, hF, hB⟩ := hrel
    by_cases hlt : k < nt
    · have hk' : k < zs.length := by have := HL.out; omega
      have hc := (hB.cell (p := ⟨bt, offt + k, none⟩) hbt).trans (HTC.out k hk')
      have hzn := HNUM.out _ (List.getElem_mem hk')
      have hneg' := fun h => ccells_neg (n := ns) hk' h
      have hset' := fun q c h1 h2 h3 => ccells_set (n := ns) (q := q) (c := c) hk' h1 h2 h3
      have hle := fun j => cnt_le zs k j
      obtain ⟨z, hz⟩ : ∃ z, zs[k] = z := ⟨_, rfl⟩
      rw [hz] at hc hzn hneg'
      simp only [hz] at hset'
      have hk0 : (0 : Int) ≤ (k : Int) := by omega
      have hk1 : (k : Int) < (nt : Int) := by omega
      by_cases hneg : z < 0
      · have H := Lib.hid (hneg' hneg)
        have HF := Lib.hid hF
        have HBB := Lib.hid hB
        have hge : ¬ (0 : Int) ≤ z := by omega
        clear hneg' hset' hle hF hB hz hk'
        go_wp2
        go_roundw
        case rel => exact ⟨k + 1, by omega, by go_num, by rw [H.out]; exact HF.out, HBB.out⟩
        case measure => simp [intOf]; omega
      · obtain ⟨q, rfl⟩ : ∃ q : Nat, z = (q : Int) := ⟨z.toNat, by omega⟩
        have hq : q < ns := by omega
        obtain ⟨c, hcc⟩ : ∃ c, (zs.take k).count (q : Int) = c := ⟨_, rfl⟩
        have hcF := (hF.cell q).trans (ccells_at zs k hq)
        have hfF := hF.frozen q
        have hcl := hle (q : Int)
        rw [hcc] at hcF hcl
        have H := Lib.hid (hset' q c rfl hq hcc)
        have HF := Lib.hid (hF.set_ q (.int .i64 ((c : Int) + 1)))
        have HBB := Lib.hid (hB.setCell (p := ⟨w1.heap.size, q, none⟩) HB.out.size (.int .i64 ((c : Int) + 1)))
        have hq0 : (0 : Int) ≤ (q : Int) := by omega
        have hq1 : (q : Int) < (ns : Int) := by omega
        clear hneg' hset' hle hF hB hz hk' hcc hneg
        go_wp2
        go_roundw
        case rel => exact ⟨k + 1, by omega, by go_num, by rw [← H.out]; exact HF.out, HBB.out⟩
        case measure => simp [intOf]; omega
    · obtain rfl : k = nt := by omega
      have H := Lib.hid (IntsAt.of_ccells hF (by rw [← HL.out]; exact Nat.le_refl _) (by omega))
      have HBB := Lib.hid hB
      clear hF hB
      go_wp2
      go_ret2
      exact ⟨_, _, _, rfl, H.out, HBB.out⟩

set_option maxRecDepth 100000 in
set_option maxHeartbeats 1000000 in
theorem refCounts_ok (As At : Option Addr) (ns cs nt ct : Nat) (ss : Sg) (zs : List Int) (w : World) (hs : SigAt w w.heap.size As ns ss) (ht : IntsAt w w.heap.size At nt zs) (hv : valOk ss zs = true) :
    Calls Try.prog 26 #[.slice As ns cs, .slice At nt ct] w (RetT w (cntL ns zs zs.length) 0) := by
  obtain ⟨i0, hi, hz0, hz1, hz2⟩ := info_parts info_int
  have C := Lib.hid (refValid_any As At ns cs nt ct ss zs w _ hs ht)
  obtain ⟨h1, h60, hnum, _⟩ := valOk_term hv
  have h12 := sigOk_len (valOk_sig hv)
  rw [← hs.len] at h12
  have hl := ht.len
  obtain ⟨bt, offt, rfl, hbt, htc⟩ := ht.mem (by omega)
  have hmk : ∀ W : World, (Instr.makeSlice 24 (.int .i64 (ns : Int)) (.int .i64 (ns : Int))).run Try.prog W = .ok (.slice (some ⟨W.heap.size, 0, none⟩) ns ns) (W.alloc (.cells (ccells ns zs 0) 3)) := by
    intro W
    rw [ccells_zero]
    have := run_make_rowN (P := Try.prog) 24 3 i0 _ Try.underlying24 hi hz0 .i64 .i64 ns ns (Nat.le_refl _) (by rw [hz2]; omega) (by omega) W
    rw [hz1] at this
    exact this
  have HV := Lib.hid hv
  have HL := Lib.hid hl
  have HNUM := Lib.hid (show ∀ z ∈ zs, z < (ns : Int) by rw [hs.len]; exact fun z hz => (hnum z hz).2)
  have hnt : nt ≤ 60 := by omega
  have HTC := Lib.hid htc
  clear hv hs ht h1 h60 hnum hl hi hz0 hz1 hz2 htc
  go_enter Try.func26, Try.ntmps26
  go_wp2_with (go_at_call 19; refine C.out.mono ?_; rintro e w1 ⟨rfl, j1, rfl⟩; rw [HV.out]; have HB := Lib.hid (below_drewN (Below.refl w.heap.size w) j1))
  go_loopw [7] (fun c wr => ∃ k : Nat, k ≤ nt ∧ c = .int .i64 k ∧ Blk wr w.heap.size 3 (ccells ns zs k) ∧ Below w.heap.size w wr) (fun c _ => nt - (intOf c).toNat)
  case atStart => exact ⟨0, Nat.zero_le _, rfl, Blk.new _ _ _, HB.out.alloc HB.out.size _⟩
  case round =>
    obtain ⟨k, hk, rfl, hF, hB⟩ := hrel
    by_cases hlt : k < nt
    · have hk' : k < zs.length := by have := HL.out; omega
      have hc := (hB.cell (p := ⟨bt, offt + k, none⟩) hbt).trans (HTC.out k hk')
      have hzn := HNUM.out _ (List.getElem_mem hk')
      have hneg' := fun h => ccells_neg (n := ns) hk' h
      have hset' := fun q c h1 h2 h3 => ccells_set (n := ns) (q := q) (c := c) hk' h1 h2 h3
      have hle := fun j => cnt_le zs k j
      obtain ⟨z, hz⟩ : ∃ z, zs[k] = z := ⟨_, rfl⟩
      rw [hz] at hc hzn hneg'
      simp only [hz] at hset'
      have hk0 : (0 : Int) ≤ (k : Int) := by omega
      have hk1 : (k : Int) < (nt : Int) := by omega
      by_cases hneg : z < 0
      · have H := Lib.hid (hneg' hneg)
        have HF := Lib.hid hF
        have HBB := Lib.hid hB
        have hge : ¬ (0 : Int) ≤ z := by omega
        clear hneg' hset' hle hF hB hz hk'
        go_wp2
        go_roundw
        case rel => exact ⟨k + 1, by omega, by go_num, by rw [H.out]; exact HF.out, HBB.out⟩
        case measure => simp [intOf]; omega
      · obtain ⟨q, rfl⟩ : ∃ q : Nat, z = (q : Int) := ⟨z.toNat, by omega⟩
        have hq : q < ns := by omega
        obtain ⟨c, hcc⟩ : ∃ c, (zs.take k).count (q : Int) = c := ⟨_, rfl⟩
        have hcF := (hF.cell q).trans (ccells_at zs k hq)
        have hfF := hF.frozen q
        have hcl := hle (q : Int)
        rw [hcc] at hcF hcl
        have H := Lib.hid (hset' q c rfl hq hcc)
        have HF := Lib.hid (hF.set_ q (.int .i64 ((c : Int) + 1)))
        have HBB := Lib.hid (hB.setCell (p := ⟨w.heap.size, q, none⟩) (Nat.le_refl _) (.int .i64 ((c : Int) + 1)))
        have hq0 : (0 : Int) ≤ (q : Int) := by omega
        have hq1 : (q : Int) < (ns : Int) := by omega
        clear hneg' hset' hle hF hB hz hk' hcc hneg
        go_wp2
        go_roundw
        case rel => exact ⟨k + 1, by omega, by go_num, by rw [← H.out]; exact HF.out, HBB.out⟩
        case measure => simp [intOf]; omega
    · obtain rfl : k = nt := by omega
      have H := Lib.hid (IntsAt.of_ccells hF (by rw [← HL.out]; exact Nat.le_refl _) (by omega))
      have HBB := Lib.hid hB
      clear hF hB
      go_wp2
      go_ret2
      exact ⟨_, _, _, rfl, H.out, HBB.out⟩

end Go.Proofs.Ytafpcpdafojgkaa
