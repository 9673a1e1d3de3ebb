/- Contracts: renamed, Canonical. -/
import Derived.Test.YtlciaecclcckbaaR1g
import Derived.Test.YtlciaecclcckbaaV1g
namespace Go.Proofs.Ytlciaecclcckbaa
open Go.RowKit

theorem info_int : (Try.prog.info? 3).map (fun i => (i.zero, i.size, i.bytes)) = some (some (.int .i64 0), 1, 8) := by kernel_rfl

theorem wf_small {z : Int} (h1 : -1000000 ≤ z) (h2 : z ≤ 1000000) : (Lit.int .i64 z).wf = true := by
  have e1 : IntKind.i64.min = -9223372036854775808 := by decide
  have e2 : IntKind.i64.max = 9223372036854775807 := by decide
  simp only [Lit.wf, e1, e2, Bool.and_eq_true, decide_eq_true_eq]
  omega

set_option maxRecDepth 100000 in
set_option maxHeartbeats 1000000 in
theorem renamed_any (At : Option Addr) (nt ct : Nat) (zs : List Int) (w : World) (ht : IntsAt w w.heap.size At nt zs) (h1 : 1 ≤ nt) (h2 : nt ≤ 60) (hb : ∀ z ∈ zs, -1000000 ≤ z ∧ z ≤ 1000000) :
    Calls Try.prog 84 #[.slice At nt ct] w fun e w' => e = .returned (.slice (some ⟨w.heap.size, 0, none⟩) nt nt) ∧ Below w.heap.size w w' ∧ Blk w' w.heap.size 3 ((canon zs).map (Value.int .i64)).toArray := by
  obtain ⟨i0, hi, hz0, hz1, hz2⟩ := info_parts info_int
  obtain ⟨bt, offt, rfl, hbt, htc⟩ := ht.mem (by omega)
  have hlen := ht.len
  have hmk : ∀ W : World, (Instr.makeSlice 25 (.int .i64 (nt : Int)) (.int .i64 (nt : Int))).run Try.prog W = .ok (.slice (some ⟨W.heap.size, 0, none⟩) nt nt) (W.alloc (.cells (rcells zs 0) 3)) := by
    intro W
    rw [rcells_zero, ← hlen]
    have := run_make_rowN (P := Try.prog) 25 3 i0 _ Try.underlying25 hi hz0 .i64 .i64 nt nt (Nat.le_refl _) (by rw [hz2]; omega) (by omega) W
    rw [hz1] at this
    exact this
  have hmm := @run_makeMap Try.prog
  have HL := Lib.hid hlen
  clear ht hi hz0 hz1 hz2 hlen
  go_enter Try.func84, Try.ntmps84
  go_wp2
  clear hmk hmm
  go_loopw [15] (fun c wr => ∃ k : Nat, k ≤ nt ∧ c = .int .i64 k ∧ Blk wr w.heap.size 3 (rcells zs k) ∧ Numb wr (w.heap.size + 1) k (seenTo zs k) ∧ Below w.heap.size w wr) (fun c _ => nt - (intOf c).toNat)
  case atStart =>
    refine ⟨0, Nat.zero_le _, rfl, (Blk.new _ _ _).alloc _, ?_, ((Below.refl _ _).alloc (Nat.le_refl _) _).alloc (by simp) _⟩
    have := Numb.made (w.alloc (.cells (rcells zs 0) 3))
    simpa [seenTo] using this
  case round =>
    obtain ⟨k, hk, rfl, hF, hM, hB⟩ := hrel
    by_cases hlt : k < nt
    · have hk' : k < zs.length := by have := HL.out; omega
      have hc := (hB.cell (p := ⟨bt, offt + k, none⟩) hbt).trans (htc k hk')
      obtain ⟨hz1, hz2⟩ := hb _ (List.getElem_mem hk')
      have hset := fun v => rcells_set (v := v) hk'
      have hseen := seenTo_succ hk'
      have hsl := seenTo_le zs k
      have hcF := (hF.cell k).trans (rcells_at hk')
      have hfF := hF.frozen k
      obtain ⟨z, hz⟩ : ∃ z, zs[k] = z := ⟨_, rfl⟩
      rw [hz] at hc hz1 hz2 hset hseen
      have hwf := wf_small hz1 hz2
      have hFs := fun u => hF.set_ k u
      have hMs := fun u => hM.setCell (a := ⟨w.heap.size, k, none⟩) (by simp) u
      have hBs := fun u => hB.setCell (p := ⟨w.heap.size, k, none⟩) (Nat.le_refl _) u
      clear hz
      by_cases hpos : 0 ≤ z
      · have H1 := Lib.hid (hset z (by simp [ren1, hpos]))
        have H2 := Lib.hid (show seenTo zs (k + 1) = seenTo zs k by rw [hseen]; simp [addSeen, hpos])
        have HFs := Lib.hid (hFs (.int .i64 z))
        have HMs := Lib.hid (hMs (.int .i64 z))
        have HBs := Lib.hid (hBs (.int .i64 z))
        clear hset hseen hFs hMs hBs hb htc hF hM hB
        go_wp2
        go_roundw
        case rel => exact ⟨k + 1, by omega, by go_num, by rw [← H1.out]; exact HFs.out, by rw [H2.out]; exact HMs.out.mono (by omega), HBs.out⟩
        case measure => simp [intOf]; omega
      · have hneg : z < 0 := by omega
        clear hpos
        cases hcon : (seenTo zs k).contains z
        · have hadd : addSeen (seenTo zs k) z = seenTo zs k ++ [z] := by simp [addSeen, show ¬ 0 ≤ z from by omega]; simpa using hcon
          obtain ⟨c, hlk⟩ := hM.look_ok z hwf
          have hln := hM.len
          have hup := hM.update z hwf hcon (by unfold maxLen; omega) (-((seenTo zs k).length : Int) - 1) rfl (wf_small (by omega) (by omega))
          rw [hcon] at hlk
          have hcn : cnum (seenTo zs k ++ [z]) z = -((seenTo zs k).length : Int) - 1 := by
            unfold cnum
            rw [List.idxOf_append, if_neg (by simpa using hcon)]
            simp
          have H1 := Lib.hid (hset (cnum (seenTo zs k ++ [z]) z) (by simp [ren1, show ¬ 0 ≤ z from by omega, hadd]))
          rw [hcn] at H1
          rw [hadd, ] at hseen
          obtain ⟨s, hs⟩ : ∃ s, (seenTo zs k).length = s := ⟨_, rfl⟩
          rw [hs] at hln hup H1 hsl hcn
          obtain ⟨w3, hup, hM3, hg3⟩ := hup
          have hlk3 := hM3.look z hwf (by simp)
          rw [hcn] at hlk3
          have hF3 := hF.grown hg3 (by simp)
          have hB3 := hB.grown hg3 hB.size (fun j e => by cases e; omega)
          have hcF3 := (hF3.cell k).trans (rcells_at hk')
          have hfF3 := hF3.frozen k
          have HFs := Lib.hid (hF3.set_ k (.int .i64 (-(s : Int) - 1)))
          have HMs := Lib.hid (hM3.setCell (a := ⟨w.heap.size, k, none⟩) (by simp) (.int .i64 (-(s : Int) - 1)))
          have HBs := Lib.hid (hB3.setCell (p := ⟨w.heap.size, k, none⟩) (Nat.le_refl _) (.int .i64 (-(s : Int) - 1)))
          have H2 := Lib.hid hseen
          clear hset hseen hFs hMs hBs hb htc hF hM hB hF3 hM3 hB3 hg3 hadd hcon hs hcn
          go_wp2
          go_roundw
          case rel => exact ⟨k + 1, by omega, by go_num, by rw [← H1.out]; exact HFs.out, by rw [H2.out]; exact HMs.out, HBs.out⟩
          case measure => simp [intOf]; omega
        · have hadd : addSeen (seenTo zs k) z = seenTo zs k := by simp [addSeen, show ¬ 0 ≤ z from by omega]; simpa using hcon
          obtain ⟨c, hlk⟩ := hM.look_ok z hwf
          have hlk3 := hM.look z hwf hcon
          rw [hcon] at hlk
          have H1 := Lib.hid (hset (cnum (seenTo zs k) z) (by simp [ren1, show ¬ 0 ≤ z from by omega, hadd]))
          rw [hadd] at hseen
          obtain ⟨v, hv⟩ : ∃ v, cnum (seenTo zs k) z = v := ⟨_, rfl⟩
          rw [hv] at hlk3 H1
          have HFs := Lib.hid (hFs (.int .i64 v))
          have HMs := Lib.hid (hMs (.int .i64 v))
          have HBs := Lib.hid (hBs (.int .i64 v))
          have H2 := Lib.hid hseen
          clear hset hseen hFs hMs hBs hb htc hF hM hB hadd hcon hv
          go_wp2
          go_roundw
          case rel => exact ⟨k + 1, by omega, by go_num, by rw [← H1.out]; exact HFs.out, by rw [H2.out]; exact HMs.out.mono (by omega), HBs.out⟩
          case measure => simp [intOf]; omega
    · obtain rfl : k = nt := by omega
      have H := Lib.hid hF
      have HB := Lib.hid hB
      clear hF hM
      go_wp2
      go_ret
      exact ⟨rfl, HB.out, by have := H.out; rw [HL.out, rcells_all] at this; exact this⟩

end Go.Proofs.Ytlciaecclcckbaa
