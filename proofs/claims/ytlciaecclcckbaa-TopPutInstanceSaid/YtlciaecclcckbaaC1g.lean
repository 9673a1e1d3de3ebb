/- Contracts: slices.Clone at []int and at Term. -/
import Derived.Test.YtlciaecclcckbaaA1g
import Derived.Test.YtlciaecclcckbaaC0g
import Derived.Maps.AppendAt
import Derived.Deep.AppendLies
import Derived.Lib.SliceRun
/- Contract: arguments. -/
namespace Go.Proofs.Ytlciaecclcckbaa
open Go.RowKit

theorem info_term : (Try.prog.info? 25).map (fun i => (i.zero, i.size, i.bytes)) = some (some (.slice none 0 0), 1, 24) := by kernel_rfl

set_option maxHeartbeats 400000 in
theorem arguments_var (As : Option Addr) (ns cs bt offt nt ct : Nat) (z : Int) (w : World) (hn : 1 ≤ nt) (hc : w.cell? ⟨bt, offt, none⟩ = some (.int .i64 z)) (hz : z < 0) :
    Calls Try.prog 109 #[.slice As ns cs, .slice (some ⟨bt, offt, none⟩) nt ct] w fun e w' => e = .returned (.slice none 0 0) ∧ w = w' := by
  go_enter Try.func109, Try.ntmps109
  go_wp2
  go_ret
  exact ⟨rfl, rfl⟩

set_option maxRecDepth 100000 in
set_option maxHeartbeats 1000000 in
theorem arguments_sym (As : Option Addr) (ns cs bt offt nt ct q r : Nat) (ss : Sg) (zs : List Int) (w : World) (hs : SigAt w w.heap.size As ns ss) (ht : IntsAt w w.heap.size (some ⟨bt, offt, none⟩) nt zs) (har : ArOk ss) (hns : 1 ≤ ns) (hns2 : ns ≤ 12)
    (hn : 1 ≤ nt) (hn2 : nt ≤ 60) (hct : nt ≤ ct) (hct2 : ct ≤ 9223372036854775807) (hh : HeadsOk ss zs) (hscan : scan ss 1 zs = some []) (hq : zs[0]? = some (q : Int)) (hr : (ss[q]?).map (·.2) = some (r : Int)) :
    Calls Try.prog 109 #[.slice As ns cs, .slice (some ⟨bt, offt, none⟩) nt ct] w fun e w' => e = .returned (.slice (some ⟨w.heap.size, 0, none⟩) r r) ∧ Below w.heap.size w w' ∧ Blk w' w.heap.size 25 (acells ss zs bt offt r r) := by
  obtain ⟨i0, hi, hz0, hz1, hz2⟩ := info_parts info_term
  have HT := Lib.hid ht
  have HS := Lib.hid hs
  obtain ⟨bs, offs, rfl, hbs, hsg⟩ := hs.mem (by omega)
  have hlt := ht.len
  have hls := hs.len
  have hl1 : 0 < zs.length := by omega
  have hq0 : zs[0] = (q : Int) := by rw [List.getElem?_eq_getElem hl1] at hq; exact Option.some.inj hq
  have hqs : q < ss.length := by have := hh _ (List.getElem_mem hl1); omega
  have hr0 : ss[q].2 = (r : Int) := by rw [List.getElem?_eq_getElem hqs] at hr; exact Option.some.inj hr
  have hr3 : r ≤ 3 := by have := (har _ (List.getElem_mem hqs)).2; omega
  have hbt : bt < w.heap.size := by
    obtain ⟨b, o, e, h, _⟩ := ht.mem (by omega)
    cases e; exact h
  have hc0 : w.cell? ⟨bt, offt, none⟩ = some (.int .i64 (q : Int)) := by
    obtain ⟨b, o, e, h, hc⟩ := ht.mem (by omega)
    cases e
    have := hc 0 hl1
    rw [hq0] at this
    exact this
  have hc1 := hsg.ar q hqs
  rw [hr0] at hc1
  have hrest : scan ss r (zs.drop 1) = some [] := by
    have := scan_head hscan hl1
    rw [hq0, arOf_at hqs, hr0, Int.toNat_natCast] at this
    exact this
  have hmk : ∀ W : World, (Instr.makeSlice 62 (.int .i64 (r : Int)) (.int .i64 (r : Int))).run Try.prog W = .ok (.slice (some ⟨W.heap.size, 0, none⟩) r r) (W.alloc (.cells (acells ss zs bt offt r 0) 25)) := by
    intro W
    rw [acells_zero]
    have := run_make_rowN (P := Try.prog) 62 25 i0 _ Try.underlying62 hi hz0 .i64 .i64 r r (Nat.le_refl _) (by rw [hz2]; omega) (by omega) W
    rw [hz1] at this
    exact this
  have HL := Lib.hid hlt
  have HE := Lib.hid (fun (w' : World) (hB : Below w.heap.size w w') (i : Nat) (hi : i ≤ 1000000) => end_any ss zs har hh (some ⟨bs, offs, none⟩) (some ⟨bt, offt, none⟩) ns cs nt ct i w' ((hs.below hB).more hB.size) ((ht.below hB).more hB.size) hns hn (by omega) (by omega) hi)
  have HP0 := Lib.hid (pos_zero ss (zs := zs) hl1)
  have HPS := Lib.hid (fun k (hk : k < r) => pos_step hrest hl1 hk)
  have HPK := Lib.hid (fun k (hk : k ≤ r) => pos_scan hrest hl1 hk)
  have hqn : ¬ (q : Int) < 0 := by omega
  have hqs' : q < ns := by omega
  have hqs2 : (q : Int) < (ns : Int) := by omega
  have hq02 : (0 : Int) ≤ (q : Int) := by omega
  clear ht hs hi hz0 hz1 hz2 hsg hq hr hq0 hr0 hlt hls hscan hrest har hh hqs
  go_enter Try.func109, Try.ntmps109
  go_wp2
  clear hmk hc0 hc1
  go_loopw [6, 23] (fun f c wr => ∃ k p : Nat, k ≤ r ∧ c = .int .i64 k ∧ f = .int .i64 p ∧ pos ss zs k = p ∧ Blk wr w.heap.size 25 (acells ss zs bt offt r k) ∧ Below w.heap.size w wr) (fun _ c _ => r - (intOf c).toNat)
  case atStart => exact ⟨0, 1, Nat.zero_le _, rfl, rfl, HP0.out, Blk.new _ _ _, (Below.refl _ _).alloc (Nat.le_refl _) _⟩
  case round =>
    obtain ⟨k, p, hk, rfl, rfl, hp, hF, hB⟩ := hrel
    by_cases hlt : k < r
    · obtain ⟨hs1, hs2, hs3⟩ := HPS.out k hlt
      obtain ⟨_, hs4, _⟩ := HPK.out k (by omega)
      obtain ⟨_, _, hs5⟩ := HPK.out (k + 1) (by omega)
      have e0 : argV ss zs bt offt k = .slice (some ⟨bt, offt + pos ss zs k, none⟩) (pos ss zs (k + 1) - pos ss zs k) (pos ss zs (k + 1) - pos ss zs k) := rfl
      rw [hp] at hs1 hs2 hs4 e0
      obtain ⟨p', hp'⟩ : ∃ p', pos ss zs (k + 1) = p' := ⟨_, rfl⟩
      rw [hp'] at hs1 hs2 hs5 e0
      rw [← HL.out] at hs5
      have HR := Lib.hid hs1
      have HP' := Lib.hid hp'
      have E0 := Lib.hid e0
      have HB := Lib.hid hB
      have HF := Lib.hid hF
      have hpc : p ≠ ct := by omega
      clear hs1 hp' hs3 e0 hp hB hF
      go_wp2_with (go_at_call 90; refine (HE.out _ HB.out p (by omega)).mono ?_; rintro e w1 ⟨rfl, hB1⟩; rw [HR.out]; have hF1 := HF.out.below hB1 HF.out.lt; have hcF := (hF1.cell k).trans (acells_at hlt); have hfF := hF1.frozen k; have HF1 := Lib.hid (hF1.set_ k (argV ss zs bt offt k)); have HB1 := Lib.hid ((HB.out.trans (hB1.mono HB.out.size)).setCell (p := ⟨w.heap.size, k, none⟩) (Nat.le_refl _) (argV ss zs bt offt k)); rw [E0.out] at HF1 HB1; clear hF1 hB1)
      go_roundw
      case rel => exact ⟨k + 1, p', by omega, by go_num, rfl, HP'.out, by rw [← acells_set hlt, E0.out]; exact HF1.out, HB1.out⟩
      case measure => simp [intOf]; omega
    · obtain rfl : k = r := by omega
      have HF := Lib.hid hF
      have HB := Lib.hid hB
      clear hp hF hB
      go_wp2
      go_ret
      exact ⟨rfl, HB.out, HF.out⟩

end Go.Proofs.Ytlciaecclcckbaa

namespace Go.Proofs.Ytlciaecclcckbaa
open Go.RowKit

set_option maxHeartbeats 400000 in
theorem cloneI_nil (w : World) : Calls Try.prog 110 #[.slice none 0 0] w (RetRow w []) := by
  have hnl : (binOp .eql 24 (.slice none 0 0) (.slice none 0 0)).run Try.prog w = .ok (.bool true) w := Lib.run_eql_slice_nil w 24 3 none 0 0 0 0 Try.underlying24
  go_enter Try.func110, Try.ntmps110
  go_wp2
  go_ret
  exact ⟨.slice none 0 0, rfl, World.ownsRow_nil _ _ _ _, Below.refl _ _⟩

set_option maxRecDepth 100000 in
set_option maxHeartbeats 1000000 in
theorem cloneI_any (w : World) (b off n c : Nat) (zs : List Int) (hn : 1 ≤ n) (hn2 : n ≤ 1000000) (hl : zs.length = n) (hc : ∀ j (h : j < zs.length), w.cell? ⟨b, off + j, none⟩ = some (.int .i64 zs[j])) (hb : b < w.heap.size) :
    Calls Try.prog 110 #[.slice (some ⟨b, off, none⟩) n c] w (RetRow w (zs.map (Value.int .i64))) := by
  obtain ⟨i0, hi, hz0, hz1, hz2⟩ := info_parts info_int
  have hnl : (binOp .eql 24 (.slice (some ⟨b, off, none⟩) n c) (.slice none 0 0)).run Try.prog w = .ok (.bool false) w := Lib.run_eql_slice_nil w 24 3 (some ⟨b, off, none⟩) n c 0 0 Try.underlying24
  have H1 : (zs.map (Value.int .i64)).length = n * 1 := by simp [hl]
  have H2 : ∀ j u, (zs.map (Value.int .i64))[j]? = some u → (w.alloc (.cells #[] 3)).cell? ((⟨b, off, none⟩ : Addr).add j) = some u := by
    intro j u hu
    rw [add0, alloc_keep _ _ _ hb]
    simp only [List.getElem?_map, Option.map_eq_some_iff] at hu
    obtain ⟨z, hz, rfl⟩ := hu
    obtain ⟨hj, rfl⟩ := List.getElem?_eq_some_iff.1 hz
    exact hc j hj
  have H3 : ∀ u ∈ zs.map (Value.int .i64), u.oneCell' = true := by
    intro u hu
    obtain ⟨z, _, rfl⟩ := List.mem_map.1 hu
    rfl
  have HH1 := Lib.hid H1
  have HH2 := Lib.hid H2
  have HH3 := Lib.hid H3
  have HO : (w.alloc (.cells #[] 3)).ownsRow w.heap.size 3 1 (.slice (some ⟨w.heap.size, 0, none⟩) 0 0) 0 [] :=
    ⟨rfl, .inr ⟨w.heap.size, 0, #[], rfl, Nat.le_refl _, heap_alloc_new w _, Nat.le_refl _, by unfold maxLen; omega, rfl, rfl⟩⟩
  have HO' := Lib.hid HO
  have HL := Lib.hid hl
  clear H1 H2 H3 HO hc hl
  go_enter Try.func110, Try.ntmps110
  go_wp2_with (at_builtin
               refine wpList_append_own_at _ rfl _ _ 24 rfl w.heap.size 3 i0 _ 1 8 Try.underlying24 hi hz0 hz1 hz2 rfl (by omega) (.slice (some ⟨w.heap.size, 0, none⟩) 0 0) 0 [] rfl HO'.out ⟨b, off, none⟩ n c (zs.map (Value.int .i64)) rfl HH1.out HH2.out HH3.out (by unfold maxLen; omega) (by omega) (by simp) ?_
               intro v' w1 hown hg _ _
               have HW := Lib.hid hown
               have HG := Lib.hid hg
               clear hown hg)
  go_ret
  refine ⟨v', rfl, ?_, ((Below.refl _ w).alloc (Nat.le_refl _) _).grown HG.out (by simp) (fun k e => by cases e; exact Nat.le_refl _)⟩
  have := HW.out
  simpa [HL.out] using this

end Go.Proofs.Ytlciaecclcckbaa
