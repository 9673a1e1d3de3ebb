/- Contract: arguments. -/
import Derived.Test.YtpdokmdapjdnoaaR3g
/- The arguments of a term: the plain mathematics. -/
namespace Go.Proofs.Ytpdokmdapjdnoaa
open Go.RowKit

theorem scan_take (ss : Sg) : ∀ (l : List Int) (n p : Nat), p ≤ l.length → scan ss n l = some (l.drop p) → scan ss n (l.take p) = some []
  | l, 0, p, hp, h => by
    rw [scan_zero] at h
    have e : l.length = l.length - p := by
      have := congrArg List.length (Option.some.inj h)
      rwa [List.length_drop] at this
    rw [scan_zero]
    rcases Nat.eq_zero_or_pos p with rfl | h0
    · simp
    · have : l = [] := List.eq_nil_of_length_eq_zero (by omega)
      simp [this]
  | [], n + 1, p, hp, h => by cases h
  | z :: l, n + 1, p, hp, h => by
    have h0 := h
    simp only [scan] at h
    obtain ⟨p', h1, h2, h3⟩ := scan_suffix ss _ _ _ h
    cases p with
    | zero =>
      have := congrArg List.length h3
      simp only [List.drop_zero, List.length_cons, List.length_drop] at this
      omega
    | succ p =>
      simp only [List.take_succ_cons, scan]
      exact scan_take ss l _ p (by simpa using hp) (by simpa using h)

/-- Where argument k of a term begins. -/
def pos (ss : Sg) (zs : List Int) (k : Nat) : Nat := zs.length - ((scan ss k (zs.drop 1)).getD []).length
theorem pos_zero (ss : Sg) {zs : List Int} (h : 1 ≤ zs.length) : pos ss zs 0 = 1 := by
  unfold pos
  rw [scan_zero]
  simp only [Option.getD_some, List.length_drop]
  omega
theorem scan_part {ss : Sg} {l : List Int} {r k : Nat} (h : scan ss r l = some []) (hk : k ≤ r) : ∃ p, p ≤ l.length ∧ k ≤ p ∧ scan ss k l = some (l.drop p) := by
  have e : r = k + (r - k) := by omega
  rw [e, scan_add] at h
  cases h1 : scan ss k l with
  | none => rw [h1] at h; cases h
  | some q =>
    obtain ⟨p, a, b, c⟩ := scan_suffix ss _ _ _ h1
    exact ⟨p, a, b, by rw [c]⟩
theorem pos_scan {ss : Sg} {zs : List Int} {r k : Nat} (h : scan ss r (zs.drop 1) = some []) (hl : 1 ≤ zs.length) (hk : k ≤ r) : scan ss k (zs.drop 1) = some (zs.drop (pos ss zs k)) ∧ 1 + k ≤ pos ss zs k ∧ pos ss zs k ≤ zs.length := by
  obtain ⟨p, h1, h2, h3⟩ := scan_part h hk
  rw [List.length_drop] at h1
  have e : pos ss zs k = 1 + p := by
    unfold pos
    rw [h3]
    simp only [Option.getD_some, List.length_drop]
    omega
  rw [e]
  exact ⟨by rw [h3, List.drop_drop], by omega, by omega⟩
theorem pos_step {ss : Sg} {zs : List Int} {r k : Nat} (h : scan ss r (zs.drop 1) = some []) (hl : 1 ≤ zs.length) (hk : k < r) : endI ss zs (pos ss zs k) = ((pos ss zs (k + 1) : Nat) : Int) ∧ pos ss zs k < pos ss zs (k + 1) ∧ scan ss 1 (zs.drop (pos ss zs k)) = some (zs.drop (pos ss zs (k + 1))) := by
  obtain ⟨a1, a2, a3⟩ := pos_scan h hl (Nat.le_of_lt hk)
  obtain ⟨b1, b2, b3⟩ := pos_scan h hl (show k + 1 ≤ r from hk)
  rw [scan_add, a1] at b1
  have b1' : scan ss 1 (zs.drop (pos ss zs k)) = some (zs.drop (pos ss zs (k + 1))) := b1
  obtain ⟨p, c1, c2, c3⟩ := scan_suffix ss _ _ _ b1'
  have hl3 := congrArg List.length c3
  rw [List.length_drop] at c1
  simp only [List.length_drop] at hl3
  refine ⟨?_, by omega, b1'⟩
  unfold endI
  rw [b1']
  simp only [List.length_drop]
  congr 1; omega
theorem scan_head {ss : Sg} {zs : List Int} (h : scan ss 1 zs = some []) (hl : 0 < zs.length) : scan ss (arOf ss zs[0]) (zs.drop 1) = some [] := by
  cases zs with
  | nil => simp at hl
  | cons z r => simpa [scan] using h

/-- Argument k of a term. -/
def argL (ss : Sg) (zs : List Int) (k : Nat) : List Int := (zs.drop (pos ss zs k)).take (pos ss zs (k + 1) - pos ss zs k)
theorem argL_ok {ss : Sg} {zs : List Int} {r k : Nat} (h : scan ss r (zs.drop 1) = some []) (hl : 1 ≤ zs.length) (hk : k < r) : scan ss 1 (argL ss zs k) = some [] ∧ (argL ss zs k).length = pos ss zs (k + 1) - pos ss zs k := by
  obtain ⟨_, h2, h3⟩ := pos_step h hl hk
  obtain ⟨_, _, b3⟩ := pos_scan h hl (show k + 1 ≤ r from hk)
  have hle : pos ss zs (k + 1) - pos ss zs k ≤ (zs.drop (pos ss zs k)).length := by rw [List.length_drop]; omega
  refine ⟨scan_take ss _ _ _ hle ?_, by unfold argL; rw [List.length_take]; omega⟩
  rw [h3, List.drop_drop]
  congr 2; omega

/-- The slice of argument k, as a value. -/
def argV (ss : Sg) (zs : List Int) (bt offt k : Nat) : Value := .slice (some ⟨bt, offt + pos ss zs k, none⟩) (pos ss zs (k + 1) - pos ss zs k) (pos ss zs (k + 1) - pos ss zs k)
def acells (ss : Sg) (zs : List Int) (bt offt r k : Nat) : Array Value := ((List.range k).map (argV ss zs bt offt) ++ List.replicate (r - k) (Value.slice none 0 0)).toArray
theorem acells_at {ss : Sg} {zs : List Int} {bt offt r k : Nat} (h : k < r) : (acells ss zs bt offt r k)[k]? = some (.slice none 0 0) := by
  unfold acells
  have e : ((List.range k).map (argV ss zs bt offt)).length = k := by simp
  rw [List.getElem?_toArray, List.getElem?_append_right (by omega), e, Nat.sub_self, List.getElem?_replicate, if_pos (by omega)]
theorem acells_set {ss : Sg} {zs : List Int} {bt offt r k : Nat} (h : k < r) : (acells ss zs bt offt r k).setIfInBounds k (argV ss zs bt offt k) = acells ss zs bt offt r (k + 1) := by
  unfold acells
  have e : ((List.range k).map (argV ss zs bt offt)).length = k := by simp
  rw [List.setIfInBounds_toArray, List.set_append_right _ _ (by omega), e, Nat.sub_self, List.range_succ, List.map_append]
  rw [show r - k = (r - (k + 1)) + 1 from by omega, List.replicate_succ]
  simp
theorem acells_zero (ss : Sg) (zs : List Int) (bt offt r : Nat) : acells ss zs bt offt r 0 = madeCells #[.slice none 0 0] (r * 1) := by
  unfold acells madeCells
  apply Array.ext
  · simp
  · intro i h1 h2
    simp [Nat.mod_one]
end Go.Proofs.Ytpdokmdapjdnoaa

namespace Go.Proofs.Ytpdokmdapjdnoaa
open Go.RowKit

theorem info_term : (Try.prog.info? 25).map (fun i => (i.zero, i.size, i.bytes)) = some (some (.slice none 0 0), 1, 24) := by kernel_rfl

set_option maxHeartbeats 400000 in
theorem arguments_var (As : Option Addr) (ns cs bt offt nt ct : Nat) (z : Int) (w : World) (hn : 1 ≤ nt) (hc : w.cell? ⟨bt, offt, none⟩ = some (.int .i64 z)) (hz : z < 0) :
    Calls Try.prog 87 #[.slice As ns cs, .slice (some ⟨bt, offt, none⟩) nt ct] w fun e w' => e = .returned (.slice none 0 0) ∧ w = w' := by
  go_enter Try.func87, Try.ntmps87
  go_wp2
  go_ret
  exact ⟨rfl, rfl⟩

set_option maxRecDepth 100000 in
set_option maxHeartbeats 1000000 in
theorem arguments_sym (As : Option Addr) (ns cs bt offt nt ct q r : Nat) (ss : Sg) (zs : List Int) (w : World) (hs : SigAt w w.heap.size As ns ss) (ht : IntsAt w w.heap.size (some ⟨bt, offt, none⟩) nt zs) (har : ArOk ss) (hns : 1 ≤ ns) (hns2 : ns ≤ 12)
    (hn : 1 ≤ nt) (hn2 : nt ≤ 60) (hct : nt ≤ ct) (_hct2 : ct ≤ 9223372036854775807) (hh : HeadsOk ss zs) (hscan : scan ss 1 zs = some []) (hq : zs[0]? = some (q : Int)) (hr : (ss[q]?).map (·.2) = some (r : Int)) :
    Calls Try.prog 87 #[.slice As ns cs, .slice (some ⟨bt, offt, none⟩) nt ct] w fun e w' => e = .returned (.slice (some ⟨w.heap.size, 0, none⟩) r r) ∧ Below w.heap.size w w' ∧ Blk w' w.heap.size 25 (acells ss zs bt offt r r) := by
  obtain ⟨i0, hi, hz0, hz1, hz2⟩ := info_parts info_term
  have HT := Lib.hid ht
  have HS := Lib.hid hs
  obtain ⟨bs, offs, rfl, hbs, hsg⟩ := hs.mem (by omega)
  have hlt := ht.len
  have hls := hs.len
  have hl1 : 0 < zs.length := by omega
  have hq0 : zs[0] = (q : Int) := by rw [List.getElem?_eq_getElem hl1] at hq; exact Option.some.inj hq
  have hqs : q < ss.length := by have := hh _ (List.getElem_mem hl1); omega
  have hr0 : ss[q].2 = (r : Int) := by rw [List.getElem?_eq_getElem hqs] at hr; exact Option.some.inj hr
  have hr3 : r ≤ 3 := by have := (har _ (List.getElem_mem hqs)).2; omega
  have hbt : bt < w.heap.size := by
    obtain ⟨b, o, e, h, _⟩ := ht.mem (by omega)
    cases e; exact h
  have hc0 : w.cell? ⟨bt, offt, none⟩ = some (.int .i64 (q : Int)) := by
    obtain ⟨b, o, e, h, hc⟩ := ht.mem (by omega)
    cases e
    have := hc 0 hl1
    rw [hq0] at this
    exact this
  have hc1 := hsg.ar q hqs
  rw [hr0] at hc1
  have hrest : scan ss r (zs.drop 1) = some [] := by
    have := scan_head hscan hl1
    rw [hq0, arOf_at hqs, hr0, Int.toNat_natCast] at this
    exact this
  have hmk : ∀ W : World, (Instr.makeSlice 46 (.int .i64 (r : Int)) (.int .i64 (r : Int))).run Try.prog W = .ok (.slice (some ⟨W.heap.size, 0, none⟩) r r) (W.alloc (.cells (acells ss zs bt offt r 0) 25)) := by
    intro W
    rw [acells_zero]
    have := run_make_rowN (P := Try.prog) 46 25 i0 _ Try.underlying46 hi hz0 .i64 .i64 r r (Nat.le_refl _) (by rw [hz2]; omega) (by omega) W
    rw [hz1] at this
    exact this
  have HL := Lib.hid hlt
  have HE := Lib.hid (fun (w' : World) (hB : Below w.heap.size w w') (i : Nat) (hi : i ≤ 1000000) => end_any ss zs har hh (some ⟨bs, offs, none⟩) (some ⟨bt, offt, none⟩) ns cs nt ct i w' ((hs.below hB).more hB.size) ((ht.below hB).more hB.size) hns hn (by omega) (by omega) hi)
  have HP0 := Lib.hid (pos_zero ss (zs := zs) hl1)
  have HPS := Lib.hid (fun k (hk : k < r) => pos_step hrest hl1 hk)
  have HPK := Lib.hid (fun k (hk : k ≤ r) => pos_scan hrest hl1 hk)
  have hqn : ¬ (q : Int) < 0 := by omega
  have hqs' : q < ns := by omega
  have hqs2 : (q : Int) < (ns : Int) := by omega
  have hq02 : (0 : Int) ≤ (q : Int) := by omega
  clear ht hs hi hz0 hz1 hz2 hsg hq hr hq0 hr0 hlt hls hscan hrest har hh hqs
  go_enter Try.func87, Try.ntmps87
  go_wp2
  clear hmk hc0 hc1
  go_loopw [6, 23] (fun f c wr => ∃ k p : Nat, k ≤ r ∧ c = .int .i64 k ∧ f = .int .i64 p ∧ pos ss zs k = p ∧ Blk wr w.heap.size 25 (acells ss zs bt offt r k) ∧ Below w.heap.size w wr) (fun _ c _ => r - (intOf c).toNat)
  case atStart => exact ⟨0, 1, Nat.zero_le _, rfl, rfl, HP0.out, Blk.new _ _ _, (Below.refl _ _).alloc (Nat.le_refl _) _⟩
  case round =>
    obtain ⟨k, p, hk, rfl, rfl, hp, hF, hB⟩ := hrel
    by_cases hlt : k < r
    · obtain ⟨hs1, hs2, hs3⟩ := HPS.out k hlt
      obtain ⟨_, hs4, _⟩ := HPK.out k (by omega)
      obtain ⟨_, _, hs5⟩ := HPK.out (k + 1) (by omega)
      have e0 : argV ss zs bt offt k = .slice (some ⟨bt, offt + pos ss zs k, none⟩) (pos ss zs (k + 1) - pos ss zs k) (pos ss zs (k + 1) - pos ss zs k) := rfl
      rw [hp] at hs1 hs2 hs4 e0
      obtain ⟨p', hp'⟩ : ∃ p', pos ss zs (k + 1) = p' := ⟨_, rfl⟩
      rw [hp'] at hs1 hs2 hs5 e0
      rw [← HL.out] at hs5
      have HR := Lib.hid hs1
      have HP' := Lib.hid hp'
      have E0 := Lib.hid e0
      have HB := Lib.hid hB
      have HF := Lib.hid hF
      have hpc : p ≠ ct := by omega
      clear hs1 hp' hs3 e0 hp hB hF
      go_wp2_with (go_at_call 133; refine (HE.out _ HB.out p (by omega)).mono ?_; rintro e w1 ⟨rfl, hB1⟩; rw [HR.out]; have hF1 := HF.out.below hB1 HF.out.lt; have hcF := (hF1.cell k).trans (acells_at hlt); have hfF := hF1.frozen k; have HF1 := Lib.hid (hF1.set_ k (argV ss zs bt offt k)); have HB1 := Lib.hid ((HB.out.trans (hB1.mono HB.out.size)).setCell (p := ⟨w.heap.size, k, none⟩) (Nat.le_refl _) (argV ss zs bt offt k)); rw [E0.out] at HF1 HB1; clear hF1 hB1)
      go_roundw
      case rel => exact ⟨k + 1, p', by omega, by go_num, rfl, HP'.out, by rw [← acells_set hlt, E0.out]; exact HF1.out, HB1.out⟩
      case measure => simp [intOf]; omega
    · obtain rfl : k = r := by omega
      have HF := Lib.hid hF
      have HB := Lib.hid hB
      clear hp hF hB
      go_wp2
      go_ret
      exact ⟨rfl, HB.out, HF.out⟩

end Go.Proofs.Ytpdokmdapjdnoaa
