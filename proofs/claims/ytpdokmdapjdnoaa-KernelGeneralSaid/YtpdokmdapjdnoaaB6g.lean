/- Contract: Args. -/
import Derived.Test.YtpdokmdapjdnoaaA2g
import Derived.Test.YtpdokmdapjdnoaaP4g
import Derived.Test.YtpdokmdapjdnoaaB5g
namespace Go.Proofs.Ytpdokmdapjdnoaa
open Go.RowKit

def gmcells (ss : Sg) (zs : List Int) (bt offt r : Nat) (ls : List Hd) (k : Nat) : Array Value := (ls.map Hd.val ++ ((List.range r).drop k).map (argV ss zs bt offt)).toArray
section
variable {ss : Sg} {zs : List Int} {bt offt r k : Nat} {ls : List Hd}
theorem gmcells_at (h : k < r) (hl : ls.length = k) : (gmcells ss zs bt offt r ls k)[k]? = some (argV ss zs bt offt k) := by
  unfold gmcells
  have e : (ls.map Hd.val).length = k := by simp [hl]
  rw [List.getElem?_toArray, List.getElem?_append_right (by omega), e, Nat.sub_self, List.getElem?_map, List.getElem?_drop]
  simp [h]
theorem gmcells_set (h : k < r) (hl : ls.length = k) (x : Hd) : (gmcells ss zs bt offt r ls k).setIfInBounds k x.val = gmcells ss zs bt offt r (ls ++ [x]) (k + 1) := by
  unfold gmcells
  have e : (ls.map Hd.val).length = k := by simp [hl]
  rw [List.setIfInBounds_toArray, List.set_append_right _ _ (by omega), e, Nat.sub_self]
  have e2 : (List.range r).drop k = k :: (List.range r).drop (k + 1) := by
    rw [List.drop_eq_getElem_cons (by simpa using h)]
    simp
  rw [e2]
  simp
theorem gmcells_zero : gmcells ss zs bt offt r [] 0 = acells ss zs bt offt r r := by
  unfold gmcells acells
  simp
theorem gmcells_all (_hl : ls.length = r) : gmcells ss zs bt offt r ls r = (ls.map Hd.val).toArray := by
  unfold gmcells
  have : (List.range r).drop r = [] := List.drop_of_length_le (by simp)
  rw [this]
  simp
end

/-- A slice of terms, with their capacities, and an error are returned. -/
def RetTsc (w : World) (tt : List (List Int)) (er : Int) (e : Ending) (w' : World) : Prop :=
  ∃ A n c ls, e = .returned (.tuple #[.slice A n c, .int .i64 er]) ∧ TermsAt w' w'.heap.size A n ls tt ∧ Below w.heap.size w w' ∧ ∀ x ∈ ls, capOk x
set_option maxRecDepth 100000 in
set_option maxHeartbeats 1000000 in
theorem argsC_ok (As At : Option Addr) (ns cs nt ct : Nat) (ss : Sg) (zs : List Int) (w : World) (hs : SigAt w w.heap.size As ns ss) (ht : IntsAt w w.heap.size At nt zs) (hct : nt ≤ ct) (hct2 : ct ≤ 9223372036854775807) (hv : valOk ss zs = true) :
    Calls Try.prog 41 #[.slice As ns cs, .slice At nt ct] w (RetTsc w (argsL ss zs) 0) := by
  have C := Lib.hid (valid_any As At ns cs nt ct ss zs w hs ht)
  have hs1 := sigOk_len (valOk_sig hv)
  rw [← hs.len] at hs1
  have har := sigOk_ar (valOk_sig hv)
  obtain ⟨h1, h60, hnum, hscan⟩ := valOk_term hv
  rw [hv] at C
  have hh : HeadsOk ss zs := fun z hz => (hnum z hz).2
  have hl := ht.len
  have h0 : 0 < zs.length := by omega
  have hhd : zs.headD 0 = zs[0] := by cases zs with
    | nil => simp at h0
    | cons z r => rfl
  obtain ⟨bt, offt, rfl, hbt, htc⟩ := ht.mem (by omega)
  have hc0 := htc 0 h0
  have hn1 : 1 ≤ nt := by omega
  have hn60 : nt ≤ 60 := by omega
  by_cases hneg : zs[0] < 0
  · have HR := Lib.hid (show argsL ss zs = [] by unfold argsL; rw [hhd]; simp [arOf, hneg, argsTo])
    obtain ⟨z, hz⟩ : ∃ z, zs[0] = z := ⟨_, rfl⟩
    rw [hz] at hneg hc0
    have C2 := Lib.hid (fun V (hb : Below w.heap.size w V) => arguments_var As ns cs bt offt nt ct z V hn1 ((hb.cell (p := ⟨bt, offt, none⟩) hbt).trans hc0) hneg)
    clear hs ht hv har hnum hscan hh hl hhd htc hz h1 h60 hc0
    go_enter Try.func41, Try.ntmps41
    go_wp2_with (first
      | (go_at_call 79; refine C.out.mono ?_; rintro e w1 ⟨rfl, hB⟩; have HB := Lib.hid hB; clear hB)
      | (go_at_call 87; refine (C2.out _ HB.out).mono ?_; rintro e w2 ⟨rfl, rfl⟩))
    go_loop [18] (fun i => i = .int .i64 0) (fun _ => 0)
    case atStart => rfl
    case round =>
      subst hrel
      go_wp2
      go_ret2
      exact ⟨none, 0, 0, [], rfl, by rw [HR.out]; exact TermsAt.nil _ _, HB.out, by simp⟩
  · obtain ⟨q, hq⟩ : ∃ q : Nat, zs[0] = (q : Int) := ⟨zs[0].toNat, by omega⟩
    have hql : q < ss.length := by have := hh _ (List.getElem_mem h0); omega
    obtain ⟨ha0, ha3⟩ := har _ (List.getElem_mem hql)
    obtain ⟨r, hr⟩ : ∃ r : Nat, ss[q].2 = (r : Int) := ⟨ss[q].2.toNat, by omega⟩
    have hr3 : r ≤ 3 := by omega
    have har1 : arOf ss zs[0] = r := by rw [hq, arOf_at hql, hr, Int.toNat_natCast]
    have hrest : scan ss r (zs.drop 1) = some [] := by rw [← har1]; exact scan_head hscan h0
    have HR := Lib.hid (show argsL ss zs = argsTo ss zs r by unfold argsL; rw [hhd, har1])
    have C2 := Lib.hid (fun V (hb : Below w.heap.size w V) => arguments_sym As ns cs bt offt nt ct q r ss zs V (hs.up hb) (ht.up hb) har hs1.1 hs1.2 hn1 hn60 hct hct2 hh hscan (by rw [List.getElem?_eq_getElem h0, hq]) (by rw [List.getElem?_eq_getElem hql]; simp [hr]))
    have hpart : PartIn w bt offt zs := htc
    have C3 := Lib.hid (fun V (hb : Below w.heap.size w V) k (hk : k < r) => by
      have hal := argL_ok hrest h1 hk
      have hst := pos_step hrest h1 hk
      have hp1 := pos_scan hrest h1 (show k + 1 ≤ r from hk)
      exact cloneT_any V bt (offt + pos ss zs k) (pos ss zs (k + 1) - pos ss zs k) (pos ss zs (k + 1) - pos ss zs k) (argL ss zs k) (by omega) (by omega) hal.2
        (fun j hj => (hb.cell (p := ⟨bt, offt + pos ss zs k + j, none⟩) hbt).trans (hpart.arg (ss := ss) (k := k) j hj)) (Nat.lt_of_lt_of_le hbt hb.size))
    have HAL := Lib.hid (fun k (hk : k < r) => show (argL ss zs k).length = pos ss zs (k + 1) - pos ss zs k ∧ (argL ss zs k).length ≤ 60 by
      have hal := argL_ok hrest h1 hk
      have hp1 := pos_scan hrest h1 (show k + 1 ≤ r from hk)
      omega)
    clear hs ht hv har hnum hscan hh hl hhd htc hq hr h1 h60 hc0 hpart hrest har1 hct hct2 ha0 ha3
    go_enter Try.func41, Try.ntmps41
    go_wp2_with (first
      | (go_at_call 79; refine C.out.mono ?_; rintro e w1 ⟨rfl, hB⟩; have HB := Lib.hid hB; clear hB)
      | (go_at_call 87; refine (C2.out _ HB.out).mono ?_; rintro e w2 ⟨rfl, hB2, hF2⟩; have HB2 := Lib.hid (below_then HB.out hB2); have HF2 := Lib.hid hF2; clear hB2 hF2))
    obtain ⟨a0, ha0⟩ : ∃ a0, w1.heap.size = a0 := ⟨_, rfl⟩
    have hwa : w.heap.size ≤ a0 := by rw [← ha0]; exact HB.out.size
    rw [ha0] at HF2
    rw [ha0]
    clear ha0
    go_loopw [18] (fun i wr => ∃ (k : Nat) (ls : List Hd), k ≤ r ∧ i = .int .i64 k ∧ ls.length = k ∧ Blk wr a0 25 (gmcells ss zs bt offt r ls k) ∧ (∀ j (h : j < ls.length), IntsBut wr (some a0) ls[j].1 ls[j].2.1 (argL ss zs j)) ∧ (∀ x ∈ ls, capOk x) ∧ Below w.heap.size w wr) (fun i _ => r - (intOf i).toNat)
    case atStart => exact ⟨0, [], Nat.zero_le _, rfl, rfl, by rw [gmcells_zero]; exact HF2.out, fun j h => by simp at h, by simp, HB2.out⟩
    case round =>
      obtain ⟨k, ls, hk, rfl, hls, hF, hE, hcap, hB⟩ := hrel
      have HCAP := Lib.hid hcap
      clear hcap
      have HBw := Lib.hid hB
      by_cases hlt : k < r
      · have C4 := Lib.hid (C3.out wr hB k hlt)
        obtain ⟨hal, hal60⟩ := HAL.out k hlt
        have hcF0 := gmcells_at (ss := ss) (zs := zs) (bt := bt) (offt := offt) hlt hls
        unfold argV at hcF0
        have hcF := (hF.cell k).trans hcF0
        rw [← hal] at hcF C4
        have HSET := Lib.hid (fun x => gmcells_set (ss := ss) (zs := zs) (bt := bt) (offt := offt) hlt hls x)
        obtain ⟨q', hq'⟩ : ∃ q', pos ss zs k = q' := ⟨_, rfl⟩
        rw [hq'] at hcF C4
        obtain ⟨L, hL⟩ : ∃ L, argL ss zs k = L := ⟨_, rfl⟩
        rw [hL] at hcF C4 hal60
        have HL := Lib.hid hL
        have HF := Lib.hid hF
        have HE := Lib.hid hE
        have HLS := Lib.hid hls
        have hk0 : (0 : Int) ≤ (k : Int) := by omega
        have hk1 : (k : Int) < (r : Int) := by omega
        clear hal hcF0 hq' hL hF hE hB
        go_wp2_with (go_at_call 88; refine C4.out.mono ?_; rintro e w3 ⟨v3, rfl, hrow3, hB3⟩
                     simp only [List.length_map] at hrow3
                     obtain ⟨A3, c3, e3, hI3, hc3⟩ := IntsBut.of_row_c (g := some a0) hrow3 (by omega) (fun k e => by cases e; exact HF.out.lt)
                     subst e3
                     have hF3 := HF.out.below hB3 HF.out.lt
                     have hcF3 := (hF3.cell k).trans (gmcells_at (ss := ss) (zs := zs) (bt := bt) (offt := offt) hlt hls)
                     have hfF3 := hF3.frozen k
                     have HF4 := Lib.hid (hF3.set_ k (Hd.val (A3, L.length, c3)))
                     have HI4 := Lib.hid (hI3.setCell (k := k) (u := Hd.val (A3, L.length, c3)))
                     have HE4 := Lib.hid (fun j (h : j < ls.length) => ((HE.out j h).below hB3).setCell (k := k) (u := Hd.val (A3, L.length, c3)))
                     have HB4 := Lib.hid ((HBw.out.trans (hB3.mono HBw.out.size)).setCell (p := ⟨a0, k, none⟩) hwa (Hd.val (A3, L.length, c3)))
                     have HC3 := Lib.hid hc3
                     clear hrow3 hI3 hB3 hF3 hc3)
        go_roundw
        case rel =>
          refine ⟨k + 1, ls ++ [(A3, L.length, c3)], by omega, by go_num, by simp [hls], ?_, fun j hj => ?_, fun x hx => ?_, HB4.out⟩
          · rw [← HSET.out]; exact HF4.out
          · by_cases hjk : j < k
            · rw [List.getElem_append_left (by omega)]
              exact HE4.out j (by omega)
            · have : j = k := by simp at hj; omega
              subst this
              rw [List.getElem_append_right (by omega)]
              simp only [hls, Nat.sub_self, List.getElem_cons_zero]
              rw [HL.out]
              exact HI4.out
          · rcases List.mem_append.1 hx with hx | hx
            · exact HCAP.out x hx
            · obtain rfl := List.mem_singleton.1 hx
              exact HC3.out
        case measure => simp [intOf]; omega
      · obtain rfl : k = r := by omega
        have hT : TermsAt wr wr.heap.size (some ⟨a0, 0, none⟩) k ls (argsTo ss zs k) := by
          refine ⟨HdsAt.of_blk ls hF (gmcells_all hls) hls.symm (by omega), by simp [argsTo], fun j a b => ?_⟩
          have := (hE j a).ints
          simpa [argsTo] using this
        rw [← HR.out] at hT
        have HT := Lib.hid hT
        clear hF hE hB hT
        go_wp2
        go_ret2
        exact ⟨_, _, _, _, rfl, HT.out, HBw.out, HCAP.out⟩

end Go.Proofs.Ytpdokmdapjdnoaa
