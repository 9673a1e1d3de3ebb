/- Contracts: validTerm, Valid. -/
import Derived.Test.YtmccdmpemlmkkaaE2
namespace Go.Proofs.Ytmccdmpemlmkkaa
open Go.RowKit

def numOk (ss : Sg) (z : Int) : Bool := decide (-12 ≤ z) && decide (z < (ss.length : Int))
def termOk (ss : Sg) (zs : List Int) : Bool := decide (1 ≤ zs.length) && (decide (zs.length ≤ 60) && (zs.all (numOk ss) && decide (scan ss 1 zs = some [])))
def NumsTo (ss : Sg) (zs : List Int) (k : Nat) : Prop := ∀ j (h : j < zs.length), j < k → numOk ss zs[j] = true
theorem NumsTo.zero (ss : Sg) (zs : List Int) : NumsTo ss zs 0 := fun _ _ h => absurd h (by omega)
theorem NumsTo.succ {ss : Sg} {zs : List Int} {k : Nat} (h : NumsTo ss zs k) (hk : k < zs.length) (e : numOk ss zs[k] = true) : NumsTo ss zs (k + 1) := by
  intro j hj hlt
  by_cases hjk : j < k
  · exact h j hj hjk
  · obtain rfl : j = k := by omega
    exact e
theorem NumsTo.heads {ss : Sg} {zs : List Int} (h : NumsTo ss zs zs.length) : HeadsOk ss zs := by
  intro z hz
  obtain ⟨i, hi, rfl⟩ := List.mem_iff_getElem.1 hz
  have := h i hi hi
  simp only [numOk, Bool.and_eq_true, decide_eq_true_eq] at this
  exact this.2
theorem termOk_out {ss : Sg} {zs : List Int} (h : zs.length < 1 ∨ 60 < zs.length) : termOk ss zs = false := by
  unfold termOk
  rcases h with h | h
  · rw [decide_eq_false (by omega : ¬ 1 ≤ zs.length)]; rfl
  · rw [decide_eq_false (by omega : ¬ zs.length ≤ 60)]; simp
theorem termOk_bad {ss : Sg} {zs : List Int} {k : Nat} (hk : k < zs.length) (e : numOk ss zs[k] = false) : termOk ss zs = false := by
  unfold termOk
  have : zs.all (numOk ss) = false := by
    rw [List.all_eq_false]
    exact ⟨zs[k], List.getElem_mem hk, by rw [e]; simp⟩
  rw [this]; simp
theorem termOk_good {ss : Sg} {zs : List Int} (h1 : 1 ≤ zs.length) (h2 : zs.length ≤ 60) (h : NumsTo ss zs zs.length) : termOk ss zs = decide (scan ss 1 zs = some []) := by
  unfold termOk
  have : zs.all (numOk ss) = true := by
    rw [List.all_eq_true]
    intro z hz
    obtain ⟨i, hi, rfl⟩ := List.mem_iff_getElem.1 hz
    exact h i hi hi
  rw [this, decide_eq_true h1, decide_eq_true h2]; simp
theorem endI_all {ss : Sg} {zs : List Int} (h1 : 1 ≤ zs.length) : (endI ss zs 0 == (zs.length : Int)) = decide (scan ss 1 zs = some []) := by
  rcases endN_cases ss zs 1 0 (by omega) with h | ⟨p, h, h3, h4, h5⟩
  · rw [endI_eq, h]
    unfold endN at h
    rw [List.drop_zero] at h
    cases e : scan ss 1 zs with
    | none =>
      have : (((-1 : Int)) == (zs.length : Int)) = false := by simp
      rw [this]; rfl
    | some r => rw [e] at h; simp only at h; omega
  · rw [endI_eq, h]
    rw [List.drop_zero] at h5
    rw [h5]
    by_cases hp : p = zs.length
    · subst hp; simp
    · have e1 : ((p : Int) == (zs.length : Int)) = false := by simp; omega
      have e2 : ¬ (some (zs.drop p) = some ([] : List Int)) := by simp; omega
      rw [e1, decide_eq_false e2]

set_option maxHeartbeats 400000 in
theorem validTerm_out (As At : Option Addr) (ns cs nt ct : Nat) (ss : Sg) (zs : List Int) (w : World) (B : Nat) (ht : IntsAt w B At nt zs) (h : nt < 1 ∨ 60 < nt) :
    Calls Try.prog 43 #[.slice As ns cs, .slice At nt ct] w fun e w' => e = .returned (.bool (termOk ss zs)) ∧ w = w' := by
  have hl := ht.len
  have H := Lib.hid (termOk_out (ss := ss) (zs := zs) (by omega))
  have hm := ht.max
  clear hl ht
  rcases h with h | h
  · go_enter Try.func43, Try.ntmps43
    go_wp2
    go_ret
    exact ⟨ret_b H.out.symm, rfl⟩
  · have h' : ¬ nt < 1 := by omega
    go_enter Try.func43, Try.ntmps43
    go_wp2
    go_ret
    exact ⟨ret_b H.out.symm, rfl⟩

set_option maxRecDepth 100000 in
set_option maxHeartbeats 1000000 in
theorem validTerm_in (As At : Option Addr) (ns cs nt ct : Nat) (ss : Sg) (zs : List Int) (w : World) (hs : SigAt w w.heap.size As ns ss) (ht : IntsAt w w.heap.size At nt zs) (har : ArOk ss) (hn1 : 1 ≤ ns) (hn2 : ns ≤ 12) (h1 : 1 ≤ nt) (h2 : nt ≤ 60) :
    Calls Try.prog 43 #[.slice As ns cs, .slice At nt ct] w fun e w' => e = .returned (.bool (termOk ss zs)) ∧ Below w.heap.size w w' := by
  have HT := Lib.hid ht
  obtain ⟨bt, offt, rfl, hbt, htc⟩ := ht.mem (by omega)
  have HLT := Lib.hid ht.len
  have HLS := Lib.hid hs.len
  have HS := Lib.hid hs
  have HAR := Lib.hid har
  have h1' : ¬ nt < 1 := by omega
  clear ht hs har
  go_enter Try.func43, Try.ntmps43
  go_wp2
  go_loop [17] (fun c => ∃ k : Nat, k ≤ nt ∧ c = .int .i64 k ∧ NumsTo ss zs k) (fun c => nt - (intOf c).toNat)
  case atStart => exact ⟨0, Nat.zero_le _, rfl, NumsTo.zero _ _⟩
  case round =>
    obtain ⟨k, hk, rfl, hN⟩ := hrel
    by_cases hlt : k < nt
    · have hk' : k < zs.length := by have := HLT.out; omega
      have hc := htc k hk'
      have hbad := termOk_bad (ss := ss) hk'
      have hgood := hN.succ hk'
      obtain ⟨z, hz⟩ : ∃ z, zs[k] = z := ⟨_, rfl⟩
      rw [hz] at hc hbad hgood
      clear hz
      have HTC := Lib.hid htc
      clear htc hN
      by_cases e1 : z < -12
      · have H := Lib.hid (hbad (by simp [numOk, show ¬ -12 ≤ z from by omega]))
        clear hbad hgood
        go_wp2
        go_ret
        exact ⟨ret_b H.out.symm, Below.refl _ _⟩
      · by_cases e2 : z < (ns : Int)
        · have H := Lib.hid (hgood (by have := HLS.out; simp only [numOk, Bool.and_eq_true, decide_eq_true_eq]; omega))
          have e1' : -12 ≤ z := by omega
          clear hbad hgood e1
          go_wp2
          go_round
          case rel => exact ⟨k + 1, by omega, by go_num, H.out⟩
          case measure => simp [intOf]; omega
        · have H := Lib.hid (hbad (by have := HLS.out; simp [numOk, show ¬ z < (ss.length : Int) from by omega]))
          have e1' : -12 ≤ z := by omega
          have e2' : (ns : Int) ≤ z := by omega
          clear hbad hgood e1 e2
          go_wp2
          go_ret
          exact ⟨ret_b H.out.symm, Below.refl _ _⟩
    · obtain rfl : k = nt := by omega
      have hN2 : NumsTo ss zs zs.length := by rw [← HLT.out]; exact hN
      have H := Lib.hid (termOk_good (ss := ss) (zs := zs) (by rw [← HLT.out]; exact h1) (by rw [← HLT.out]; exact h2) hN2)
      have H2 := Lib.hid (endI_all (ss := ss) (zs := zs) (by rw [← HLT.out]; exact h1))
      have HE := Lib.hid (end_any ss zs HAR.out hN2.heads As (some ⟨bt, offt, none⟩) ns cs k ct 0 w HS.out HT.out hn1 h1 (by omega) (by omega) (by omega))
      clear hN hN2 htc
      go_wp2_with (go_at_call 68; refine HE.out.mono ?_; rintro e w' ⟨rfl, hB⟩)
      go_ret
      exact ⟨ret_b (by rw [H.out, ← H2.out, ← HLT.out]), hB⟩

theorem validTerm_any (As At : Option Addr) (ns cs nt ct : Nat) (ss : Sg) (zs : List Int) (w : World) (hs : SigAt w w.heap.size As ns ss) (ht : IntsAt w w.heap.size At nt zs) (har : ArOk ss) (hn1 : 1 ≤ ns) (hn2 : ns ≤ 12) :
    Calls Try.prog 43 #[.slice As ns cs, .slice At nt ct] w fun e w' => e = .returned (.bool (termOk ss zs)) ∧ Below w.heap.size w w' := by
  by_cases h : nt < 1 ∨ 60 < nt
  · exact (validTerm_out As At ns cs nt ct ss zs w _ ht h).mono fun e w' ⟨h1, h2⟩ => ⟨h1, h2 ▸ Below.refl _ _⟩
  · exact validTerm_in As At ns cs nt ct ss zs w hs ht har hn1 hn2 (by omega) (by omega)

end Go.Proofs.Ytmccdmpemlmkkaa
