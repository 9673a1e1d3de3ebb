/- Canonical forms are their own: the plain mathematics. -/
import Derived.Test.YtojofbmpknpggaaG3g
import Derived.Test.YtojofbmpknpggaaQ6g
import Derived.Test.YtojofbmpknpggaaG1g
import Derived.Test.YtojofbmpknpggaaL0g
/- Contract: the reference's Alike. -/
namespace Go.Proofs.Ytojofbmpknpggaa
open Go.RowKit

end Go.Proofs.Ytojofbmpknpggaa

/- Contracts: IsCanonical, Shape, and the reference's Canonical, IsCanonical, Flat, Shape. -/
namespace Go.Proofs.Ytojofbmpknpggaa
open Go.RowKit

end Go.Proofs.Ytojofbmpknpggaa

/- Contracts: Shape, and the reference's Flat, Shape. -/
namespace Go.Proofs.Ytojofbmpknpggaa
open Go.RowKit

end Go.Proofs.Ytojofbmpknpggaa

namespace Go.Proofs.Ytojofbmpknpggaa
open Go.RowKit

theorem arOf_ren1 (ss : Sg) (seen : List Int) (z : Int) : arOf ss (ren1 seen z) = arOf ss z := by
  unfold ren1
  by_cases h : 0 ≤ z
  · rw [if_pos h]
  · rw [if_neg h]
    unfold arOf cnum
    rw [if_pos (by omega), if_pos (by omega)]
theorem scan_canonL (ss : Sg) : ∀ (zs seen : List Int) (n : Nat), scan ss n zs = some [] → scan ss n (canonL seen zs) = some []
  | [], _, _, h => h
  | z :: r, seen, 0, h => by rw [scan_zero] at h; cases h
  | z :: r, seen, n + 1, h => by
    simp only [scan] at h
    simp only [canonL, scan, arOf_ren1]
    exact scan_canonL ss r _ _ h

theorem nodup_le : ∀ (l m : List Int), l.Nodup → (∀ x ∈ l, x ∈ m) → l.length ≤ m.length
  | [], _, _, _ => by simp
  | x :: r, m, h, hs => by
    rw [List.nodup_cons] at h
    have hx := hs x (List.mem_cons_self ..)
    have := nodup_le r (m.erase x) h.2 (fun y hy => (List.mem_erase_of_ne (fun e => h.1 (by rw [← e]; exact hy))).2 (hs y (List.mem_cons_of_mem _ hy)))
    rw [List.length_erase_of_mem hx] at this
    have h0 : 0 < m.length := List.length_pos_of_mem hx
    simp only [List.length_cons]
    omega
theorem canon_num {ss : Sg} {zs : List Int} (h : ∀ z ∈ zs, -12 ≤ z ∧ z < (ss.length : Int)) : ∀ y ∈ canon zs, -12 ≤ y ∧ y < (ss.length : Int) := by
  intro y hy
  obtain ⟨i, hi, rfl⟩ := List.mem_iff_getElem.1 hy
  have hi' : i < zs.length := by rwa [canon_length] at hi
  have hg := cval_all zs hi'
  rw [List.getElem?_eq_getElem hi] at hg
  rw [Option.some.inj hg]
  have hz := h _ (List.getElem_mem hi')
  unfold cval
  split
  · rename_i hc
    have hl := nodup_le (seenTo zs zs.length) (iotaN 12) (seenTo_nodup _ _) (fun x hx => by
      have h1 := seen_neg zs _ x hx
      have h2 := (h x (seen_mem zs _ x hx)).1
      exact iotaN_mem.2 ⟨(-x - 1).toNat, by omega, by omega⟩)
    rw [iotaN_length] at hl
    have := hc.2
    omega
  · exact hz
theorem valOk_canon {ss : Sg} {zs : List Int} (h : valOk ss zs = true) : valOk ss (canon zs) = true := by
  obtain ⟨h1, h2, h3, h4⟩ := valOk_term h
  have h5 := valOk_sig h
  have h6 := canon_num h3
  simp only [valOk, termOk, Bool.and_eq_true, decide_eq_true_eq, List.all_eq_true, numOk, canon_length]
  exact ⟨h5, h1, h2, h6, scan_canonL ss zs [] 1 h4⟩
end Go.Proofs.Ytojofbmpknpggaa
