/- Contract: arguments. -/
import Derived.Test.YtippmpcaongolaaL0g
/- The arguments of a term: the plain mathematics. -/
namespace Go.Proofs.Ytippmpcaongolaa
open Go.RowKit

theorem scan_take (ss : Sg) : ∀ (l : List Int) (n p : Nat), p ≤ l.length → scan ss n l = some (l.drop p) → scan ss n (l.take p) = some []
  | l, 0, p, hp, h => by
    rw [scan_zero] at h
    have e : l.length = l.length - p := by
      have := congrArg List.length (Option.some.inj h)
      rwa [List.length_drop] at this
    rw [scan_zero]
    rcases Nat.eq_zero_or_pos p with rfl | h0
    · simp
    · have : l = [] := List.eq_nil_of_length_eq_zero (by omega)
      simp [this]
  | [], n + 1, p, hp, h => by cases h
  | z :: l, n + 1, p, hp, h => by
    have h0 := h
    simp only [scan] at h
    obtain ⟨p', h1, h2, h3⟩ := scan_suffix ss _ _ _ h
    cases p with
    | zero =>
      have := congrArg List.length h3
      simp only [List.drop_zero, List.length_cons, List.length_drop] at this
      omega
    | succ p =>
      simp only [List.take_succ_cons, scan]
      exact scan_take ss l _ p (by simpa using hp) (by simpa using h)

/-- Where argument k of a term begins. -/
def pos (ss : Sg) (zs : List Int) (k : Nat) : Nat := zs.length - ((scan ss k (zs.drop 1)).getD []).length
theorem scan_part {ss : Sg} {l : List Int} {r k : Nat} (h : scan ss r l = some []) (hk : k ≤ r) : ∃ p, p ≤ l.length ∧ k ≤ p ∧ scan ss k l = some (l.drop p) := by
  have e : r = k + (r - k) := by omega
  rw [e, scan_add] at h
  cases h1 : scan ss k l with
  | none => rw [h1] at h; cases h
  | some q =>
    obtain ⟨p, a, b, c⟩ := scan_suffix ss _ _ _ h1
    exact ⟨p, a, b, by rw [c]⟩
theorem pos_scan {ss : Sg} {zs : List Int} {r k : Nat} (h : scan ss r (zs.drop 1) = some []) (hl : 1 ≤ zs.length) (hk : k ≤ r) : scan ss k (zs.drop 1) = some (zs.drop (pos ss zs k)) ∧ 1 + k ≤ pos ss zs k ∧ pos ss zs k ≤ zs.length := by
  obtain ⟨p, h1, h2, h3⟩ := scan_part h hk
  rw [List.length_drop] at h1
  have e : pos ss zs k = 1 + p := by
    unfold pos
    rw [h3]
    simp only [Option.getD_some, List.length_drop]
    omega
  rw [e]
  exact ⟨by rw [h3, List.drop_drop], by omega, by omega⟩
theorem pos_step {ss : Sg} {zs : List Int} {r k : Nat} (h : scan ss r (zs.drop 1) = some []) (hl : 1 ≤ zs.length) (hk : k < r) : endI ss zs (pos ss zs k) = ((pos ss zs (k + 1) : Nat) : Int) ∧ pos ss zs k < pos ss zs (k + 1) ∧ scan ss 1 (zs.drop (pos ss zs k)) = some (zs.drop (pos ss zs (k + 1))) := by
  obtain ⟨a1, a2, a3⟩ := pos_scan h hl (Nat.le_of_lt hk)
  obtain ⟨b1, b2, b3⟩ := pos_scan h hl (show k + 1 ≤ r from hk)
  rw [scan_add, a1] at b1
  have b1' : scan ss 1 (zs.drop (pos ss zs k)) = some (zs.drop (pos ss zs (k + 1))) := b1
  obtain ⟨p, c1, c2, c3⟩ := scan_suffix ss _ _ _ b1'
  have hl3 := congrArg List.length c3
  rw [List.length_drop] at c1
  simp only [List.length_drop] at hl3
  refine ⟨?_, by omega, b1'⟩
  unfold endI
  rw [b1']
  simp only [List.length_drop]
  congr 1; omega
theorem scan_head {ss : Sg} {zs : List Int} (h : scan ss 1 zs = some []) (hl : 0 < zs.length) : scan ss (arOf ss zs[0]) (zs.drop 1) = some [] := by
  cases zs with
  | nil => simp at hl
  | cons z r => simpa [scan] using h

/-- Argument k of a term. -/
def argL (ss : Sg) (zs : List Int) (k : Nat) : List Int := (zs.drop (pos ss zs k)).take (pos ss zs (k + 1) - pos ss zs k)
end Go.Proofs.Ytippmpcaongolaa

namespace Go.Proofs.Ytippmpcaongolaa
open Go.RowKit

theorem info_term : (Try.prog.info? 25).map (fun i => (i.zero, i.size, i.bytes)) = some (some (.slice none 0 0), 1, 24) := by kernel_rfl

end Go.Proofs.Ytippmpcaongolaa
