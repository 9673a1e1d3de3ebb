/- Contract: the reference's End. -/
import Derived.Test.YtippmpcaongolaaW0g
import Derived.Test.YtippmpcaongolaaS3g
import Derived.Test.YtippmpcaongolaaV1g
/- Contracts: the reference's within, isName, ValidSign. -/
namespace Go.Proofs.Ytippmpcaongolaa
open Go.RowKit

end Go.Proofs.Ytippmpcaongolaa

/- Contract: the reference's ValidSign. -/
namespace Go.Proofs.Ytippmpcaongolaa
open Go.RowKit

end Go.Proofs.Ytippmpcaongolaa

/- Contracts: the reference's Arity, Valid. -/
namespace Go.Proofs.Ytippmpcaongolaa
open Go.RowKit

theorem arOf_le {ss : Sg} (har : ArOk ss) (z : Int) : arOf ss z ≤ 3 := by
  unfold arOf
  split
  · omega
  · rw [List.getElem?_map]
    cases h : ss[z.toNat]? with
    | none => simp
    | some x =>
      have := har x (List.mem_of_getElem? h)
      simp; omega

def Need (ss : Sg) (zs : List Int) (k N : Nat) : Prop := scan ss 1 zs = scan ss N (zs.drop k)
theorem Need.succ {ss : Sg} {zs : List Int} {k N : Nat} (h : Need ss zs k (N + 1)) (hk : k < zs.length) : Need ss zs (k + 1) (N + arOf ss zs[k]) := by
  unfold Need at h ⊢
  rw [h, List.drop_eq_getElem_cons hk]
  rfl
theorem Need.done {ss : Sg} {zs : List Int} {N : Nat} (h : Need ss zs zs.length N) (hn : NumsTo ss zs zs.length) (h1 : 1 ≤ zs.length) (h2 : zs.length ≤ 60) : termOk ss zs = ((N : Int) == 0) := by
  rw [termOk_good h1 h2 hn]
  unfold Need at h
  rw [h, List.drop_length]
  cases N with
  | zero => simp [scan_zero]
  | succ N =>
    have : (((N + 1 : Nat) : Int) == 0) = false := by simp; omega
    rw [this]
    simp [scan]

end Go.Proofs.Ytippmpcaongolaa

namespace Go.Proofs.Ytippmpcaongolaa
open Go.RowKit

theorem scan_step {ss : Sg} {zs : List Int} {p N : Nat} {r : List Int} (h : scan ss (N + 1) (zs.drop p) = some r) : ∃ hp : p < zs.length, scan ss (N + arOf ss zs[p]) (zs.drop (p + 1)) = some r := by
  by_cases hp : p < zs.length
  · refine ⟨hp, ?_⟩
    rw [List.drop_eq_getElem_cons hp] at h
    exact h
  · rw [List.drop_of_length_le (by omega)] at h
    cases h
theorem scan_end {ss : Sg} {zs : List Int} {p : Nat} {r : List Int} (h : scan ss 0 (zs.drop p) = some r) (hp : p ≤ zs.length) : p = zs.length - r.length := by
  rw [scan_zero] at h
  have := congrArg List.length (Option.some.inj h)
  rw [List.length_drop] at this
  omega

end Go.Proofs.Ytippmpcaongolaa
