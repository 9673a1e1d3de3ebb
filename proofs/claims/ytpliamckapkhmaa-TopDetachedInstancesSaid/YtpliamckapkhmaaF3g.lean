/- Contracts: the reference's Arity, Valid. -/
import Derived.Test.YtpliamckapkhmaaW0g
import Derived.Test.YtpliamckapkhmaaS3g
import Derived.Test.YtpliamckapkhmaaV1g
/- Contracts: the reference's within, isName, ValidSign. -/
namespace Go.Proofs.Ytpliamckapkhmaa
open Go.RowKit

end Go.Proofs.Ytpliamckapkhmaa

/- Contract: the reference's ValidSign. -/
namespace Go.Proofs.Ytpliamckapkhmaa
open Go.RowKit

end Go.Proofs.Ytpliamckapkhmaa

namespace Go.Proofs.Ytpliamckapkhmaa
open Go.RowKit

theorem arOf_le {ss : Sg} (har : ArOk ss) (z : Int) : arOf ss z ≤ 3 := by
  unfold arOf
  split
  · omega
  · rw [List.getElem?_map]
    cases h : ss[z.toNat]? with
    | none => simp
    | some x =>
      have := har x (List.mem_of_getElem? h)
      simp; omega

def Need (ss : Sg) (zs : List Int) (k N : Nat) : Prop := scan ss 1 zs = scan ss N (zs.drop k)
theorem Need.succ {ss : Sg} {zs : List Int} {k N : Nat} (h : Need ss zs k (N + 1)) (hk : k < zs.length) : Need ss zs (k + 1) (N + arOf ss zs[k]) := by
  unfold Need at h ⊢
  rw [h, List.drop_eq_getElem_cons hk]
  rfl
theorem Need.done {ss : Sg} {zs : List Int} {N : Nat} (h : Need ss zs zs.length N) (hn : NumsTo ss zs zs.length) (h1 : 1 ≤ zs.length) (h2 : zs.length ≤ 60) : termOk ss zs = ((N : Int) == 0) := by
  rw [termOk_good h1 h2 hn]
  unfold Need at h
  rw [h, List.drop_length]
  cases N with
  | zero => simp [scan_zero]
  | succ N =>
    have : (((N + 1 : Nat) : Int) == 0) = false := by simp; omega
    rw [this]
    simp [scan]

end Go.Proofs.Ytpliamckapkhmaa
