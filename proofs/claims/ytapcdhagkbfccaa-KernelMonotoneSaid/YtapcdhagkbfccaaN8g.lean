/- Contracts: the reference's within, Variable, ValidBinds (layer 2). -/
import Derived.Test.YtapcdhagkbfccaaN5g
import Derived.Test.YtapcdhagkbfccaaG2g
import Derived.Deep.RegionHeld3
import Derived.Deep.RegionHeldLaw
import Derived.Deep.CutRange
import Derived.BigQuiet
namespace Go.Proofs.Ytapcdhagkbfccaa
open Go.RowKit

theorem quiet_draw2 {P : Program} {f : FuncId} {args : Array Value} {w : World} {n : Nat} {v : Value}
    (h : Calls P f args (w.drewN n) fun e w' => e = .returned v ∧ ∃ k, w' = (w.drewN n).drewN k) : Calls P f args (w.drewN n) fun e w' => e = .returned v ∧ ∃ m, w' = w.drewN m :=
  h.mono fun _ _ ⟨he, k, hm⟩ => ⟨he, n + k, by rw [hm, World.drewN_drewN]⟩
end Go.Proofs.Ytapcdhagkbfccaa
