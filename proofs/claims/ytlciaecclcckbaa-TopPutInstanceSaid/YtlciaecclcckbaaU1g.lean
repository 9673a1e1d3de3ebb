/- Words: what is read goes up with the worlds; Same of equal lists. -/
import Derived.Test.YtlciaecclcckbaaQ1g
namespace Go.Proofs.Ytlciaecclcckbaa
open Go.RowKit

theorem SigAt.up {w w' : World} {n : Nat} {A : Option Addr} {ss : Sg} (h : SigAt w w.heap.size A n ss) (hb : Below w.heap.size w w') : SigAt w' w'.heap.size A n ss := (h.below hb).more hb.size
theorem IntsAt.up {w w' : World} {n : Nat} {A : Option Addr} {zs : List Int} (h : IntsAt w w.heap.size A n zs) (hb : Below w.heap.size w w') : IntsAt w' w'.heap.size A n zs := (h.below hb).more hb.size
theorem below_then {a b c : World} (h : Below a.heap.size a b) (k : Below b.heap.size b c) : Below a.heap.size a c := h.trans (k.mono h.size)

theorem IntsAt.drewN' {w : World} {n : Nat} {A : Option Addr} {zs : List Int} (h : IntsAt w w.heap.size A n zs) (k : Nat) : IntsAt (w.drewN k) (w.drewN k).heap.size A n zs := h.keep fun _ _ => rfl

theorem same_self (A A2 : Option Addr) (n c n2 c2 : Nat) (xs : List Int) (w : World) (B : Nat) (hx : IntsAt w B A n xs) (hy : IntsAt w B A2 n2 xs) :
    Calls Try.prog 18 #[.slice A n c, .slice A2 n2 c2] w fun e w' => e = .returned (.bool true) ∧ ∃ k, w' = w.drewN k := by
  have := same_any A A2 n c n2 c2 xs xs w B hx hy
  simpa using this

end Go.Proofs.Ytlciaecclcckbaa
