/- The walk of TermPuts: all cases. -/
import Derived.Test.YtafpcpdafojgkaaT6a
import Derived.Test.YtafpcpdafojgkaaT6b
import Derived.Test.YtafpcpdafojgkaaT6c
namespace Go.Proofs.Ytafpcpdafojgkaa
open Go.RowKit

theorem puts_walk (As At Au Ap : Option Addr) (ns cs nt ct nu cu np cp : Nat) (ss : Sg) (zs us path : List Int) (w : World) (hs : SigAt w w.heap.size As ns ss) (ht : IntsAt w w.heap.size At nt zs) (hu : IntsAt w w.heap.size Au nu us) (hp : IntsAt w w.heap.size Ap np path) (hc1 : nt ≤ ct) (hc2 : ct ≤ 9223372036854775807) :
    Calls Try.prog 6 #[.slice As ns cs, .agg #[.slice At nt ct, .slice Au nu cu, .slice Ap np cp]] w fun e w' => e = .returned (.bool true) ∧ Below w.heap.size w w' := by
  cases hsm : smallOk ns [(At, nt, ct), (Au, nu, cu)]
  · exact put_small As At Au Ap ns cs nt ct nu cu np cp ss zs us path w hs ht hu hp hc1 hc2 hsm
  · by_cases hnp : np ≤ 100
    · by_cases hea : (atR ss zs path).2 = 0
      · by_cases hep : (putR ss zs path us).2 = 0
        · exact put_11 As At Au Ap ns cs nt ct nu cu np cp ss zs us path w hs ht hu hp hc1 hc2 hsm hnp hea hep
        · exact put_10 As At Au Ap ns cs nt ct nu cu np cp ss zs us path w hs ht hu hp hc1 hc2 hsm hnp hea hep
      · by_cases hep : (putR ss zs path us).2 = 0
        · exact put_01 As At Au Ap ns cs nt ct nu cu np cp ss zs us path w hs ht hu hp hc1 hc2 hsm hnp hea hep
        · exact put_00 As At Au Ap ns cs nt ct nu cu np cp ss zs us path w hs ht hu hp hc1 hc2 hsm hnp hea hep
    · exact put_long As At Au Ap ns cs nt ct nu cu np cp ss zs us path w hs ht hu hp hc1 hc2 hsm (by omega)

end Go.Proofs.Ytafpcpdafojgkaa
