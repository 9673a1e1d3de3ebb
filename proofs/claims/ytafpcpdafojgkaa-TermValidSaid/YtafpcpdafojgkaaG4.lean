/- Contract: the reference's Vars. -/
import Derived.Test.YtafpcpdafojgkaaF3
import Derived.Test.YtafpcpdafojgkaaQ2
namespace Go.Proofs.Ytafpcpdafojgkaa
open Go.RowKit

set_option maxHeartbeats 400000 in
theorem refVars_bad (As At : Option Addr) (ns cs nt ct : Nat) (ss : Sg) (zs : List Int) (w : World) (hs : SigAt w w.heap.size As ns ss) (ht : IntsAt w w.heap.size At nt zs) (hv : valOk ss zs = false) :
    Calls Try.prog 23 #[.slice As ns cs, .slice At nt ct] w fun e w' => e = .returned (.tuple #[.slice none 0 0, .int .i64 1]) ∧ Below w.heap.size w w' := by
  have C := Lib.hid (refValid_any As At ns cs nt ct ss zs w _ hs ht)
  have HV := Lib.hid hv
  clear hv hs ht
  go_enter Try.func23, Try.ntmps23
  go_wp2_with (go_at_call 19; refine C.out.mono ?_; rintro e w1 ⟨rfl, k1, rfl⟩; rw [HV.out])
  go_ret2
  exact ⟨rfl, below_drewN (Below.refl _ _) _⟩

set_option maxHeartbeats 400000 in
theorem refVars_ok (As At : Option Addr) (ns cs nt ct : Nat) (ss : Sg) (zs : List Int) (w : World) (hs : SigAt w w.heap.size As ns ss) (ht : IntsAt w w.heap.size At nt zs) (hv : valOk ss zs = true) :
    Calls Try.prog 23 #[.slice As ns cs, .slice At nt ct] w fun e w' => ∃ v, e = .returned (.tuple #[v, .int .i64 0]) ∧ w'.ownsRow w.heap.size 3 1 v (vof (seenTo zs nt)).length ((vof (seenTo zs nt)).map (Value.int .i64)) ∧ Below w.heap.size w w' := by
  have C := Lib.hid (refValid_any As At ns cs nt ct ss zs w _ hs ht)
  have HV := Lib.hid hv
  obtain ⟨h1, h60, hnum, _⟩ := valOk_term hv
  have h12 := sigOk_len (valOk_sig hv)
  have hl := ht.len
  have D := Lib.hid (fun (k : Nat) => variables_any At nt ct zs (w.drewN k) (ht.keep fun _ _ => rfl) (by omega) (fun z hz => by have := hnum z hz; omega))
  clear hv hs ht h1 h60 hnum h12 hl
  go_enter Try.func23, Try.ntmps23
  go_wp2_with (first
    | (go_at_call 19; refine C.out.mono ?_; rintro e w1 ⟨rfl, k1, rfl⟩; rw [HV.out])
    | (go_at_call 67; refine (D.out _).mono ?_; rintro e w2 ⟨v, rfl, ho, hb⟩; have HO := Lib.hid ho; have HB := Lib.hid hb; clear ho hb))
  go_ret2
  exact ⟨_, rfl, HO.out, (below_drewN (Below.refl _ _) _).trans HB.out⟩

end Go.Proofs.Ytafpcpdafojgkaa
