/- Contract: the reference's Depth. -/
import Derived.Test.YtafpcpdafojgkaaH3
namespace Go.Proofs.Ytafpcpdafojgkaa
open Go.RowKit

set_option maxHeartbeats 400000 in
theorem refDepth_bad (As At : Option Addr) (ns cs nt ct : Nat) (ss : Sg) (zs : List Int) (w : World) (hs : SigAt w w.heap.size As ns ss) (ht : IntsAt w w.heap.size At nt zs) (hv : valOk ss zs = false) :
    Calls Try.prog 21 #[.slice As ns cs, .slice At nt ct] w fun e w' => e = .returned (.tuple #[.int .i64 0, .int .i64 1]) ∧ Below w.heap.size w w' := by
  have C := Lib.hid (refValid_any As At ns cs nt ct ss zs w _ hs ht)
  have HV := Lib.hid hv
  clear hv hs ht
  go_enter Try.func21, Try.ntmps21
  go_wp2_with (go_at_call 19; refine C.out.mono ?_; rintro e w1 ⟨rfl, k1, rfl⟩; rw [HV.out])
  go_ret2
  exact ⟨rfl, below_drewN (Below.refl _ _) _⟩

set_option maxHeartbeats 400000 in
theorem refDepth_ok (As At : Option Addr) (ns cs nt ct : Nat) (ss : Sg) (zs : List Int) (w : World) (hs : SigAt w w.heap.size As ns ss) (ht : IntsAt w w.heap.size At nt zs) (hv : valOk ss zs = true) :
    Calls Try.prog 21 #[.slice As ns cs, .slice At nt ct] w fun e w' => e = .returned (.tuple #[.int .i64 (depthN ss zs : Nat), .int .i64 0]) ∧ Below w.heap.size w w' := by
  have C := Lib.hid (refValid_any As At ns cs nt ct ss zs w _ hs ht)
  have HV := Lib.hid hv
  obtain ⟨h1, h60, hnum, hscan⟩ := valOk_term hv
  have hh : HeadsOk ss zs := fun z hz => (hnum z hz).2
  have hl := ht.len
  have D := Lib.hid (fun (k : Nat) => by
    have := refdep_any As At ns cs nt ct ss zs (sigOk_ar (valOk_sig hv)) hh (by omega) w.heap.size zs.length 0 [] (w.drewN k) (by omega) (by rw [prt_whole hscan]; exact Nat.le_refl _) (by omega) (by simpa using hscan) (hs.keep fun _ _ => rfl) (ht.keep fun _ _ => rfl) (Nat.le_refl _)
    rw [prt_whole hscan, ← depthN_dep h1] at this
    exact this)
  obtain ⟨d, hd⟩ : ∃ d, depthN ss zs = d := ⟨_, rfl⟩
  rw [hd] at D ⊢
  clear hv hs ht h1 h60 hnum hscan hh hl hd
  go_enter Try.func21, Try.ntmps21
  go_wp2_with (first
    | (go_at_call 19; refine C.out.mono ?_; rintro e w1 ⟨rfl, k1, rfl⟩; rw [HV.out])
    | (go_at_call 65; refine (D.out _).mono ?_; rintro e w2 ⟨rfl, hb⟩; have HB := Lib.hid hb; clear hb))
  go_ret2
  exact ⟨rfl, (below_drewN (Below.refl _ _) _).trans HB.out⟩

end Go.Proofs.Ytafpcpdafojgkaa
