/- Contract: Canonical. -/
import Derived.Test.YtpliamckapkhmaaR2g
namespace Go.Proofs.Ytpliamckapkhmaa
open Go.RowKit

theorem IntsAt.of_blk {w : World} {b : Nat} {t : TypeId} {zs : List Int} {n : Nat} (h : Blk w b t (zs.map (Value.int .i64)).toArray) (hn : n = zs.length) (hm : zs.length ≤ 1000000) : IntsAt w w.heap.size (some ⟨b, 0, none⟩) n zs :=
  ⟨hn, by omega, fun _ => ⟨b, 0, rfl, h.lt, fun j hj => by
    rw [h.cell]
    simp [hj]⟩⟩
theorem IntsAt.nil (w : World) (B _c : Nat) : IntsAt w B none 0 [] := ⟨rfl, by omega, fun h => absurd h (by omega)⟩

/-- A slice of ints and an error are returned. -/
def RetT (w : World) (zs : List Int) (er : Int) (e : Ending) (w' : World) : Prop :=
  ∃ A n c, e = .returned (.tuple #[.slice A n c, .int .i64 er]) ∧ IntsAt w' w'.heap.size A n zs ∧ Below w.heap.size w w'

theorem valOk_term {ss : Sg} {zs : List Int} (h : valOk ss zs = true) : 1 ≤ zs.length ∧ zs.length ≤ 60 ∧ (∀ z ∈ zs, -12 ≤ z ∧ z < (ss.length : Int)) ∧ scan ss 1 zs = some [] := by
  simp only [valOk, termOk, Bool.and_eq_true, decide_eq_true_eq, List.all_eq_true, numOk] at h
  exact ⟨h.2.1, h.2.2.1, h.2.2.2.1, h.2.2.2.2⟩
theorem valOk_sig {ss : Sg} {zs : List Int} (h : valOk ss zs = true) : sigOk ss = true := by
  simp only [valOk, Bool.and_eq_true] at h
  exact h.1

end Go.Proofs.Ytpliamckapkhmaa
