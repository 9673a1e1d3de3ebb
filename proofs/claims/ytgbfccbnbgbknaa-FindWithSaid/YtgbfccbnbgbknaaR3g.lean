/- Contract: Canonical. -/
import Derived.Test.YtgbfccbnbgbknaaR2g
namespace Go.Proofs.Ytgbfccbnbgbknaa
open Go.RowKit

theorem IntsAt.of_blk {w : World} {b : Nat} {t : TypeId} {zs : List Int} {n : Nat} (h : Blk w b t (zs.map (Value.int .i64)).toArray) (hn : n = zs.length) (hm : zs.length ≤ 1000000) : IntsAt w w.heap.size (some ⟨b, 0, none⟩) n zs :=
  ⟨hn, by omega, fun _ => ⟨b, 0, rfl, h.lt, fun j hj => by
    rw [h.cell]
    simp [hj]⟩⟩
theorem IntsAt.nil (w : World) (B _c : Nat) : IntsAt w B none 0 [] := ⟨rfl, by omega, fun h => absurd h (by omega)⟩

/-- A slice of ints and an error are returned. -/
def RetT (w : World) (zs : List Int) (er : Int) (e : Ending) (w' : World) : Prop :=
  ∃ A n c, e = .returned (.tuple #[.slice A n c, .int .i64 er]) ∧ IntsAt w' w'.heap.size A n zs ∧ Below w.heap.size w w'

theorem valOk_term {ss : Sg} {zs : List Int} (h : valOk ss zs = true) : 1 ≤ zs.length ∧ zs.length ≤ 60 ∧ (∀ z ∈ zs, -12 ≤ z ∧ z < (ss.length : Int)) ∧ scan ss 1 zs = some [] := by
  simp only [valOk, termOk, Bool.and_eq_true, decide_eq_true_eq, List.all_eq_true, numOk] at h
  exact ⟨h.2.1, h.2.2.1, h.2.2.2.1, h.2.2.2.2⟩
theorem valOk_sig {ss : Sg} {zs : List Int} (h : valOk ss zs = true) : sigOk ss = true := by
  simp only [valOk, Bool.and_eq_true] at h
  exact h.1

set_option maxHeartbeats 400000 in
theorem canonical_bad (As At : Option Addr) (ns cs nt ct : Nat) (ss : Sg) (zs : List Int) (w : World) (hs : SigAt w w.heap.size As ns ss) (ht : IntsAt w w.heap.size At nt zs) (hv : valOk ss zs = false) :
    Calls Try.prog 19 #[.slice As ns cs, .slice At nt ct] w (RetT w [] 1) := by
  have C := Lib.hid (valid_any As At ns cs nt ct ss zs w hs ht)
  have HV := Lib.hid hv
  clear hv hs ht
  go_enter Try.func19, Try.ntmps19
  go_wp2_with (go_at_call 99; refine C.out.mono ?_; rintro e w1 ⟨rfl, hB⟩; rw [HV.out]; have HB := Lib.hid hB)
  go_ret2
  exact ⟨none, 0, 0, rfl, IntsAt.nil _ _ 0, HB.out⟩

set_option maxHeartbeats 400000 in
theorem canonical_ok (As At : Option Addr) (ns cs nt ct : Nat) (ss : Sg) (zs : List Int) (w : World) (hs : SigAt w w.heap.size As ns ss) (ht : IntsAt w w.heap.size At nt zs) (hv : valOk ss zs = true) :
    Calls Try.prog 19 #[.slice As ns cs, .slice At nt ct] w (RetT w (canon zs) 0) := by
  have C := Lib.hid (valid_any As At ns cs nt ct ss zs w hs ht)
  obtain ⟨h1, h2, h3, _⟩ := valOk_term hv
  have h4 := sigOk_len (valOk_sig hv)
  have hl := ht.len
  have C2 := Lib.hid (fun (w1 : World) (hB : Below w.heap.size w w1) => renamed_any At nt ct zs w1 ((ht.below hB).more hB.size) (by omega) (by omega) (fun z hz => by have := h3 z hz; omega))
  have HL := Lib.hid (show nt = (canon zs).length by rw [canon_length]; exact hl)
  have hm : (canon zs).length ≤ 1000000 := by rw [canon_length]; omega
  have HV := Lib.hid hv
  clear hv hs ht hl h3
  go_enter Try.func19, Try.ntmps19
  go_wp2_with (first
    | (go_at_call 99; refine C.out.mono ?_; rintro e w1 ⟨rfl, hB⟩; rw [HV.out]; have HB := Lib.hid hB)
    | (go_at_call 100; refine (C2.out _ HB.out).mono ?_; rintro e w2 ⟨rfl, hB2, hK⟩; have HB2 := Lib.hid hB2; have HK := Lib.hid hK))
  go_ret2
  exact ⟨_, _, _, rfl, IntsAt.of_blk HK.out HL.out hm, HB.out.trans (HB2.out.mono HB.out.size)⟩

end Go.Proofs.Ytgbfccbnbgbknaa
