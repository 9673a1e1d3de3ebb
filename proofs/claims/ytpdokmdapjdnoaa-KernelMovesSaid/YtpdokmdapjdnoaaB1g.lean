/- Words: a list of terms in memory; what Built makes. -/
import Derived.Test.YtpdokmdapjdnoaaO3g
import Derived.Test.YtpdokmdapjdnoaaW0g
import Derived.Test.YtpdokmdapjdnoaaG2g
import Derived.Test.YtpdokmdapjdnoaaQ5g
namespace Go.Proofs.Ytpdokmdapjdnoaa
open Go.RowKit

/-- The slice value '.slice A n c' reads as the terms tt; their headers are ls. -/
structure TermsAt (w : World) (B : Nat) (A : Option Addr) (n : Nat) (ls : List Hd) (tt : List (List Int)) : Prop where
  hds : HdsAt w B A n ls
  len : n = tt.length
  each : ∀ j (h : j < ls.length) (h' : j < tt.length), IntsAt w B ls[j].1 ls[j].2.1 tt[j]
theorem TermsAt.keep {w w' : World} {B n : Nat} {A : Option Addr} {ls : List Hd} {tt : List (List Int)} (h : TermsAt w B A n ls tt) (hk : ∀ p : Addr, p.block < B → w'.cell? p = w.cell? p) : TermsAt w' B A n ls tt :=
  ⟨h.hds.keep hk, h.len, fun j a b => (h.each j a b).keep hk⟩
theorem TermsAt.more {w : World} {B B' n : Nat} {A : Option Addr} {ls : List Hd} {tt : List (List Int)} (h : TermsAt w B A n ls tt) (hB : B ≤ B') : TermsAt w B' A n ls tt :=
  ⟨h.hds.more hB, h.len, fun j a b => (h.each j a b).more hB⟩
theorem TermsAt.below {w w' : World} {B n : Nat} {A : Option Addr} {ls : List Hd} {tt : List (List Int)} (h : TermsAt w B A n ls tt) (hb : Below B w w') : TermsAt w' B A n ls tt := h.keep fun _ hp => hb.cell hp
theorem TermsAt.up {w w' : World} {n : Nat} {A : Option Addr} {ls : List Hd} {tt : List (List Int)} (h : TermsAt w w.heap.size A n ls tt) (hb : Below w.heap.size w w') : TermsAt w' w'.heap.size A n ls tt := (h.below hb).more hb.size
theorem TermsAt.cellAt {w : World} {B n : Nat} {A : Option Addr} {ls : List Hd} {tt : List (List Int)} (h : TermsAt w B A n ls tt) {k : Nat} (hk : k < n) :
    ∃ b off A' n' c' t', A = some ⟨b, off, none⟩ ∧ b < B ∧ w.cell? ⟨b, off + k, none⟩ = some (.slice A' n' c') ∧ tt[k]? = some t' ∧ IntsAt w B A' n' t' := by
  obtain ⟨b, off, e, hb, hc⟩ := h.hds.mem (by omega)
  have h1 : k < ls.length := by rw [← h.hds.len]; exact hk
  have h2 : k < tt.length := by rw [← h.len]; exact hk
  exact ⟨b, off, ls[k].1, ls[k].2.1, ls[k].2.2, tt[k], e, hb, hc k h1, List.getElem?_eq_getElem h2, h.each k h1 h2⟩

theorem ints_one (t : List Int) : ∀ u ∈ t.map (Value.int .i64), u.oneCell' = true := by
  intro u hu
  obtain ⟨z, _, rfl⟩ := List.mem_map.1 hu
  rfl

end Go.Proofs.Ytpdokmdapjdnoaa
