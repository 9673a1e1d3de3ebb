/- lemmarylaw01.TermOrder: for every three lists of numbers the statement's function returns true, and its argument reads behind the call as it read before. No condition. -/
import Derived.Test.YtpgoekaphofjkaaT12
import Derived.Test.YtpgoekaphofjkaaK1
namespace Go.Proofs.Ytpgoekaphofjkaa
open Go.ChangeShapes Go.WideShapes Go.ChangeAt Go.RowKit Go.Deep

theorem agg_of_cells {v : Value} (h : v.cells.size ≠ 1) : ∃ cs, v = .agg cs ∧ v.cells = cs := by
  cases v <;> first | exact ⟨_, rfl, rfl⟩ | exact absurd rfl h

theorem cells_arr : Try.prog.cellsOf 40 = 3 := by kernel_rfl

/-- What is read as an array of three terms is one. -/
theorem read_three {H : Type} {enc : TypeId × Value → H} {w : World} {base : Nat} {spare : Nat → Bool} {held : Bool} {v : Value} {d : DataW H} {p : List MemPlace} (h : DataW.Trod enc Try.prog w base spare held 40 v d p) :
    ∃ A0 n0 c0 A1 n1 c1 A2 n2 c2 x y z, v = .agg #[.slice A0 n0 c0, .slice A1 n1 c1, .slice A2 n2 c2] ∧ IntsAt w w.heap.size A0 n0 x ∧ IntsAt w w.heap.size A1 n1 y ∧ IntsAt w w.heap.size A2 n2 z := by
  obtain ⟨fuel, hf⟩ := h
  obtain ⟨xs, m, _, _, hl, hxl, hi⟩ := DataW.trod_array Try.underlying40 hf
  rw [cells_arr] at hl
  obtain ⟨cs, rfl, hcs⟩ := agg_of_cells (v := v) (by have : v.cells.size = 3 := by simpa using hl
                                                     omega)
  rw [hcs] at hl hi
  obtain ⟨l⟩ := cs
  simp only [cells_term, Nat.mul_one] at hi
  match l, hl, xs, hxl with
  | [c0, c1, c2], _, [y0, y1, y2], _ =>
    have e0 := hi 0 (by omega)
    have e1 := hi 1 (by omega)
    have e2 := hi 2 (by omega)
    simp at e0 e1 e2
    obtain ⟨A0, n0, k0, x, rfl, h0, _⟩ := read_ints Try.underlying25 e0
    obtain ⟨A1, n1, k1, y, rfl, h1, _⟩ := read_ints Try.underlying25 e1
    obtain ⟨A2, n2, k2, z, rfl, h2, _⟩ := read_ints Try.underlying25 e2
    exact ⟨A0, n0, k0, A1, n1, k1, A2, n2, k2, x, y, z, rfl, h0, h1, h2⟩

set_option maxRecDepth 100000 in
theorem order_lifted (os : Os) (started : os.Started) (H : Type) (enc : TypeId × Value → H) :
    ReturnsInHanded {} Try.checked os 12 .any (Rows.termOrderSpec.pre6 enc Try.prog Try.f12 Rows.termOrderRow.domain false) (Rows.termOrderSpec.post enc Try.prog Try.f12 false true false false) := by
  refine returnsInHanded_of_change (C := Try.checked) own started (by kernel_rfl) Try.func12
    (ChangeSpec.witness6 (enc := enc) (C := Try.checked) false ⟨#[], #[.agg #[.slice none 0 0, .slice none 0 0, .slice none 0 0]], []⟩ 8 (by kernel_rfl) (by kernel_rfl) (by kernel_rfl) (by kernel_rfl)) ?_
  intro W base args ds gs before hval0 hW hcnd _
  have hW' := hW
  obtain ⟨p, q, hA0, hV, rfl, hfz, hnd⟩ := hW
  have hA : DataW.TrodAll enc Try.prog W 0 (fun _ => true) true Try.f12.params.toList args.toList ds p := hA0
  rw [Try.params12] at hA
  obtain ⟨v0, vs0, d0, ds0, p0, q0, hargs, rfl, rfl, h0, r0⟩ := trodAll_cons hA
  obtain ⟨rfl, rfl, rfl⟩ := trodAll_nil r0
  obtain rfl : args = #[v0] := by cases args; simp_all
  obtain ⟨rfl, rfl⟩ := trodVars_none hV
  have k0 := h0
  have lt0 : ∀ x ∈ p0, x.block < W.heap.size := by obtain ⟨m, hm⟩ := k0; exact DataW.trod_lt m _ _ _ hm
  obtain ⟨A0, n0, c0, A1, n1, c1, A2, n2, c2, x, y, z, rfl, hx, hy, hz⟩ := read_three h0
  clear hA0 hval0
  refine (order_walk A0 A1 A2 n0 c0 n1 c1 n2 c2 x y z W hx hy hz).mono fun e W' ⟨he, bel⟩ => ?_
  subst he
  exact ⟨_, rfl, _, _, _, [], _, [], hW', trodAll_mk1 (shut_bool Try.underlying4 _), (trodAll_cons_mk (Below.trod laidOut (by kernel_rfl) (of_decide_eq_true (by kernel_rfl)) k0 bel lt0) trodAll_mk0), rfl, bel.frame _, fun h => by cases h⟩

theorem order_holds : Rows.TermOrderSaid :=
  OpenClaim.holds_of_wide 12 Try.f12 rfl rfl rfl rfl rfl rfl rfl ⟨rfl, rfl, rfl, rfl, rfl⟩ rfl rfl rfl rfl rfl (by kernel_rfl) Try.func12 (by kernel_rfl)
    (of_decide_eq_true (by kernel_rfl)) (by unfold Func.isWrapper; first | (rw [if_pos (by decide +kernel)]; kernel_rfl) | (rw [if_neg (by decide +kernel)]; exact ⟨rfl, rfl⟩))
    (fun os started H enc _ => order_lifted os started H enc)

end Go.Proofs.Ytpgoekaphofjkaa
