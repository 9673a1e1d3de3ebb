/- An append of some cells, none perhaps, at a step of a region that draws; a row of headers reads as terms; an index turned. -/
import Derived.Test.YtcegbmibpkopaaaB4g
import Derived.Test.YtcegbmibpkopaaaN29g
import Derived.Deep.AppendLies
import Derived.Deep.RegionHeld3
import Derived.IntWalk
namespace Go.Proofs.Ytcegbmibpkopaaa
open Go.RowKit

/-- An append of some cells, none perhaps, at a step of a region that draws. -/
theorem step_append_any {P : Program} {ops : Array Oper} {o : Oper} {a : Act} {w : World} {K : Act → World → Prop} {Q : Exit → Act → World → Prop} {E : Prop} (hgd : o.guard = none) (s x : Operand) (t : TypeId)
    (ho : o.op = .call { callee := .builtin .append, args := #[s, x], argTypes := #[t, t] })
    (base : Nat) (e : TypeId) (i : TypeInfo) (z : Value) (size bytes : Nat) (ht : P.underlying t = some (.slice e)) (hi : P.info? e = some i) (hz : i.zero = some z)
    (hsize : i.size = size) (hby : i.bytes = bytes) (hzs : z.cells.size = size) (hsz : 0 < size)
    (v : Value) (n : Nat) (xs : List Value) (hs : a.eval s = v) (hown : w.ownsRow base e size v n xs)
    (ad : Addr) (m c : Nat) (news : List Value) (hx : a.eval x = .slice (some ad) m c) (hl : news.length = m * size) (hnews : ∀ j u, news[j]? = some u → w.cell? (ad.add j) = some u) (h1 : ∀ u ∈ news, u.oneCell' = true)
    (hm : 0 < n + m) (h63 : n + m ≤ maxLen) (hbytes : (n + m) * bytes ≤ 140737488355328) (hbase : base ≤ w.heap.size)
    (h : ∀ g cap w', w'.ownsRow base e size (.slice (some ⟨g, 0, none⟩) (n + m) cap) (n + m) (xs ++ news) → w.grownBy w' v.ownBlock → base ≤ g → K (a.put o.dst (.slice (some ⟨g, 0, none⟩) (n + m) cap)) w') :
    if Region.wanted o (yielded ops a.tmps) = true then Oper.wp P o a w K Q else E := by
  have hw : Region.wanted o (yielded ops a.tmps) = true := by simp [Region.wanted, hgd]
  rw [if_pos hw]
  obtain ⟨v', w', hr, h2, h3, _, _⟩ := run_append_own_at (P := P) w base t o.type e i z size bytes ht hi hz hsize hby hzs hsz v n xs hown ad m c news hl hnews h1 h63 hbytes hbase
  obtain ⟨g, cap, rfl, hg, _⟩ := h2.form hm
  unfold Oper.wp execOp
  simp only [ho, resolve, invoke, builtin, Sem.run_bind, Sem.run_pure, Result.andThen_ok, List.map_toArray, List.map_cons, List.map_nil, hs, hx, hr]
  exact h g cap w' h2 h3 hg
/-- The headers of terms, as values. -/
def hdV (l : List Hd) : List Value := l.map fun h => .slice h.1 h.2.1 h.2.2
theorem hdV_one (l : List Hd) : ∀ u ∈ hdV l, u.oneCell' = true := by
  intro u hu
  obtain ⟨h, _, rfl⟩ := List.mem_map.1 hu
  rfl
/-- A row of headers reads as terms. -/
theorem row_terms {V : World} {base n g cap : Nat} {ls : List Hd} {tt : List (List Int)} (h : V.ownsRow base 25 1 (.slice (some ⟨g, 0, none⟩) n cap) n (hdV ls)) (hn : 0 < n) (hn2 : n ≤ 1000000) (hlt : tt.length = n) (hll : ls.length = n) (he : ∀ j (a : j < ls.length) (b : j < tt.length), IntsAt V V.heap.size ls[j].1 ls[j].2.1 tt[j]) :
    TermsAt V V.heap.size (some ⟨g, 0, none⟩) n ls tt ∧ n ≤ cap ∧ cap ≤ 9223372036854775807 := by
  obtain ⟨_, hlen, _⟩ := h.form hn
  obtain ⟨hl0, ⟨e, h0⟩ | ⟨g', cap', cur, e, hb, hg, hn1, hc1, hsz, htk⟩⟩ := id h
  · omega
  · cases e
    unfold maxLen at hc1
    refine ⟨⟨⟨hll.symm, by omega, fun _ => ⟨g, 0, rfl, Blk.lt (w := V) (g := g) hg, fun j hj => ?_⟩⟩, hlt.symm, he⟩, hn1, by omega⟩
    have := h.cellAt j (by omega)
    rw [Nat.zero_add, this]
    unfold hdV
    rw [List.getElem?_map, List.getElem?_eq_getElem hj]
    rfl

theorem rot_idx (x : Int) (n : Nat) (h1 : 1 ≤ n) (h70 : n ≤ 70) : ∃ k : Nat, k < n ∧ (wrap64 (x.tmod (n : Int) + (n : Int))).tmod (n : Int) = (k : Int) := by
  have hn : (0 : Int) < (n : Int) := by omega
  have a1 : x.tmod (n : Int) < (n : Int) := Int.tmod_lt_of_pos x hn
  have a2 : -(n : Int) < x.tmod (n : Int) := Int.lt_tmod_of_pos x hn
  rw [IntWalk.wrap64_in _ (by omega)]
  have a3 : 0 ≤ x.tmod (n : Int) + (n : Int) := by omega
  rw [Int.tmod_eq_emod_of_nonneg a3]
  have b1 := Int.emod_nonneg (x.tmod (n : Int) + (n : Int)) (by omega : (n : Int) ≠ 0)
  have b2 := Int.emod_lt_of_pos (x.tmod (n : Int) + (n : Int)) hn
  exact ⟨((x.tmod (n : Int) + (n : Int)) % (n : Int)).toNat, by omega, by omega⟩

end Go.Proofs.Ytcegbmibpkopaaa
