/- Contracts: Join at any terms, the reference's Join. -/
import Derived.Test.YtojofbmpknpggaaN23g
import Derived.Test.YtojofbmpknpggaaY21g
/- Joins: the plain mathematics. -/
namespace Go.Proofs.Ytojofbmpknpggaa
open Go.RowKit

/-- Two lists of as many terms, side by side. -/
inductive Jnt (ss : Sg) : List Int → List Int → Prop
  | nil : Jnt ss [] []
  | same (x : Int) (a b : List Int) (h : 0 ≤ x) : Jnt ss a b → Jnt ss (x :: a) (x :: b)
  | part (x : Int) (p q a b : List Int) (hp : scan ss 1 (x :: p) = some []) (hq : scan ss 1 q = some []) (hd : ¬ (0 ≤ x ∧ q.head? = some x)) : Jnt ss a b → Jnt ss (x :: (p ++ a)) (q ++ b)
section
variable {ss : Sg} {M : List Two}
end

end Go.Proofs.Ytojofbmpknpggaa

/- Joins of valid terms: the plain mathematics. -/
namespace Go.Proofs.Ytojofbmpknpggaa
open Go.RowKit

section
variable {ss : Sg} {za zb : List Int}
theorem scan_len {q : List Int} (h : scan ss 1 q = some []) : 1 ≤ q.length := by
  cases q with
  | nil => cases h
  | cons x q => simp
end

end Go.Proofs.Ytojofbmpknpggaa

/- Words: what the reference's Common has at the head of a round. -/
namespace Go.Proofs.Ytojofbmpknpggaa
open Go.RowKit

theorem but_other {w w' : World} {g g2 : Option Nat} {A : Option Addr} {n : Nat} {zs : List Int} (h : IntsBut w g A n zs) (h2 : IntsBut w g2 A n zs) (hg : w.grownBy w' g) : IntsBut w' g2 A n zs :=
  ⟨h.len, h.max, fun hn => by
    obtain ⟨b, off, e, hb, hne, hc⟩ := h.mem hn
    obtain ⟨b2, off2, e2, hb2, hne2, hc2⟩ := h2.mem hn
    rw [e] at e2
    cases e2
    exact ⟨b, off, e, Nat.lt_of_lt_of_le hb hg.size, hne2, fun j hj => (World.cell?_of_block (hg.block b hb hne)).trans (hc j hj)⟩⟩
/-- The rows of Common: the numbers, the left parts, the right parts. -/
structure CAt (w0 W : World) (v7 v8 v9 : Value) (t : List Int) (lt rt : List (List Int)) (ls rs : List Hd) : Prop where
  bel : Below w0.heap.size w0 W
  out : W.ownsRow w0.heap.size 3 1 v7 t.length (t.map (Value.int .i64))
  left : RowsAt 45 W w0.heap.size v8 lt.length ls lt
  right : RowsAt 45 W w0.heap.size v9 rt.length rs rt
  ne : v9.ownBlock = none ∨ v9.ownBlock ≠ v8.ownBlock
  l7 : ∀ j (h : j < ls.length) (h' : j < lt.length), IntsBut W v7.ownBlock ls[j].1 ls[j].2.1 lt[j]
  l9 : ∀ j (h : j < ls.length) (h' : j < lt.length), IntsBut W v9.ownBlock ls[j].1 ls[j].2.1 lt[j]
  r7 : ∀ j (h : j < rs.length) (h' : j < rt.length), IntsBut W v7.ownBlock rs[j].1 rs[j].2.1 rt[j]
  r8 : ∀ j (h : j < rs.length) (h' : j < rt.length), IntsBut W v8.ownBlock rs[j].1 rs[j].2.1 rt[j]
section
variable {w0 W W' : World} {v7 v8 v9 v' : Value} {t : List Int} {lt rt : List (List Int)} {ls rs : List Hd}
theorem CAt.below (h : CAt w0 W v7 v8 v9 t lt rt ls rs) (hb : Below W.heap.size W W') : CAt w0 W' v7 v8 v9 t lt rt ls rs :=
  ⟨below_then h.bel hb, row_below h.out hb, h.left.below hb, h.right.below hb, h.ne, fun j a b => (h.l7 j a b).below hb, fun j a b => (h.l9 j a b).below hb, fun j a b => (h.r7 j a b).below hb, fun j a b => (h.r8 j a b).below hb⟩
theorem RowsAt.grown {base k : Nat} {v : Value} {l : List Hd} {tt : List (List Int)} {row : Option Nat} (h : RowsAt 45 W base v k l tt) (hg : W.grownBy W' row) (hr : v.ownBlock = none ∨ v.ownBlock ≠ row) (hp : ∀ j (a : j < l.length) (b : j < tt.length), IntsBut W row l[j].1 l[j].2.1 tt[j]) : RowsAt 45 W' base v k l tt :=
  ⟨h.row.kept hg hr, h.len, fun j a b => but_other (hp j a b) (h.each j a b) hg⟩
end

end Go.Proofs.Ytojofbmpknpggaa

/- Contract: the reference's Common. -/
namespace Go.Proofs.Ytojofbmpknpggaa
open Go.RowKit

end Go.Proofs.Ytojofbmpknpggaa

namespace Go.Proofs.Ytojofbmpknpggaa
open Go.RowKit

end Go.Proofs.Ytojofbmpknpggaa
