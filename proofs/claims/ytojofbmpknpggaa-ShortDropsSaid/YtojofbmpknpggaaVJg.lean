/- Contract: firsts (for each step the first one that says the same). -/
import Derived.Test.YtojofbmpknpggaaN13g
import Derived.Test.YtojofbmpknpggaaY21g
import Derived.Test.YtojofbmpknpggaaB4g
import Derived.Shelf.Abstract
import Derived.Laws.OwnMore
import Derived.Laws.Rows
import Derived.Laws.CopyRow
import Derived.Test.YtojofbmpknpggaaVHg
import Derived.Test.YtojofbmpknpggaaG1g
import Derived.Test.YtojofbmpknpggaaQVg
import Derived.Deep.CutRange
import Derived.Deep.WholeRow
/- Contracts: find.Valid; chosen and searched, whatever is asked. -/
namespace Go.Proofs.Ytojofbmpknpggaa
open Go.RowKit

theorem HdsAt.cellAt {w : World} {B n : Nat} {A : Option Addr} {ls : List Hd} (h : HdsAt w B A n ls) {k : Nat} (hk : k < n) :
    ∃ b off A' n' c', A = some ⟨b, off, none⟩ ∧ b < B ∧ w.cell? ⟨b, off + k, none⟩ = some (.slice A' n' c') ∧ ls[k]? = some (A', n', c') := by
  obtain ⟨b, off, e, hb, hc⟩ := h.mem (by omega)
  have h1 : k < ls.length := by rw [← h.len]; exact hk
  exact ⟨b, off, ls[k].1, ls[k].2.1, ls[k].2.2, e, hb, hc k h1, List.getElem?_eq_getElem h1⟩

theorem TermsAt.at {w : World} {B n : Nat} {A : Option Addr} {ls : List Hd} {tt : List (List Int)} (h : TermsAt w B A n ls tt) {k n' c' : Nat} {A' : Option Addr} (hk : ls[k]? = some (A', n', c')) : ∃ t, tt[k]? = some t ∧ tt.getD k [] = t ∧ IntsAt w B A' n' t := by
  obtain ⟨h1, e⟩ := List.getElem?_eq_some_iff.1 hk
  have hl : ls.length = n := h.hds.len.symm
  have h2 : k < tt.length := by have := h.len; omega
  refine ⟨tt[k], List.getElem?_eq_getElem h2, by simp [List.getD_eq_getElem?_getD, List.getElem?_eq_getElem h2], ?_⟩
  have := h.each k h1 h2
  rw [e] at this
  exact this

end Go.Proofs.Ytojofbmpknpggaa

/- Contract: keyed (a term as the key of a map). -/
namespace Go.Proofs.Ytojofbmpknpggaa
open Go.RowKit

/-- The numbers of a term, and zeros behind them. -/
def keyL (zs : List Int) : List Int := zs ++ List.replicate (60 - zs.length) 0
def keyA (zs : List Int) : Array Value := ((keyL zs).map (Value.int .i64)).toArray
theorem keyL_len {zs : List Int} (h : zs.length ≤ 60) : (keyL zs).length = 60 := by simp [keyL]; omega
theorem keyA_size {zs : List Int} (h : zs.length ≤ 60) : (keyA zs).size = 60 := by simp [keyA, keyL_len h]
theorem keyA_one (zs : List Int) : (keyA zs).all (·.oneCell') = true := by
  unfold keyA
  rw [List.all_toArray, List.all_map, List.all_eq_true]
  intro x _
  rfl
theorem keyA_made {zs : List Int} (_h : zs.length ≤ 60) (cur : Array Value) (hc : cur = Array.replicate 60 (.int .i64 0)) : (cur.toList.take 0 ++ zs.map (Value.int .i64) ++ cur.toList.drop (0 + (zs.map (Value.int .i64)).length)).toArray = keyA zs := by
  subst hc
  unfold keyA keyL
  rw [Array.toList_replicate, List.drop_replicate]
  simp
end Go.Proofs.Ytojofbmpknpggaa

/- A map from terms (as keys) to the numbers of their groups. -/
namespace Go.Proofs.Ytojofbmpknpggaa
open Go.RowKit Go.WideMaps

/-- A list that is a term by its signs, short enough to be a key. -/
def GoodK (ss : Sg) (zs : List Int) : Prop := scan ss 1 zs = some [] ∧ zs.length ≤ 60 ∧ ∀ z ∈ zs, -1000 ≤ z ∧ z ≤ 1000
theorem keyL_inj {ss : Sg} {a b : List Int} (ha : GoodK ss a) (hb : GoodK ss b) (h : keyL a = keyL b) : a = b := by
  have h1 := scan_append ss a 1 [] (List.replicate (60 - a.length) 0) ha.1
  have h2 := scan_append ss b 1 [] (List.replicate (60 - b.length) 0) hb.1
  have e : scan ss 1 (keyL a) = scan ss 1 (keyL b) := by rw [h]
  unfold keyL at e
  rw [h1, h2] at e
  have hl := congrArg List.length (Option.some.inj e)
  simp only [List.nil_append, List.length_replicate] at hl
  have la := ha.2.1
  have lb := hb.2.1
  have : a.length = b.length := by omega
  have t := congrArg (List.take a.length) h
  unfold keyL at t
  rw [List.take_left' rfl, List.take_left' this.symm] at t
  exact t
theorem keyL_num {ss : Sg} {a : List Int} (ha : GoodK ss a) : ∀ z ∈ keyL a, -1000 ≤ z ∧ z ≤ 1000 := by
  intro z hz
  unfold keyL at hz
  rcases List.mem_append.1 hz with h | h
  · exact ha.2.2 z h
  · have := List.eq_of_mem_replicate h
    omega

theorem mapM_some {α β : Type} (f : α → Option β) (g : α → β) : ∀ (l : List α), (∀ x ∈ l, f x = some (g x)) → l.mapM f = some (l.map g)
  | [], _ => rfl
  | x :: r, h => by
    rw [List.mapM_cons, h x (by simp), mapM_some f g r (fun y hy => h y (by simp [hy]))]
    rfl
theorem flatten_one {α β : Type} (g : α → β) : ∀ l : List α, (l.map fun x => [g x]).flatten = l.map g
  | [] => rfl
  | x :: r => by simp [flatten_one g r]
/-- The key of a term. -/
def kkey (zs : List Int) : Lit := .string (keyBytes ((List.range 60).map fun i => Lit.int .i64 ((keyL zs).getD i 0)))
section
variable {ss : Sg} {w w' : World} {bm : Nat} {met : List (List Int)} {row : Option Nat} {x : List Int}
end

end Go.Proofs.Ytojofbmpknpggaa

/- Contract: stated (a term as the key of a map). -/
namespace Go.Proofs.Ytojofbmpknpggaa
open Go.RowKit Go.WideMaps

theorem info_stm : (Try.prog.info? 81).map (·.size) = some 60 := by kernel_rfl
theorem below_setRow7 {B : Nat} {a w : World} (h : Below B a w) {g : Nat} (hp : B ≤ g) (cs : Array Value) : Below B a (w.setRow g cs) :=
  h.trans ⟨rfl, rfl, rfl, by simp, fun k hk => setRow_other w g k cs (by omega)⟩

set_option maxRecDepth 100000 in
set_option maxHeartbeats 1000000 in
theorem stated_any (A : Option Addr) (n c : Nat) (zs : List Int) (w : World) (hx : IntsAt w w.heap.size A n zs) (h1 : 1 ≤ n) (hn : n ≤ 60) :
    Calls Try.prog 57 #[.slice A n c] w fun e w' => e = .returned (.agg (keyA zs)) ∧ Below w.heap.size w w' := by
  obtain ⟨b, off, rfl, hb, hcell⟩ := hx.mem (by omega)
  have hlen := hx.len
  have hz60 : (#[.int .i64 0, .int .i64 0, .int .i64 0, .int .i64 0, .int .i64 0, .int .i64 0, .int .i64 0, .int .i64 0, .int .i64 0, .int .i64 0, .int .i64 0, .int .i64 0, .int .i64 0, .int .i64 0, .int .i64 0, .int .i64 0, .int .i64 0, .int .i64 0, .int .i64 0, .int .i64 0, .int .i64 0, .int .i64 0, .int .i64 0, .int .i64 0, .int .i64 0, .int .i64 0, .int .i64 0, .int .i64 0, .int .i64 0, .int .i64 0, .int .i64 0, .int .i64 0, .int .i64 0, .int .i64 0, .int .i64 0, .int .i64 0, .int .i64 0, .int .i64 0, .int .i64 0, .int .i64 0, .int .i64 0, .int .i64 0, .int .i64 0, .int .i64 0, .int .i64 0, .int .i64 0, .int .i64 0, .int .i64 0, .int .i64 0, .int .i64 0, .int .i64 0, .int .i64 0, .int .i64 0, .int .i64 0, .int .i64 0, .int .i64 0, .int .i64 0, .int .i64 0, .int .i64 0, .int .i64 0] : Array Value) = Array.replicate 60 (.int .i64 0) := by rfl
  have hB2 : Below w.heap.size w ((w.alloc (.cells #[.int .i64 0, .int .i64 0, .int .i64 0, .int .i64 0, .int .i64 0, .int .i64 0, .int .i64 0, .int .i64 0, .int .i64 0, .int .i64 0, .int .i64 0, .int .i64 0, .int .i64 0, .int .i64 0, .int .i64 0, .int .i64 0, .int .i64 0, .int .i64 0, .int .i64 0, .int .i64 0, .int .i64 0, .int .i64 0, .int .i64 0, .int .i64 0, .int .i64 0, .int .i64 0, .int .i64 0, .int .i64 0, .int .i64 0, .int .i64 0, .int .i64 0, .int .i64 0, .int .i64 0, .int .i64 0, .int .i64 0, .int .i64 0, .int .i64 0, .int .i64 0, .int .i64 0, .int .i64 0, .int .i64 0, .int .i64 0, .int .i64 0, .int .i64 0, .int .i64 0, .int .i64 0, .int .i64 0, .int .i64 0, .int .i64 0, .int .i64 0, .int .i64 0, .int .i64 0, .int .i64 0, .int .i64 0, .int .i64 0, .int .i64 0, .int .i64 0, .int .i64 0, .int .i64 0, .int .i64 0] 81)).alloc (.cells #[.int .i64 0, .int .i64 0, .int .i64 0, .int .i64 0, .int .i64 0, .int .i64 0, .int .i64 0, .int .i64 0, .int .i64 0, .int .i64 0, .int .i64 0, .int .i64 0, .int .i64 0, .int .i64 0, .int .i64 0, .int .i64 0, .int .i64 0, .int .i64 0, .int .i64 0, .int .i64 0, .int .i64 0, .int .i64 0, .int .i64 0, .int .i64 0, .int .i64 0, .int .i64 0, .int .i64 0, .int .i64 0, .int .i64 0, .int .i64 0, .int .i64 0, .int .i64 0, .int .i64 0, .int .i64 0, .int .i64 0, .int .i64 0, .int .i64 0, .int .i64 0, .int .i64 0, .int .i64 0, .int .i64 0, .int .i64 0, .int .i64 0, .int .i64 0, .int .i64 0, .int .i64 0, .int .i64 0, .int .i64 0, .int .i64 0, .int .i64 0, .int .i64 0, .int .i64 0, .int .i64 0, .int .i64 0, .int .i64 0, .int .i64 0, .int .i64 0, .int .i64 0, .int .i64 0, .int .i64 0] 81)) := bel_al (bel_al (Below.refl _ w) _) _
  have hg3 : ((w.alloc (.cells #[.int .i64 0, .int .i64 0, .int .i64 0, .int .i64 0, .int .i64 0, .int .i64 0, .int .i64 0, .int .i64 0, .int .i64 0, .int .i64 0, .int .i64 0, .int .i64 0, .int .i64 0, .int .i64 0, .int .i64 0, .int .i64 0, .int .i64 0, .int .i64 0, .int .i64 0, .int .i64 0, .int .i64 0, .int .i64 0, .int .i64 0, .int .i64 0, .int .i64 0, .int .i64 0, .int .i64 0, .int .i64 0, .int .i64 0, .int .i64 0, .int .i64 0, .int .i64 0, .int .i64 0, .int .i64 0, .int .i64 0, .int .i64 0, .int .i64 0, .int .i64 0, .int .i64 0, .int .i64 0, .int .i64 0, .int .i64 0, .int .i64 0, .int .i64 0, .int .i64 0, .int .i64 0, .int .i64 0, .int .i64 0, .int .i64 0, .int .i64 0, .int .i64 0, .int .i64 0, .int .i64 0, .int .i64 0, .int .i64 0, .int .i64 0, .int .i64 0, .int .i64 0, .int .i64 0, .int .i64 0] 81)).alloc (.cells #[.int .i64 0, .int .i64 0, .int .i64 0, .int .i64 0, .int .i64 0, .int .i64 0, .int .i64 0, .int .i64 0, .int .i64 0, .int .i64 0, .int .i64 0, .int .i64 0, .int .i64 0, .int .i64 0, .int .i64 0, .int .i64 0, .int .i64 0, .int .i64 0, .int .i64 0, .int .i64 0, .int .i64 0, .int .i64 0, .int .i64 0, .int .i64 0, .int .i64 0, .int .i64 0, .int .i64 0, .int .i64 0, .int .i64 0, .int .i64 0, .int .i64 0, .int .i64 0, .int .i64 0, .int .i64 0, .int .i64 0, .int .i64 0, .int .i64 0, .int .i64 0, .int .i64 0, .int .i64 0, .int .i64 0, .int .i64 0, .int .i64 0, .int .i64 0, .int .i64 0, .int .i64 0, .int .i64 0, .int .i64 0, .int .i64 0, .int .i64 0, .int .i64 0, .int .i64 0, .int .i64 0, .int .i64 0, .int .i64 0, .int .i64 0, .int .i64 0, .int .i64 0, .int .i64 0, .int .i64 0] 81)).heap[w.heap.size + 1]? = some (.cells #[.int .i64 0, .int .i64 0, .int .i64 0, .int .i64 0, .int .i64 0, .int .i64 0, .int .i64 0, .int .i64 0, .int .i64 0, .int .i64 0, .int .i64 0, .int .i64 0, .int .i64 0, .int .i64 0, .int .i64 0, .int .i64 0, .int .i64 0, .int .i64 0, .int .i64 0, .int .i64 0, .int .i64 0, .int .i64 0, .int .i64 0, .int .i64 0, .int .i64 0, .int .i64 0, .int .i64 0, .int .i64 0, .int .i64 0, .int .i64 0, .int .i64 0, .int .i64 0, .int .i64 0, .int .i64 0, .int .i64 0, .int .i64 0, .int .i64 0, .int .i64 0, .int .i64 0, .int .i64 0, .int .i64 0, .int .i64 0, .int .i64 0, .int .i64 0, .int .i64 0, .int .i64 0, .int .i64 0, .int .i64 0, .int .i64 0, .int .i64 0, .int .i64 0, .int .i64 0, .int .i64 0, .int .i64 0, .int .i64 0, .int .i64 0, .int .i64 0, .int .i64 0, .int .i64 0, .int .i64 0] 81 (0, 0)) := heap_alloc2_new w _ _
  have hg2 : ((w.alloc (.cells #[.int .i64 0, .int .i64 0, .int .i64 0, .int .i64 0, .int .i64 0, .int .i64 0, .int .i64 0, .int .i64 0, .int .i64 0, .int .i64 0, .int .i64 0, .int .i64 0, .int .i64 0, .int .i64 0, .int .i64 0, .int .i64 0, .int .i64 0, .int .i64 0, .int .i64 0, .int .i64 0, .int .i64 0, .int .i64 0, .int .i64 0, .int .i64 0, .int .i64 0, .int .i64 0, .int .i64 0, .int .i64 0, .int .i64 0, .int .i64 0, .int .i64 0, .int .i64 0, .int .i64 0, .int .i64 0, .int .i64 0, .int .i64 0, .int .i64 0, .int .i64 0, .int .i64 0, .int .i64 0, .int .i64 0, .int .i64 0, .int .i64 0, .int .i64 0, .int .i64 0, .int .i64 0, .int .i64 0, .int .i64 0, .int .i64 0, .int .i64 0, .int .i64 0, .int .i64 0, .int .i64 0, .int .i64 0, .int .i64 0, .int .i64 0, .int .i64 0, .int .i64 0, .int .i64 0, .int .i64 0] 81)).alloc (.cells #[.int .i64 0, .int .i64 0, .int .i64 0, .int .i64 0, .int .i64 0, .int .i64 0, .int .i64 0, .int .i64 0, .int .i64 0, .int .i64 0, .int .i64 0, .int .i64 0, .int .i64 0, .int .i64 0, .int .i64 0, .int .i64 0, .int .i64 0, .int .i64 0, .int .i64 0, .int .i64 0, .int .i64 0, .int .i64 0, .int .i64 0, .int .i64 0, .int .i64 0, .int .i64 0, .int .i64 0, .int .i64 0, .int .i64 0, .int .i64 0, .int .i64 0, .int .i64 0, .int .i64 0, .int .i64 0, .int .i64 0, .int .i64 0, .int .i64 0, .int .i64 0, .int .i64 0, .int .i64 0, .int .i64 0, .int .i64 0, .int .i64 0, .int .i64 0, .int .i64 0, .int .i64 0, .int .i64 0, .int .i64 0, .int .i64 0, .int .i64 0, .int .i64 0, .int .i64 0, .int .i64 0, .int .i64 0, .int .i64 0, .int .i64 0, .int .i64 0, .int .i64 0, .int .i64 0, .int .i64 0] 81)).heap[w.heap.size]? = some (.cells #[.int .i64 0, .int .i64 0, .int .i64 0, .int .i64 0, .int .i64 0, .int .i64 0, .int .i64 0, .int .i64 0, .int .i64 0, .int .i64 0, .int .i64 0, .int .i64 0, .int .i64 0, .int .i64 0, .int .i64 0, .int .i64 0, .int .i64 0, .int .i64 0, .int .i64 0, .int .i64 0, .int .i64 0, .int .i64 0, .int .i64 0, .int .i64 0, .int .i64 0, .int .i64 0, .int .i64 0, .int .i64 0, .int .i64 0, .int .i64 0, .int .i64 0, .int .i64 0, .int .i64 0, .int .i64 0, .int .i64 0, .int .i64 0, .int .i64 0, .int .i64 0, .int .i64 0, .int .i64 0, .int .i64 0, .int .i64 0, .int .i64 0, .int .i64 0, .int .i64 0, .int .i64 0, .int .i64 0, .int .i64 0, .int .i64 0, .int .i64 0, .int .i64 0, .int .i64 0, .int .i64 0, .int .i64 0, .int .i64 0, .int .i64 0, .int .i64 0, .int .i64 0, .int .i64 0, .int .i64 0] 81 (0, 0)) := heap_alloc2_old w _ _
  obtain ⟨W2, hW2⟩ : ∃ W2, ((w.alloc (.cells #[.int .i64 0, .int .i64 0, .int .i64 0, .int .i64 0, .int .i64 0, .int .i64 0, .int .i64 0, .int .i64 0, .int .i64 0, .int .i64 0, .int .i64 0, .int .i64 0, .int .i64 0, .int .i64 0, .int .i64 0, .int .i64 0, .int .i64 0, .int .i64 0, .int .i64 0, .int .i64 0, .int .i64 0, .int .i64 0, .int .i64 0, .int .i64 0, .int .i64 0, .int .i64 0, .int .i64 0, .int .i64 0, .int .i64 0, .int .i64 0, .int .i64 0, .int .i64 0, .int .i64 0, .int .i64 0, .int .i64 0, .int .i64 0, .int .i64 0, .int .i64 0, .int .i64 0, .int .i64 0, .int .i64 0, .int .i64 0, .int .i64 0, .int .i64 0, .int .i64 0, .int .i64 0, .int .i64 0, .int .i64 0, .int .i64 0, .int .i64 0, .int .i64 0, .int .i64 0, .int .i64 0, .int .i64 0, .int .i64 0, .int .i64 0, .int .i64 0, .int .i64 0, .int .i64 0, .int .i64 0] 81)).alloc (.cells #[.int .i64 0, .int .i64 0, .int .i64 0, .int .i64 0, .int .i64 0, .int .i64 0, .int .i64 0, .int .i64 0, .int .i64 0, .int .i64 0, .int .i64 0, .int .i64 0, .int .i64 0, .int .i64 0, .int .i64 0, .int .i64 0, .int .i64 0, .int .i64 0, .int .i64 0, .int .i64 0, .int .i64 0, .int .i64 0, .int .i64 0, .int .i64 0, .int .i64 0, .int .i64 0, .int .i64 0, .int .i64 0, .int .i64 0, .int .i64 0, .int .i64 0, .int .i64 0, .int .i64 0, .int .i64 0, .int .i64 0, .int .i64 0, .int .i64 0, .int .i64 0, .int .i64 0, .int .i64 0, .int .i64 0, .int .i64 0, .int .i64 0, .int .i64 0, .int .i64 0, .int .i64 0, .int .i64 0, .int .i64 0, .int .i64 0, .int .i64 0, .int .i64 0, .int .i64 0, .int .i64 0, .int .i64 0, .int .i64 0, .int .i64 0, .int .i64 0, .int .i64 0, .int .i64 0, .int .i64 0] 81)) = W2 := ⟨_, rfl⟩
  rw [hW2] at hB2 hg3 hg2
  have hk60 : (keyA zs).size = 60 := keyA_size (by omega)
  have hcp : (Builtin.copy_ #[24, 45] 3 #[.slice (some ⟨w.heap.size + 1, 0, none⟩) 60 60, .slice (some ⟨b, off, none⟩) n c]).run Try.prog W2 = .ok (goInt n) (W2.setRow (w.heap.size + 1) (keyA zs)) := by
    have := run_copy_row (P := Try.prog) W2 24 45 3 3 (w.heap.size + 1) 0 60 60 ⟨b, off, none⟩ n c _ _ (zs.map (Value.int .i64)) Try.underlying24 (by kernel_rfl) hg3
      (by rw [List.length_map, ← hlen]; exact (Nat.min_eq_left hn).symm)
      (fun j v hv => by
        rw [List.getElem?_map] at hv
        obtain ⟨x, hx1, rfl⟩ := Option.map_eq_some_iff.1 hv
        obtain ⟨hj, rfl⟩ := List.getElem?_eq_some_iff.1 hx1
        rw [add0]
        exact (hB2.cell (p := ⟨b, off + j, none⟩) hb).trans (hcell j hj))
      (by rw [hz60]; simp; omega) (by intro v hv; obtain ⟨x, _, rfl⟩ := List.mem_map.1 hv; rfl)
    rw [keyA_made (by omega) _ hz60, List.length_map, ← hlen] at this
    exact this
  have hB3 : Below w.heap.size w (W2.setRow (w.heap.size + 1) (keyA zs)) := below_setRow7 hB2 (by omega) _
  have hg4 : (W2.setRow (w.heap.size + 1) (keyA zs)).heap[w.heap.size + 1]? = some (.cells (keyA zs) 81 (0, 0)) := setRow_heap W2 _ _ _ _ _ hg3
  have hg5 : (W2.setRow (w.heap.size + 1) (keyA zs)).heap[w.heap.size]? = some (.cells #[.int .i64 0, .int .i64 0, .int .i64 0, .int .i64 0, .int .i64 0, .int .i64 0, .int .i64 0, .int .i64 0, .int .i64 0, .int .i64 0, .int .i64 0, .int .i64 0, .int .i64 0, .int .i64 0, .int .i64 0, .int .i64 0, .int .i64 0, .int .i64 0, .int .i64 0, .int .i64 0, .int .i64 0, .int .i64 0, .int .i64 0, .int .i64 0, .int .i64 0, .int .i64 0, .int .i64 0, .int .i64 0, .int .i64 0, .int .i64 0, .int .i64 0, .int .i64 0, .int .i64 0, .int .i64 0, .int .i64 0, .int .i64 0, .int .i64 0, .int .i64 0, .int .i64 0, .int .i64 0, .int .i64 0, .int .i64 0, .int .i64 0, .int .i64 0, .int .i64 0, .int .i64 0, .int .i64 0, .int .i64 0, .int .i64 0, .int .i64 0, .int .i64 0, .int .i64 0, .int .i64 0, .int .i64 0, .int .i64 0, .int .i64 0, .int .i64 0, .int .i64 0, .int .i64 0, .int .i64 0] 81 (0, 0)) := by
    rw [← hg2]
    exact setRow_other W2 _ _ _ (by omega)
  obtain ⟨W3, hW3⟩ : ∃ W3, W2.setRow (w.heap.size + 1) (keyA zs) = W3 := ⟨_, rfl⟩
  rw [hW3] at hcp hB3 hg4 hg5
  have hg6 : (W3.setRow w.heap.size (keyA zs)).heap[w.heap.size]? = some (.cells (keyA zs) 81 (0, 0)) := setRow_heap W3 _ _ _ _ _ hg5
  have hB4 : Below w.heap.size w (W3.setRow w.heap.size (keyA zs)) := below_setRow7 hB3 (Nat.le_refl _) _
  obtain ⟨W4, hW4⟩ : ∃ W4, W3.setRow w.heap.size (keyA zs) = W4 := ⟨_, rfl⟩
  rw [hW4] at hg6 hB4
  have HG4 := Lib.hid hg4
  have HG5 := Lib.hid hg5
  have HW4 := Lib.hid hW4
  have HZ := Lib.hid (show (#[.int .i64 0, .int .i64 0, .int .i64 0, .int .i64 0, .int .i64 0, .int .i64 0, .int .i64 0, .int .i64 0, .int .i64 0, .int .i64 0, .int .i64 0, .int .i64 0, .int .i64 0, .int .i64 0, .int .i64 0, .int .i64 0, .int .i64 0, .int .i64 0, .int .i64 0, .int .i64 0, .int .i64 0, .int .i64 0, .int .i64 0, .int .i64 0, .int .i64 0, .int .i64 0, .int .i64 0, .int .i64 0, .int .i64 0, .int .i64 0, .int .i64 0, .int .i64 0, .int .i64 0, .int .i64 0, .int .i64 0, .int .i64 0, .int .i64 0, .int .i64 0, .int .i64 0, .int .i64 0, .int .i64 0, .int .i64 0, .int .i64 0, .int .i64 0, .int .i64 0, .int .i64 0, .int .i64 0, .int .i64 0, .int .i64 0, .int .i64 0, .int .i64 0, .int .i64 0, .int .i64 0, .int .i64 0, .int .i64 0, .int .i64 0, .int .i64 0, .int .i64 0, .int .i64 0, .int .i64 0] : Array Value).size = (keyA zs).size by rw [hz60, hk60]; simp)
  clear hg2 hg3 hg4 hg5 hz60 hx hcell hlen hB2 hB3 hW3 hW4
  go_enter Try.func57, Try.ntmps57
  go_upto_region 3 with fail
  rename_i Qx Kx hKx
  refine wp_region_lit (l := [_, _]) ?_
  refine wpList_load_row rfl _ _ rfl (w.heap.size + 1) rfl _ _ _ _ HG4.out Try.underlying81 rfl (by rw [info_stm, hk60]) ?_
  refine wpList_store_row rfl _ _ _ rfl w.heap.size (keyA zs) rfl rfl _ _ HG5.out (by rw [info_stm, hk60]) HZ.out (keyA_one zs) ?_
  refine wpList_nil ?_
  show Kx _ _
  refine hKx _ _ ?_
  rw [HW4.out]
  clear hKx Kx
  go_wp2
  refine bodyPost_ret (v := .agg (keyA zs)) ?_ rfl ?_
  · exact results_cell_row (p := 2) rfl _ W4 w.heap.size _ _ _ _ rfl hg6 Try.underlying81 rfl (by rw [info_stm, hk60])
  · exact ⟨rfl, hB4⟩

end Go.Proofs.Ytojofbmpknpggaa

/- A map from terms (as keys) to the numbers of their first places. -/
namespace Go.Proofs.Ytojofbmpknpggaa
open Go.RowKit Go.WideMaps

theorem stm_law : KeyLaw Try.prog 81 := by
  refine deep_law_laid (by kernel_rfl) (m := 3) (by omega) ?_ ?_ ?_
  · exact of_decide_eq_true (by kernel_rfl)
  · kernel_rfl
  · rw [Try.underlying81]
theorem stm_keyed : Maps.Keyed Try.prog 81 := Maps.Keyed.of_law stm_law
theorem keyOf_stm {ss : Sg} {zs : List Int} (h : GoodK ss zs) : keyOf Try.prog 81 (.agg (keyA zs)) = some (kkey zs) := by
  have hkt : Try.prog.keyType 81 = true := by kernel_rfl
  have hc : Try.prog.cellsOf 81 = 60 := by kernel_rfl
  have hc1 : Try.prog.cellsOf 3 = 1 := by kernel_rfl
  obtain ⟨m, hm⟩ : ∃ m, Try.prog.types.size = m + 1 := by
    have : decide (0 < Try.prog.types.size) = true := by kernel_rfl
    exact ⟨Try.prog.types.size - 1, by have := of_decide_eq_true this; omega⟩
  have hu := Try.underlying81
  have hi := Try.underlying3
  have hsz := keyA_size h.2.1
  have hlen : (keyA zs).toList.length = 60 := by rw [Array.length_toList]; exact hsz
  have hnum := keyL_num h
  have hkl := keyL_len h.2.1
  unfold keyOf kkey
  rw [hu]
  simp only
  rw [if_pos (by rw [hkt]; simp [Value.formed, hu, hc, hsz]), hm]
  unfold Program.keyLits
  rw [hu]
  simp only [Value.cells]
  simp only [hlen, hc, hc1, if_true]
  rw [mapM_some _ (fun i => [Lit.int .i64 ((keyL zs).getD i 0)]) _ (fun i hi' => by
    have hi60 : i < 60 := List.mem_range.1 hi'
    have hget : ((keyA zs).toList.drop (i * 1)).take 1 = [Value.int .i64 ((keyL zs).getD i 0)] := by
      unfold keyA
      rw [Nat.mul_one, ← List.map_drop, ← List.map_take, List.drop_eq_getElem_cons (by omega), List.getD_eq_getElem?_getD, List.getElem?_eq_getElem (by omega)]
      rfl
    rw [hget]
    unfold Program.keyLits
    rw [hi]
    simp only
    have hz : -1000 ≤ (keyL zs).getD i 0 ∧ (keyL zs).getD i 0 ≤ 1000 := by
      rw [List.getD_eq_getElem?_getD, List.getElem?_eq_getElem (by omega)]
      exact hnum _ (List.getElem_mem _)
    rw [if_pos ⟨by trivial, WalkArith.wf_i64 (by omega)⟩])]
  rw [Option.map_some, flatten_one]
  rfl
theorem kkey_inj7 {ss : Sg} {a b : List Int} (ha : GoodK ss a) (hb : GoodK ss b) (h : kkey a = kkey b) : a = b := by
  have h1 := keyOf_stm ha
  have h2 := keyOf_stm hb
  rw [← h] at h2
  have e := Array.toList_inj.2 (Value.agg.inj (stm_law.inj h1 h2))
  unfold keyA at e
  simp only at e
  refine keyL_inj ha hb ?_
  have : Function.Injective (Value.int .i64) := fun x y hxy => (Value.int.inj hxy).2
  exact (List.map_inj_right this).1 e

/-- Block bm is the map of what is said, each statement with its first place. -/
def SMap (ss : Sg) (w : World) (bm : Nat) (met : List (List Int)) : Prop :=
  (∀ x ∈ met, GoodK ss x) ∧ ∃ (n : Nat) (D : DataW Unit), n ≤ met.length ∧ w.ownsMap Try.prog 81 (plainElem Try.prog 3) bm n D ∧ (Maps.Tidy D ∧ Maps.size D = n) ∧ (∀ x, GoodK ss x → Maps.has D (kkey x) = met.contains x) ∧ ∀ x, GoodK ss x → met.contains x = true → D.atKey (kkey x) (.lit (.int .i64 0)) = .lit (.int .i64 (met.idxOf x : Int))
section
variable {ss : Sg} {w w' : World} {bm : Nat} {met : List (List Int)} {row : Option Nat} {x : List Int}
theorem SMap.made (ss : Sg) (w : World) : SMap ss (w.alloc (.map #[] 0)) w.heap.size [] := ⟨by simp, 0, .map [], Nat.le_refl _, World.ownsMap_made _ _ _ _, ⟨Maps.tidy_empty, rfl⟩, fun _ _ => rfl, fun x _ h => by simp at h⟩
theorem SMap.lt (h : SMap ss w bm met) : bm < w.heap.size := by obtain ⟨_, _, D, _, h1, _⟩ := h; exact h1.lt
theorem SMap.isMap (h : SMap ss w bm met) : ∃ es c, w.heap[bm]? = some (.map es c) := by obtain ⟨_, _, D, _, ⟨es, c, h1, _⟩, _⟩ := h; exact ⟨es, c, h1⟩
theorem SMap.grown (h : SMap ss w bm met) (hg : w.grownBy w' row) (hr : some bm ≠ row) : SMap ss w' bm met := by
  obtain ⟨hg0, n, D, hn, h1, h2⟩ := h
  exact ⟨hg0, n, D, hn, h1.kept hg hr, h2⟩
theorem SMap.look (h : SMap ss w bm met) (hx : GoodK ss x) :
    ∃ c : Int, (Instr.lookup 79 (.map (some bm)) (.agg (keyA x)) true).run Try.prog w = .ok (.tuple #[.int .i64 c, .bool (met.contains x)]) w := by
  obtain ⟨_, n, D, hn, h1, h2, h3, h4⟩ := h
  obtain ⟨v, ps, hrun, hv⟩ := h1.look_ok stm_keyed Try.underlying79 (zeroInt w) (plainElem_int Try.underlying3 (by decide)) (key := .agg (keyA x)) (keyOf_stm hx)
  obtain ⟨c, rfl, hc, _⟩ := plainElem_int_inv Try.underlying3 hv
  exact ⟨c, by rw [hrun, h3 x hx]⟩
theorem SMap.look1 (h : SMap ss w bm met) (hx : GoodK ss x) (hk : met.contains x = true) :
    (Instr.lookup 79 (.map (some bm)) (.agg (keyA x)) false).run Try.prog w = .ok (.int .i64 (met.idxOf x : Int)) w := by
  obtain ⟨_, n, D, hn, h1, h2, h3, h4⟩ := h
  obtain ⟨v, ps, hrun, hv⟩ := h1.lookup stm_keyed Try.underlying79 (zeroInt w) (plainElem_int Try.underlying3 (by decide)) (key := .agg (keyA x)) (keyOf_stm hx)
  obtain ⟨c, rfl, hc, _⟩ := plainElem_int_inv Try.underlying3 hv
  rw [h4 x hx hk] at hc
  have hc' := hc.symm
  simp at hc'
  rw [hrun, hc'.1]
/-- What was said before stands where it stood. -/
theorem SMap.again (h : SMap ss w bm met) (hx : GoodK ss x) (hk : met.contains x = true) : SMap ss w bm (met ++ [x]) := by
  obtain ⟨h0, n, D, hn, h1, h2, h3, h4⟩ := h
  have hm := List.contains_iff_mem.1 hk
  have hcon : ∀ y, (met ++ [x]).contains y = met.contains y := fun y => by
    rw [Bool.eq_iff_iff, List.contains_iff_mem, List.contains_iff_mem, List.mem_append, List.mem_singleton]
    exact ⟨fun h => h.elim id (fun e => e ▸ hm), .inl⟩
  refine ⟨fun y hy => ?_, n, D, by rw [List.length_append]; omega, h1, h2, fun y hy => by rw [h3 y hy, hcon], fun y hy hc => ?_⟩
  · rcases List.mem_append.1 hy with hy | hy
    · exact h0 y hy
    · obtain rfl := List.mem_singleton.1 hy
      exact hx
  · rw [hcon] at hc
    rw [h4 y hy hc, List.idxOf_append, if_pos (List.contains_iff_mem.1 hc)]
theorem SMap.put (h : SMap ss w bm met) (hx : GoodK ss x) (hc : met.contains x = false) (hn : met.length < 1000) :
    ∃ w', (Instr.mapUpdate 79 (.map (some bm)) (.agg (keyA x)) (.int .i64 (met.length : Int))).run Try.prog w = .ok () w' ∧ SMap ss w' bm (met ++ [x]) ∧ w.grownBy w' (some bm) := by
  obtain ⟨hg0, n, D, hnl, h1, ⟨h2, h2s⟩, h3, h4⟩ := h
  obtain ⟨w', hrun, hown, hg⟩ := h1.update stm_keyed Try.underlying79 (by unfold maxLen; omega) (key := .agg (keyA x)) (val := .int .i64 (met.length : Int)) (keyOf_stm hx) (plainElem_int Try.underlying3 (WalkArith.wf_i64 (by omega)))
  have hkl : WideAt.IsKeyLit (kkey x) := by trivial
  have hmem : x ∉ met := by
    intro hm
    have := List.contains_iff_mem.2 hm
    rw [hc] at this
    cases this
  refine ⟨w', hrun, ⟨fun y hy => ?_, n + 1, _, by rw [List.length_append, List.length_singleton]; omega, hown, ⟨h2.put hkl _, by rw [Maps.size_put h2, h3 x hx, hc]; simp [h2s]⟩, fun y hy => ?_, fun y hy hyc => ?_⟩, hg⟩
  · rcases List.mem_append.1 hy with hy | hy
    · exact hg0 y hy
    · obtain rfl := List.mem_singleton.1 hy
      exact hx
  · by_cases e : y = x
    · subst e
      rw [Maps.has_put_same h2.isMap hkl]
      simp
    · rw [Maps.has_put_other (fun e2 => e (kkey_inj7 hy hx e2)), h3 y hy]
      simp [e]
  · by_cases e : y = x
    · subst e
      rw [Maps.atKey_put_same h2.isMap hkl, List.idxOf_append, if_neg hmem]
      simp
    · have hy1 : met.contains y = true := by
        have := List.contains_iff_mem.1 hyc
        rcases List.mem_append.1 this with hm | hm
        · exact List.contains_iff_mem.2 hm
        · exact absurd (List.mem_singleton.1 hm) e
      rw [Maps.atKey_put_other (fun e2 => e (kkey_inj7 hy hx e2)), h4 y hy hy1, List.idxOf_append, if_pos (List.contains_iff_mem.1 hy1)]
end

end Go.Proofs.Ytojofbmpknpggaa

namespace Go.Proofs.Ytojofbmpknpggaa
open Go.RowKit

section
variable {ops : Array Oper} {rest : List Oper} {o : Oper} {a : Act} {w : World} {Q : Exit → Act → World → Prop}
theorem wpList_load_stm (hgd : o.guard = none) (x : Operand) (ho : o.op = .load 81 x) (g : Nat) (cs : Array Value) (hx : a.eval x = .pointer (some ⟨g, 0, none⟩)) (hg : Blk w g 81 cs) (hs : cs.size = 60)
    (h : wpList Try.prog ops Q rest (a.put o.dst (.agg cs)) w) : wpList Try.prog ops Q (o :: rest) a w :=
  wpList_load_row hgd _ x ho g hx _ _ _ _ hg Try.underlying81 rfl (by rw [info_stm, hs]) h
theorem wpList_store_stm (hgd : o.guard = none) (x y : Operand) (ho : o.op = .store 81 x y) (cs old : Array Value) (hx : a.eval x = .pointer (some ⟨w.heap.size, 0, none⟩)) (hy : a.eval y = .agg cs) (hs : cs.size = 60) (hold : old.size = 60) (h1 : cs.all (·.oneCell') = true)
    (h : wpList Try.prog ops Q rest (a.put o.dst undef) (w.alloc (.cells cs 81))) : wpList Try.prog ops Q (o :: rest) a (w.alloc (.cells old 81)) := by
  refine wpList_store_row hgd _ x y ho w.heap.size cs hx hy _ old (heap_alloc_new w _) (by rw [info_stm, hs]) (by rw [hold, hs]) h1 ?_
  rw [World.setRow_alloc_new]
  exact h
end
/-- The first places of the first k steps, in a row of n. -/
def fsC (L : List (List Int)) (n k : Nat) : Array Value := ((List.range n).map fun j => Value.int .i64 (if j < k then stM L j else 0)).toArray
theorem fsC_size (L : List (List Int)) (n k : Nat) : (fsC L n k).size = n := by simp [fsC]
theorem fsC_at {L : List (List Int)} {n k j : Nat} (hj : j < n) : (fsC L n k)[j]? = some (.int .i64 (if j < k then stM L j else 0)) := by
  unfold fsC
  rw [List.getElem?_toArray, List.getElem?_map, List.getElem?_range hj]
  rfl
theorem fsC_made (L : List (List Int)) (n : Nat) : fsC L n 0 = madeCells #[.int .i64 0] (n * 1) := by
  unfold fsC madeCells
  apply Array.ext
  · simp
  · intro i h1 h2
    simp [Nat.mod_one]
theorem fsC_set {L : List (List Int)} {n k : Nat} (hk : k < n) : (fsC L n k).setIfInBounds k (.int .i64 (stM L k)) = fsC L n (k + 1) := by
  apply Array.ext_getElem?
  intro j
  by_cases hj : j < n
  · by_cases e : k = j
    · subst e
      rw [Array.getElem?_setIfInBounds_self_of_lt (by rw [fsC_size]; exact hk), fsC_at hk, if_pos (by omega)]
    · rw [Array.getElem?_setIfInBounds_ne e, fsC_at hj, fsC_at hj]
      congr 2
      by_cases hc : j < k
      · rw [if_pos hc, if_pos (by omega)]
      · rw [if_neg hc, if_neg (by omega)]
  · rw [Array.getElem?_eq_none (by rw [Array.size_setIfInBounds, fsC_size]; omega), Array.getElem?_eq_none (by rw [fsC_size]; omega)]
theorem fsC_all (L : List (List Int)) (n : Nat) : fsC L n n = (((List.range n).map (stM L)).map (Value.int .i64)).toArray := by
  unfold fsC
  rw [List.map_map]
  congr 1
  refine List.map_congr_left fun j hj => ?_
  rw [if_pos (List.mem_range.1 hj)]
  rfl
theorem set_grown7 (w : World) (b k : Nat) (v : Value) : w.grownBy (w.setCell ⟨b, k, none⟩ v) (some b) := ⟨rfl, rfl, rfl, by simp, fun j _ hne => heap_setCell_other w ⟨b, k, none⟩ j v (fun e => hne (by rw [e]))⟩
theorem take_first {L : List (List Int)} {x : List Int} {m : Nat} (h : x ∈ L.take m) : (L.take m).idxOf x = L.idxOf x := by
  have e := List.take_append_drop m L
  rw [← congrArg (List.idxOf x) e, List.idxOf_append, if_pos h]

set_option maxRecDepth 100000 in
set_option maxHeartbeats 4000000 in
theorem sfirsts_any (At : Option Addr) (n c : Nat) (ss : Sg) (ls : List Hd) (L : List (List Int)) (w : World) (ht : TermsAt w w.heap.size At n ls L) (hn : n ≤ 900) (hgd : ∀ x ∈ L, GoodK ss x ∧ 1 ≤ x.length) :
    Calls Try.prog 44 #[.slice At n c] w fun e w' => ∃ A' c', e = .returned (.slice A' n c') ∧ IntsAt w' w'.heap.size A' n ((List.range n).map (stM L)) ∧ Below w.heap.size w w' := by
  have hmm := @run_makeMap Try.prog
  obtain ⟨i0, hi, hz0, hz1, hz2⟩ := info_parts info_int
  have hmk : ∀ W : World, (Instr.makeSlice 24 (.int .i64 (n : Int)) (.int .i64 (n : Int))).run Try.prog W = .ok (.slice (some ⟨W.heap.size, 0, none⟩) n n) (W.alloc (.cells (fsC L n 0) 3)) := by
    intro W
    rw [fsC_made]
    have := run_make_rowN (P := Try.prog) 24 3 i0 _ Try.underlying24 hi hz0 .i64 .i64 n n (Nat.le_refl _) (by rw [hz2]; omega) (by omega) W
    rw [hz1] at this
    exact this
  have HT := Lib.hid ht
  have HLN := Lib.hid ht.len
  have HGD := Lib.hid hgd
  clear ht hgd hi hz0 hz1 hz2
  go_enter Try.func44, Try.ntmps44
  go_wp2_with fail
  clear hmm hmk
  have HK0 := Lib.hid ((SMap.made ss w).grown (World.grownBy_alloc (w.alloc (.map #[] 0)) (.cells (fsC L n 0) 3) none) (by simp))
  have HF0 := Lib.hid (show Blk ((w.alloc (.map #[] 0)).alloc (.cells (fsC L n 0) 3)) (w.heap.size + 1) 3 (fsC L n 0) from by
    have := Blk.new (w.alloc (.map #[] 0)) 3 (fsC L n 0)
    rw [World.size_alloc] at this
    exact this)
  have HB0 := Lib.hid (bel_al (bel_al (Below.refl w.heap.size w) (.map #[] 0)) (.cells (fsC L n 0) 3))
  go_loopw [16] (fun i wr => ∃ k : Nat, k ≤ n ∧ i = .int .i64 k ∧ Blk wr (w.heap.size + 1) 3 (fsC L n k) ∧ SMap ss wr w.heap.size (L.take k) ∧ Below w.heap.size w wr) (fun i _ => n - (intOf i).toNat)
  case atStart => exact ⟨0, Nat.zero_le _, by go_num, HF0.out, by rw [List.take_zero]; exact HK0.out, HB0.out⟩
  case round =>
    obtain ⟨k, hk, rfl, hF, hK, hB⟩ := hrel
    by_cases hlt : k < n
    · obtain ⟨b, off, A', n', c', rfl, hb, q1, q2⟩ := HT.out.hds.cellAt hlt
      have q3 := (hB.cell (p := ⟨b, off + k, none⟩) hb).trans q1
      obtain ⟨x, hx1, _, hIx⟩ := HT.out.at q2
      have hkl : k < L.length := by have := HLN.out; omega
      obtain ⟨hgk, hf1⟩ := HGD.out x (List.mem_of_getElem? hx1)
      have hl := hIx.len
      have hk0 : (0 : Int) ≤ (k : Int) := by omega
      have hk1 : (k : Int) < (n : Int) := by omega
      have hf60 := hgk.2.1
      have CF := Lib.hid (stated_any A' n' c' x wr (hIx.up hB) (by omega) (by omega))
      have HK60 := Lib.hid (keyA_size hf60)
      have HK1 := Lib.hid (keyA_one x)
      have HGK := Lib.hid hgk
      have HTK := Lib.hid (show L.take (k + 1) = L.take k ++ [x] from by rw [List.take_add_one, hx1]; rfl)
      have HTL := Lib.hid (show (L.take k).length = k from by rw [List.length_take]; omega)
      have HSM := Lib.hid (show stM L k = (L.idxOf x : Int) from by unfold stM; rw [List.getD_eq_getElem?_getD, hx1]; rfl)
      have HB := Lib.hid hB
      have HF := Lib.hid hF
      have HK := Lib.hid hK
      have hlow : 0 ≤ k := Nat.zero_le _
      clear hB hF hK q1 q2 hgk hb hIx hx1 hl hf60 hf1
      go_upto_region 7 with (first
        | (go_at_call 57; refine CF.out.mono ?_; rintro e w3 ⟨rfl, hB4⟩; have HB4 := Lib.hid hB4; clear hB4)
        | (refine wpList_store_stm rfl _ _ rfl (keyA x) _ rfl rfl HK60.out rfl HK1.out ?_))
      obtain ⟨W4, hW4⟩ : ∃ W4, w3.alloc (.cells (keyA x) 81) = W4 := ⟨_, rfl⟩
      rw [hW4]
      have hB5 : Below wr.heap.size wr W4 := by rw [← hW4]; exact bel_al HB4.out _
      have HKB := Lib.hid (show Blk W4 w3.heap.size 81 (keyA x) by rw [← hW4]; exact Blk.new _ _ _)
      have HF4 := Lib.hid (HF.out.below hB5 HF.out.lt)
      have HK4 := Lib.hid (HK.out.grown (grown_of_below hB5) (by simp))
      have HB6 := Lib.hid (below_then HB.out hB5)
      have HW3 := Lib.hid (show w.heap.size + 1 < w3.heap.size from Nat.lt_of_lt_of_le HF.out.lt HB4.out.size)
      clear hW4 hB5
      cases hq : (L.take k).contains x
      · obtain ⟨cq, hlk⟩ := HK4.out.look HGK.out
        rw [hq] at hlk
        obtain ⟨W5, hup, hK5, hg5⟩ := HK4.out.put HGK.out hq (by rw [HTL.out]; omega)
        rw [HTL.out] at hup
        have hw3 := HW3.out
        have HF5 := Lib.hid (HF4.out.grown hg5 (by simp))
        have HKB5 := Lib.hid (HKB.out.grown hg5 (by intro e; have := Option.some.inj e; omega))
        have HB7 := Lib.hid (HB6.out.grown hg5 HB6.out.size (fun j e => by cases e; exact Nat.le_refl _))
        rw [← HTK.out] at hK5
        have hlk2 := hK5.look1 HGK.out (by rw [HTK.out]; simp)
        rw [take_first (by rw [HTK.out]; simp), ← HSM.out] at hlk2
        have fcell : W5.cell? ⟨w.heap.size + 1, k, none⟩ = some (.int .i64 0) := by rw [HF5.out.cell, fsC_at hlt, if_neg (by omega)]
        have ffro : W5.frozen? ⟨w.heap.size + 1, k, none⟩ = false := HF5.out.frozen k
        have HN := Lib.hid (show Blk (W5.setCell ⟨w.heap.size + 1, k, none⟩ (.int .i64 (stM L k))) (w.heap.size + 1) 3 (fsC L n (k + 1)) from by have := HF5.out.set_ k (.int .i64 (stM L k)); rw [fsC_set hlt] at this; exact this)
        have HKN := Lib.hid (hK5.grown (set_grown7 W5 (w.heap.size + 1) k (.int .i64 (stM L k))) (by simp))
        have HBN := Lib.hid (HB7.out.setCell (p := ⟨w.heap.size + 1, k, none⟩) (by simp only; omega) (.int .i64 (stM L k)))
        obtain ⟨sv, hsv⟩ : ∃ sv, stM L k = sv := ⟨_, rfl⟩
        rw [hsv] at hlk2 HN HKN HBN
        clear hK5 hg5 hq hsv hw3
        go_wp2_with (refine wpList_load_stm rfl _ rfl w3.heap.size (keyA x) rfl (by first | exact HKB.out | exact HKB5.out) HK60.out ?_)
        go_roundw
        case rel => exact ⟨k + 1, by omega, by go_num, HN.out, HKN.out, HBN.out⟩
        case measure => simp [intOf]; omega
      · obtain ⟨cq, hlk⟩ := HK4.out.look HGK.out
        rw [hq] at hlk
        have hlk2 := HK4.out.look1 HGK.out hq
        have hK5 := HK4.out.again HGK.out hq
        rw [take_first (List.contains_iff_mem.1 hq), ← HSM.out] at hlk2
        rw [← HTK.out] at hK5
        have hw3 := HW3.out
        have fcell : W4.cell? ⟨w.heap.size + 1, k, none⟩ = some (.int .i64 0) := by rw [HF4.out.cell, fsC_at hlt, if_neg (by omega)]
        have ffro : W4.frozen? ⟨w.heap.size + 1, k, none⟩ = false := HF4.out.frozen k
        have HN := Lib.hid (show Blk (W4.setCell ⟨w.heap.size + 1, k, none⟩ (.int .i64 (stM L k))) (w.heap.size + 1) 3 (fsC L n (k + 1)) from by have := HF4.out.set_ k (.int .i64 (stM L k)); rw [fsC_set hlt] at this; exact this)
        have HKN := Lib.hid (hK5.grown (set_grown7 W4 (w.heap.size + 1) k (.int .i64 (stM L k))) (by simp))
        have HBN := Lib.hid (HB6.out.setCell (p := ⟨w.heap.size + 1, k, none⟩) (by simp only; omega) (.int .i64 (stM L k)))
        obtain ⟨sv, hsv⟩ : ∃ sv, stM L k = sv := ⟨_, rfl⟩
        rw [hsv] at hlk2 HN HKN HBN
        clear hK5 hq hsv hw3
        go_wp2_with (refine wpList_load_stm rfl _ rfl w3.heap.size (keyA x) rfl HKB.out HK60.out ?_)
        go_roundw
        case rel => exact ⟨k + 1, by omega, by go_num, HN.out, HKN.out, HBN.out⟩
        case measure => simp [intOf]; omega
    · obtain rfl : k = n := by omega
      have HF := Lib.hid hF
      have HB := Lib.hid hB
      clear hF hK hB
      go_wp2
      go_ret
      exact ⟨_, _, rfl, ints_of_blk _ _ _ (fsC_all L k) HF.out (by simp) (by simp; omega), HB.out⟩

end Go.Proofs.Ytojofbmpknpggaa
