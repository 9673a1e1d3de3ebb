/- The iterator over the parts of a term: the outer closure; places. -/
import Derived.Test.YtmccdmpemlmkkaaP2
import Derived.Laws.EntriesVeiled
namespace Go.Proofs.Ytmccdmpemlmkkaa
open Go.RowKit Go.Shelf
attribute [local go_sem] Oper.semAt_some

set_option maxRecDepth 100000 in
set_option maxHeartbeats 2000000 in
theorem places1_in (n₀ m₀ l bt Bs Bt N n : Nat) (X : Nat → Obj → Prop) (As : Option Addr) (ns cs o ct : Nat) (ss : Sg) (zs : List Int) (J : List Pt → World → Prop) (hnm : n₀ ≤ m₀) (hbt : bt < n₀) (har : ArOk ss) (hns : 1 ≤ ns) (hns2 : ns ≤ 12)
    (hX3 : ∀ b cs z, m₀ ≤ b → ¬ X b (.cells cs 3 z)) (hX25 : ∀ b cs z, m₀ ≤ b → (∀ v ∈ cs.toList, Into bt v) → ¬ X b (.cells cs 25 z)) (hX86 : ∀ b cs z, m₀ ≤ b → ¬ X b (.cells cs 83 z)) (hXs : n₀ ≤ Bs ∧ ∀ cs, ¬ X Bs (.cells cs 23 (0, 0)))
    (hJ : ∀ pre W W', J pre W → m₀ ≤ W.heap.size → Below W.heap.size W W' → J pre W')
    (hY : ∀ m pre x W, J pre W → PtIn m₀ X ss bt W x → pre.length < N → YieldAt Fence.wide m Try.prog l (x.encs bt) W fun e W' =>
      e = .returned (.bool true) ∧ J (pre ++ [x]) W' ∧ KP n₀ X W W')
    (W : World) (h1 : 1 ≤ zs.length) (h60 : zs.length ≤ 60) (hcp : zs.length ≤ ct) (hcp2 : ct ≤ 9223372036854775807) (hh : HeadsOk ss zs) (hscan : scan ss 1 zs = some [])
    (hBs : Blk W Bs 23 #[.slice As ns cs]) (hBt : Blk W Bt 25 #[.slice (some ⟨bt, o, none⟩) zs.length ct]) (hsig : SigAt W n₀ As ns ss) (hm : m₀ ≤ W.heap.size) (hpart : PartIn W bt o zs) (hJ0 : J [] W) (hN : (walkL ss zs.length [] o zs).length ≤ N) :
    CallsIn Fence.wide n Try.prog 69 #[.func (.yield l) #[] #[], .pointer (some ⟨Bs, 0, none⟩), .pointer (some ⟨Bt, 0, none⟩)] W fun e W' =>
      (∃ v, e = .returned v) ∧ ∃ xs, xs.map Pt.it = walkL ss zs.length [] o zs ∧ J xs W' := by
  let cl : Value := .func (.func 70) #[] #[.pointer (some ⟨W.heap.size, 0, none⟩), .pointer (some ⟨Bs, 0, none⟩), .pointer (some ⟨W.heap.size + 1, 0, none⟩)]
  let W1 := W.alloc (.cells #[.func (.yield l) #[] #[]] 83)
  let W2 := W1.alloc (.cells #[cl] 83)
  have hz1 : W1.heap.size = W.heap.size + 1 := by simp [W1]
  have hB : Below W.heap.size W W2 := ((Below.refl _ W).alloc (Nat.le_refl _) _).alloc (by simp) _
  have hK : KP n₀ X W W2 := KP.of_below hB (by omega)
  have ky : Blk W2 W.heap.size 83 #[.func (.yield l) #[] #[]] := (Blk.new W _ _).alloc _
  have kw : Blk W2 (W.heap.size + 1) 83 #[cl] := by
    rw [← hz1]
    exact Blk.new W1 _ _
  have hfix : Fix n₀ X W.heap.size Bs (W.heap.size + 1) := ⟨⟨by omega, fun cs => hX86 _ _ _ hm⟩, hXs, ⟨by omega, fun cs => hX86 _ _ _ (by omega)⟩⟩
  have hctx : Ctx n₀ l W.heap.size Bs (W.heap.size + 1) As ns cs ss W2 := ⟨ky, hK.blk hBs hXs.1 (hXs.2 _), kw, hsig.below hK.below, Nat.le_trans (by omega) hB.size⟩
  have C := tour_in n₀ m₀ l bt W.heap.size Bs (W.heap.size + 1) N X As ns cs ss J hnm hbt har hns hns2 hX3 hX25 hfix hJ hY zs.length zs [] o (n - 1) none 0 ct [] W2 (Nat.le_refl _) h1 h60 hcp hcp2 (by simp; omega) hh hscan hctx (Nat.le_trans hm hB.size) (.inl ⟨rfl, rfl, rfl⟩) (hpart.keep hbt hK) (hJ _ _ _ hJ0 hm hB) (by simpa using hN)
  have HC := Lib.hid C
  have ct0 := hBt.cell 0
  have lt0 := hBt.lt
  have HB := Lib.hid hB
  clear C hctx hfix ky kw hK hJ hY hX3 hX25 hX86 hXs hB hBs hBt hsig hpart hJ0 hN hz1 hh hscan har
  simp only [Array.getElem?_singleton, if_true] at ct0
  refine callsIn_of_wp Try.func69 rfl trivial ?_ rfl
  simp only [Try.ntmps69, List.size_toArray, List.length_cons, List.length_nil, Nat.reduceAdd, Nat.reduceSub, Array.replicate_succ, Array.replicate_zero, List.push_toArray, List.append_toArray, List.nil_append, List.cons_append]
  gi_wp2_with (refine ⟨trivial, fun h => (by cases h), ?_⟩; gi_at_call 70; refine HC.out.mono ?_; rintro e W5 ⟨rfl, xs, h1, h2, h3⟩)
  go_end0
  exact ⟨⟨_, rfl⟩, xs, h1, h2⟩

end Go.Proofs.Ytmccdmpemlmkkaa
