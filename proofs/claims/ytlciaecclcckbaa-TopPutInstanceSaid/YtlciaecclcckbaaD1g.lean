/- Contracts: places, Depth. -/
import Derived.Test.YtlciaecclcckbaaP4g
namespace Go.Proofs.Ytlciaecclcckbaa
open Go.RowKit Go.Shelf
attribute [local go_sem] Oper.semAt_some

set_option maxHeartbeats 400000 in
theorem places_any (s t : Value) (w : World) (hs : s.oneCell' = true) (ht : t.oneCell' = true) (As At : Option Addr) (ns cs nt ct : Nat) (es : s = .slice As ns cs) (et : t = .slice At nt ct) :
    Calls Try.prog 88 #[s, t] w fun e w' => e = .returned (.func (.func 107) #[] #[.pointer (some ⟨w.heap.size, 0, none⟩), .pointer (some ⟨w.heap.size + 1, 0, none⟩)]) ∧
      w' = (w.alloc (.cells #[s] 23)).alloc (.cells #[t] 25) := by
  subst es et
  go_enter Try.func88, Try.ntmps88
  go_wp2
  go_ret
  exact ⟨rfl, rfl⟩

def dmax (its : List It) : Nat := its.foldl (fun m it => max m (it.1.length + 1)) 0
theorem dmax_snoc (its : List It) (x : It) : dmax (its ++ [x]) = max (dmax its) (x.1.length + 1) := by simp [dmax]
theorem dmax_le : ∀ (its : List It), (∀ x ∈ its, x.1.length ≤ 1000) → dmax its ≤ 1001 := by
  intro its h
  have : ∀ (l : List It) (m : Nat), (∀ x ∈ l, x.1.length ≤ 1000) → m ≤ 1001 → l.foldl (fun m it => max m (it.1.length + 1)) m ≤ 1001 := by
    intro l
    induction l with
    | nil => intro m _ hm; exact hm
    | cons y r ih =>
      intro m hl hm
      refine ih _ (fun z hz => hl z (List.mem_cons_of_mem _ hz)) ?_
      have := hl y (List.mem_cons_self ..)
      exact Nat.max_le.2 ⟨hm, by omega⟩
  exact this its 0 h (by omega)

/-- The depth of a term. -/
def depthN (ss : Sg) (zs : List Int) : Nat := dmax (walkL ss zs.length [] 0 zs)
theorem walkL_off (ss : Sg) : ∀ (f : Nat) (p : List Nat) (o o' : Nat) (zs : List Int), (walkL ss f p o zs).map (·.1) = (walkL ss f p o' zs).map (·.1)
  | 0, _, _, _, _ => rfl
  | f + 1, p, o, o', zs => by
    simp only [walkL, List.map_cons, List.map_flatMap]
    congr 1
    congr 1
    funext k
    exact walkL_off ss f _ _ _ _
theorem dmax_map : ∀ (a b : List It), a.map (·.1) = b.map (·.1) → dmax a = dmax b := by
  have : ∀ (a b : List It) (m : Nat), a.map (·.1) = b.map (·.1) → a.foldl (fun m it => max m (it.1.length + 1)) m = b.foldl (fun m it => max m (it.1.length + 1)) m := by
    intro a
    induction a with
    | nil => intro b m h; cases b with
      | nil => rfl
      | cons y r => simp at h
    | cons x r ih => intro b m h; cases b with
      | nil => simp at h
      | cons y s =>
        simp only [List.map_cons, List.cons.injEq] at h
        simp only [List.foldl_cons, h.1]
        exact ih s _ h.2
  exact fun a b h => this a b 0 h
theorem dmax_off (ss : Sg) (o : Nat) (zs : List Int) : dmax (walkL ss zs.length [] o zs) = depthN ss zs := dmax_map _ _ (walkL_off ss _ _ _ _ _)

theorem KP.setX {d : Nat} (W : World) (v : Value) : KP d (fun b _ => b = d) W (W.setCell ⟨d, 0, none⟩ v) :=
  ⟨(Below.refl _ _).setCell (p := ⟨d, 0, none⟩) (Nat.le_refl _) _, fun b o _ ho _ hx => (Below.heap_setCell W ⟨d, 0, none⟩ v b hx).trans ho⟩

set_option maxHeartbeats 400000 in
theorem depth_bad (As At : Option Addr) (ns cs nt ct : Nat) (ss : Sg) (zs : List Int) (w : World) (hs : SigAt w w.heap.size As ns ss) (ht : IntsAt w w.heap.size At nt zs) (hv : valOk ss zs = false) :
    Calls Try.prog 53 #[.slice As ns cs, .slice At nt ct] w fun e w' => e = .returned (.tuple #[.int .i64 0, .int .i64 1]) ∧ Below w.heap.size w w' := by
  have C := Lib.hid (valid_any As At ns cs nt ct ss zs w hs ht)
  have HV := Lib.hid hv
  clear hv hs ht
  go_enter Try.func53, Try.ntmps53
  go_wp2_with (go_at_call 55; refine C.out.mono ?_; rintro e w1 ⟨rfl, hB⟩; rw [HV.out]; have HB := Lib.hid hB)
  go_ret2
  exact ⟨rfl, HB.out⟩

set_option maxRecDepth 100000 in
set_option maxHeartbeats 2000000 in
theorem depth_ok (As At : Option Addr) (ns cs nt ct : Nat) (ss : Sg) (zs : List Int) (w : World) (hs : SigAt w w.heap.size As ns ss) (ht : IntsAt w w.heap.size At nt zs) (hct : nt ≤ ct) (hct2 : ct ≤ 9223372036854775807) (hv : valOk ss zs = true) :
    Calls Try.prog 53 #[.slice As ns cs, .slice At nt ct] w fun e w' => e = .returned (.tuple #[.int .i64 (depthN ss zs : Nat), .int .i64 0]) ∧ Below w.heap.size w w' := by
  have C := Lib.hid (valid_any As At ns cs nt ct ss zs w hs ht)
  obtain ⟨h1, h60, hnum, hscan⟩ := valOk_term hv
  have h4 := sigOk_len (valOk_sig hv)
  have har := sigOk_ar (valOk_sig hv)
  have hl := ht.len
  have hls := hs.len
  obtain ⟨bt, o, rfl, hbt, hpart⟩ := ht.mem (by omega)
  have hh : HeadsOk ss zs := fun z hz => (hnum z hz).2
  subst hl
  have HV := Lib.hid hv
  have HS := Lib.hid hs
  have HP := Lib.hid (show PartIn w bt o zs from hpart)
  have HPARAMS := Lib.hid (And.intro har (And.intro hh hscan))
  rw [← hls] at h4
  clear hv ht hs hpart hnum har hh hscan hls
  obtain ⟨nt, hnt⟩ : ∃ nt, zs.length = nt := ⟨_, rfl⟩
  rw [hnt] at h1 h60 hct C ⊢
  have HNT := Lib.hid hnt
  clear hnt
  refine callsIn_wide (n := 5) |>.1 ?_
  refine callsIn_of_wp_marks Try.func53 rfl trivial ?_ rfl
  simp only [Try.ntmps53, List.size_toArray, List.length_cons, List.length_nil, Nat.reduceAdd, Nat.reduceSub, Array.replicate_succ, Array.replicate_zero, List.push_toArray, List.append_toArray, List.nil_append, List.cons_append]
  gi_wp2_with (first
    | (refine ⟨trivial, ?_⟩; gi_at_call 55; refine (callsIn_wide.2 C.out).mono ?_; rintro e w1 ⟨rfl, hB⟩; rw [HV.out]; have HB := Lib.hid hB)
    | (refine ⟨trivial, ?_⟩; gi_at_call 88; refine (callsIn_wide.2 (places_any _ _ _ rfl rfl _ _ _ _ _ _ rfl rfl)).mono ?_; rintro e w2 ⟨rfl, rfl⟩))
  obtain ⟨d, hd⟩ : ∃ d, w1.heap.size = d := ⟨_, rfl⟩
  have hwd : w.heap.size ≤ d := hd ▸ hB.size
  have hBV : Below w.heap.size w (((w1.alloc (Obj.cells #[Value.int IntKind.i64 0] 3)).alloc (Obj.cells #[Value.slice As ns cs] 23)).alloc (Obj.cells #[Value.slice (some ⟨bt, o, none⟩) nt ct] 25)) :=
    hB.trans ((((Below.refl _ w1).alloc (Nat.le_refl _) _).alloc (by simp) _).alloc (by simp; omega) _ |>.mono hB.size)
  have bd : Blk (((w1.alloc (Obj.cells #[Value.int IntKind.i64 0] 3)).alloc (Obj.cells #[Value.slice As ns cs] 23)).alloc (Obj.cells #[Value.slice (some ⟨bt, o, none⟩) nt ct] 25)) d 3 #[.int .i64 0] := by
    rw [← hd]; exact ((Blk.new w1 _ _).alloc _).alloc _
  have bs : Blk (((w1.alloc (Obj.cells #[Value.int IntKind.i64 0] 3)).alloc (Obj.cells #[Value.slice As ns cs] 23)).alloc (Obj.cells #[Value.slice (some ⟨bt, o, none⟩) nt ct] 25)) (d + 1) 23 #[.slice As ns cs] := by
    have := (Blk.new (w1.alloc (Obj.cells #[Value.int IntKind.i64 0] 3)) 23 #[.slice As ns cs]).alloc (Obj.cells #[Value.slice (some ⟨bt, o, none⟩) nt ct] 25)
    rw [World.size_alloc, hd] at this
    exact this
  have bt' : Blk (((w1.alloc (Obj.cells #[Value.int IntKind.i64 0] 3)).alloc (Obj.cells #[Value.slice As ns cs] 23)).alloc (Obj.cells #[Value.slice (some ⟨bt, o, none⟩) nt ct] 25)) (d + 1 + 1) 25 #[.slice (some ⟨bt, o, none⟩) nt ct] := by
    have := Blk.new ((w1.alloc (Obj.cells #[Value.int IntKind.i64 0] 3)).alloc (Obj.cells #[Value.slice As ns cs] 23)) 25 #[.slice (some ⟨bt, o, none⟩) nt ct]
    rw [World.size_alloc, World.size_alloc, hd] at this
    exact this
  have sz : (((w1.alloc (Obj.cells #[Value.int IntKind.i64 0] 3)).alloc (Obj.cells #[Value.slice As ns cs] 23)).alloc (Obj.cells #[Value.slice (some ⟨bt, o, none⟩) nt ct] 25)).heap.size = d + 3 := by simp [hd]
  rw [hd]
  generalize (((w1.alloc (Obj.cells #[Value.int IntKind.i64 0] 3)).alloc (Obj.cells #[Value.slice As ns cs] 23)).alloc (Obj.cells #[Value.slice (some ⟨bt, o, none⟩) nt ct] 25)) = W0 at *
  clear hB HB
  have hbd : bt < d := by omega
  let X : Nat → Obj → Prop := fun b _ => b = d
  refine range_parts (gf := 107) (lb := #[.pointer (some ⟨d + 1, 0, none⟩), .pointer (some ⟨d + 1 + 1, 0, none⟩)]) rfl (enters_of Try.func107 (by kernel_rfl) rfl) (encs := Pt.encs bt) (fun _ => rfl)
    (fun x W => PtIn (d + 1) X ss bt W x) (KP d X) (fun xs => xs.map Pt.it = walkL ss zs.length [] o zs) (walkL ss zs.length [] o zs).length
    (fun pre W => ((W.cell? ⟨d, 0, none⟩ = some (.int .i64 (dmax (pre.map Pt.it) : Nat)) ∧ W.frozen? ⟨d, 0, none⟩ = false) ∧ (∀ x ∈ pre, x.it.1.length ≤ 1000)) ∧ Below w.heap.size w W)
    (fun s A B row ⟨⟨⟨a1, a2⟩, a3⟩, a4⟩ hg hr => ⟨⟨⟨cell_kept a1 hg (fun r e => (hr r e).2), (frozen_kept a1 hg (fun r e => (hr r e).2)).trans a2⟩, a3⟩, a4.grown hg a4.size (fun k e => by have := (hr k e).1; omega)⟩)
    (fun x W l o o' hx hl ho hc => hx.keep (n₀ := d) (by omega) hbd (KP.putObj (w := W0) (by omega) W l o o' hl ho hc))
    (fun h k => KP.trans h k) (fun W l o o' hl ho hc _ => KP.putObj (w := W0) (by omega) W l o o' hl ho hc)
    ⟨⟨⟨bd.cell 0, bd.frozen 0⟩, by simp⟩, hBV⟩
    ?seq (fun x => { tmps := #[.slice As ns cs, .slice (some ⟨bt, o, none⟩) nt ct, undef, undef, .int .i64 0, .int .i64 0, .pointer (some ⟨d, 0, none⟩), .slice x.A x.it.1.length x.c, .slice As ns cs, .slice (some ⟨bt, o, none⟩) nt ct, .bool true, .bool false, .slice As ns cs, .slice (some ⟨bt, o, none⟩) nt ct, .func (.func 107) #[] #[.pointer (some ⟨d + 1, 0, none⟩), .pointer (some ⟨d + 1 + 1, 0, none⟩)], .slice x.A x.it.1.length x.c, .slice (some ⟨bt, x.it.2.1, none⟩) x.it.2.2.length x.cp, undef, undef, undef, undef, undef, undef], defers := [] }) ?assign ?body ?done
  case seq =>
    intro l J V hV hJ hY hJ0
    have hVs : d + 3 ≤ V.heap.size := by rw [← sz]; exact hV.size
    have hBV' := hBV.trans (hV.mono (by omega))
    refine places1_in d (d + 1) l bt (d + 1) (d + 1 + 1) _ 4 X As ns cs o ct ss zs J (by omega) hbd HPARAMS.out.1 h4.1 h4.2 (fun b cs z hb => by show ¬ b = d; omega) (fun b cs z hb _ => by show ¬ b = d; omega) (fun b cs z hb => by show ¬ b = d; omega)
      ⟨by omega, fun cs => by show ¬ d + 1 = d; omega⟩ (fun pre A B hj _ hb => hJ pre A B hj hb) hY V (by rw [HNT.out]; exact h1) (by rw [HNT.out]; exact h60) (by rw [HNT.out]; exact hct) hct2 HPARAMS.out.2.1 HPARAMS.out.2.2
      (bs.below hV (by omega)) ?_ ((HS.out.below hBV').more hwd) (by omega) (fun j hj => (hBV'.cell (p := ⟨bt, o + j, none⟩) hbt).trans (HP.out j hj)) hJ0 (Nat.le_refl _)
    rw [HNT.out]
    exact bt'.below hV (by omega)
  case assign =>
    intro l m x W K hK
    unfold Pt.encs
    gi_wp2
    exact hK
  case body =>
    rintro l m pre x W ⟨⟨⟨hc, hf⟩, hle⟩, hBW⟩ hx hlen
    have hpl := hx.plen
    have hdm := dmax_le (pre.map Pt.it) (by simpa using hle)
    gi_wp2
    · refine ⟨(KeepsOthers.setCell _ _ _).from _, KP.setX W _, ⟨by rw [dmax_snoc]; omega, fun y hy => hy.elim (hle y) (fun e => e ▸ hpl)⟩, hBW.setCell (p := ⟨d, 0, none⟩) hwd _⟩
    · refine ⟨(KeepsOthers.setCell _ _ _).from _, KP.setX W _, ⟨by rw [dmax_snoc]; omega, fun y hy => hy.elim (hle y) (fun e => e ▸ hpl)⟩, hBW.setCell (p := ⟨d, 0, none⟩) hwd _⟩
  case done =>
    rintro D xs W hD hS ⟨⟨⟨hc, hf⟩, hle⟩, hBW⟩ hK
    rw [hS] at hc
    have HOFF := Lib.hid (dmax_off ss o zs)
    gi_wp2
    refine ⟨by simp, .inl ⟨_, _, rfl, run_takeDeferred hK, ?_⟩⟩
    refine ⟨_, results_tmp2 rfl _ _ _, ?_, ?_⟩
    · simp [HOFF.out]
    · exact hBW.trans (belowK_b (w := W0) (by omega) W D _ _ hD hK rfl rfl)

end Go.Proofs.Ytlciaecclcckbaa
