/- Contract: solve. -/
import Derived.Test.YtojofbmpknpggaaY8g
import Derived.Deep.QuietTactic
import Derived.BigQuiet
/- Contract: the closure of endless. -/
namespace Go.Proofs.Ytojofbmpknpggaa
open Go.RowKit

/-- The block holds no bools. -/
def NB (w : World) (b : Nat) : Prop := ∃ o : Obj, w.heap[b]? = some o ∧ ∀ cs z, o ≠ Obj.cells cs 4 z
theorem NB.moved {g1 g2 : Nat} {w w' : World} {b : Nat} (h : NB w b) (hm : Moved g1 g2 w w') : NB w' b := by
  obtain ⟨o, h1, h2⟩ := h
  exact ⟨o, hm.2.2.2.2.1 b o h1 h2, h2⟩
theorem Moved.cell {g1 g2 : Nat} {w w' : World} (hm : Moved g1 g2 w w') {p : Addr} (h : NB w p.block) : w'.cell? p = w.cell? p := by
  obtain ⟨o, h1, h2⟩ := h
  exact World.cell?_of_block ((hm.2.2.2.2.1 _ o h1 h2).trans h1.symm)
theorem NB.ne {w : World} {b g : Nat} {cs : Array Value} (h : NB w b) (k : Blk w g 4 cs) : b ≠ g := by
  rintro rfl
  obtain ⟨o, h1, h2⟩ := h
  exact h2 _ _ (Option.some.inj (h1.symm.trans k))
theorem NB.of {w : World} {b : Nat} {t : TypeId} {cs : Array Value} (h : Blk w b t cs) (ht : t ≠ 4) : NB w b := ⟨_, h, fun cs z e => ht (by cases e; rfl)⟩
def bCs (l : List Bool) : Array Value := (l.map Value.bool).toArray
theorem bCs_get {l : List Bool} {k : Nat} {b : Bool} (h : l[k]? = some b) : (bCs l)[k]? = some (.bool b) := by simp [bCs, h]
theorem bCs_set (l : List Bool) (k : Nat) (b : Bool) : (bCs l).setIfInBounds k (.bool b) = bCs (l.set k b) := by
  simp [bCs, List.map_set]
/-- The boxes of endless, and what they lead to. -/
structure ECtx (w : World) (fb Bf Bi Bd Bn gi gd n ci cd : Nat) : Prop where
  bf : NB w Bf
  bi : NB w Bi
  bd : NB w Bd
  bn : NB w Bn
  f : w.cell? ⟨Bf, 0, none⟩ = some (.pointer (some ⟨fb, 0, none⟩))
  i : w.cell? ⟨Bi, 0, none⟩ = some (.slice (some ⟨gi, 0, none⟩) n ci)
  d : w.cell? ⟨Bd, 0, none⟩ = some (.slice (some ⟨gd, 0, none⟩) n cd)
  fn : w.cell? ⟨Bn, 0, none⟩ = some (.func (.func 109) #[] #[.pointer (some ⟨Bf, 0, none⟩), .pointer (some ⟨Bi, 0, none⟩), .pointer (some ⟨Bd, 0, none⟩), .pointer (some ⟨Bn, 0, none⟩)])
theorem ECtx.moved {g1 g2 : Nat} {w w' : World} {fb Bf Bi Bd Bn gi gd n ci cd : Nat} (h : ECtx w fb Bf Bi Bd Bn gi gd n ci cd) (hm : Moved g1 g2 w w') : ECtx w' fb Bf Bi Bd Bn gi gd n ci cd :=
  ⟨h.bf.moved hm, h.bi.moved hm, h.bd.moved hm, h.bn.moved hm, (hm.cell (p := ⟨Bf, 0, none⟩) h.bf).trans h.f, (hm.cell (p := ⟨Bi, 0, none⟩) h.bi).trans h.i, (hm.cell (p := ⟨Bd, 0, none⟩) h.bd).trans h.d, (hm.cell (p := ⟨Bn, 0, none⟩) h.bn).trans h.fn⟩

set_option maxRecDepth 100000 in
set_option maxHeartbeats 2000000 in
theorem endlC_any (E : Nat → Prop) (fb : Nat) (S : Value) (F : Fd) (Bf Bi Bd Bn gi gd n ci cd : Nat) (hgd : gi ≠ gd) (hn : n = F.prox.length) (hn1 : n ≤ 1000000) :
    ∀ (m k : Nat) (i d : List Bool) (b : Bool) (i' d' : List Bool) (w : World), againF F m k i d = some (b, i', d') → FAt w E fb S F → ECtx w fb Bf Bi Bd Bn gi gd n ci cd → Blk w gi 4 (bCs i) → Blk w gd 4 (bCs d) → i.length = n → d.length = n →
      Calls Try.prog 109 #[.int .i64 (k : Int), .pointer (some ⟨Bf, 0, none⟩), .pointer (some ⟨Bi, 0, none⟩), .pointer (some ⟨Bd, 0, none⟩), .pointer (some ⟨Bn, 0, none⟩)] w fun e w' =>
        e = .returned (.bool b) ∧ Moved gi gd w w' ∧ Blk w' gi 4 (bCs i') ∧ Blk w' gd 4 (bCs d') := by
  intro m
  induction m with
  | zero => intro k i d b i' d' w h; cases h
  | succ m ih =>
    intro k i d b i' d' w hag hA hC hI hD hil hdl
    unfold againF at hag
    cases hr : rootS F.prox m k with
    | none => rw [hr] at hag; cases hag
    | some r =>
    rw [hr] at hag
    simp only at hag
    obtain ⟨hkl, hrl, _⟩ := rootS_lt hr
    obtain ⟨xi, hbi⟩ : ∃ xi, i[r]? = some xi := ⟨_, List.getElem?_eq_getElem (by omega)⟩
    obtain ⟨xd, hbd⟩ : ∃ xd, d[r]? = some xd := ⟨_, List.getElem?_eq_getElem (by omega)⟩
    cases ha : F.args[r]? with
    | none => rw [hbi, hbd, ha] at hag; cases hag
    | some al =>
    rw [hbi, hbd, ha] at hag
    simp only at hag
    have CR := Lib.hid (root_any E fb S F m k r w hA hr (by omega))
    have hf := hC.f
    have hi := hC.i
    have hd := hC.d
    have hir : w.cell? ⟨gi, r, none⟩ = some (.bool xi) := (hI.cell r).trans (bCs_get hbi)
    have hdr : w.cell? ⟨gd, r, none⟩ = some (.bool xd) := (hD.cell r).trans (bCs_get hbd)
    have hfi := hI.frozen r
    have hr0 : (0 : Int) ≤ (r : Int) := by omega
    have hr1 : (r : Int) < (n : Int) := by omega
    cases xi with
    | true =>
      simp only [Bool.true_or, if_true] at hag
      have HAG := Lib.hid hag
      have HM := Lib.hid (Moved.refl (g1 := gi) (g2 := gd) w)
      have HI := Lib.hid hI
      have HD := Lib.hid hD
      clear ih hag hA hC hI hD hil hdl hr ha hbi hbd hkl hrl hn
      go_enter Try.func109, Try.ntmps109
      go_wp2_with (go_at_call 107; refine CR.out.mono ?_; rintro e w2 ⟨rfl, rfl⟩)
      go_ret
      have := HAG.out
      cases this
      exact ⟨rfl, HM.out, HI.out, HD.out⟩
    | false =>
    cases xd with
    | true =>
      simp only [Bool.or_true, if_true] at hag
      have HAG := Lib.hid hag
      have HM := Lib.hid (Moved.refl (g1 := gi) (g2 := gd) w)
      have HI := Lib.hid hI
      have HD := Lib.hid hD
      clear ih hag hA hC hI hD hil hdl hr ha hbi hbd hkl hrl hn
      go_enter Try.func109, Try.ntmps109
      go_wp2_with (go_at_call 107; refine CR.out.mono ?_; rintro e w2 ⟨rfl, rfl⟩)
      go_ret
      have := HAG.out
      cases this
      exact ⟨rfl, HM.out, HI.out, HD.out⟩
    | false =>
      simp only [Bool.or_false, Bool.false_eq_true, if_false] at hag
      obtain ⟨W1, hW1⟩ : ∃ W1, w.setCell ⟨gi, r, none⟩ (.bool true) = W1 := ⟨_, rfl⟩
      have hm1 : Moved gi gd w W1 := by rw [← hW1]; exact Moved.set hI (.inl rfl) _
      have hI1 : Blk W1 gi 4 (bCs (i.set r true)) := by rw [← hW1, ← bCs_set]; exact hI.set_ r _
      have hD1 : Blk W1 gd 4 (bCs d) := by rw [← hW1]; exact hD.far (fun e => hgd e.symm) _
      have hA1 := hA.moved hm1
      have hC1 := hC.moved hm1
      have hf1 := hC1.f
      obtain ⟨ga, na, ca, A, caa, c2, hna, c3, hall, hargs⟩ := hA1.arg ha
      have hna1 : (r : Int) < (na : Int) := by have := (List.getElem?_eq_some_iff.1 ha).1; omega
      have HAR := Lib.hid hargs
      have HA := Lib.hid hA
      have HC := Lib.hid hC
      have HIH := Lib.hid ih
      have HI1 := Lib.hid hI1
      have HD1 := Lib.hid hD1
      have HM1 := Lib.hid hm1
      obtain ⟨res, hres⟩ : ∃ res, loopA (againF F m) al (i.set r true) d = res := ⟨_, rfl⟩
      rw [hres] at hag
      have HRES := Lib.hid hres
      have HAG := Lib.hid hag
      have HLI := Lib.hid (show (i.set r true).length = n by rw [List.length_set]; exact hil)
      have HLD := Lib.hid hdl
      obtain ⟨nl, hnl⟩ : ∃ nl, al.length = nl := ⟨_, rfl⟩
      have HNL := Lib.hid hnl
      rw [hnl] at c3 hall
      have HGD := Lib.hid hgd
      clear ih hag hA hC hI hD hil hdl hr ha hbi hbd hkl hrl hn hA1 hI1 hD1 hm1 hC1 hargs hres hnl hna hgd
      go_enter Try.func109, Try.ntmps109
      go_wp2_with (go_at_call 107; refine CR.out.mono ?_; rintro e w2 ⟨rfl, rfl⟩)
      go_loopw [37] (fun c wr => ∃ (j : Nat) (i1 d1 : List Bool), c = .int .i64 j ∧ j ≤ nl ∧ Moved gi gd W1 wr ∧ Blk wr gi 4 (bCs i1) ∧ Blk wr gd 4 (bCs d1) ∧ i1.length = n ∧ d1.length = n ∧ loopA (againF F m) (al.drop j) i1 d1 = res) (fun c _ => nl - (intOf c).toNat)
      case atStart => exact ⟨0, _, _, rfl, Nat.zero_le _, Moved.refl _, HI1.out, HD1.out, HLI.out, HLD.out, HRES.out⟩
      case round =>
        obtain ⟨j, i1, d1, rfl, hj, hmr, hIr, hDr, hli, hld, hl⟩ := hrel
        have hmw := HM1.out.trans hmr
        have hCr := HC.out.moved hmw
        have hAr := HA.out.moved hmw
        by_cases hjl : j < nl
        · have hja : j < al.length := by have := HNL.out; omega
          obtain ⟨g, rfl, hcg⟩ := HAR.out j _ (List.getElem?_eq_getElem hja)
          have hcj := hcg _ _ wr hmr
          rw [List.drop_eq_getElem_cons hja] at hl
          obtain ⟨a, hae⟩ : ∃ a, al[j] = a := ⟨_, rfl⟩
          rw [hae] at hl hcj
          unfold loopA at hl
          cases hx : againF F m a i1 d1 with
          | none => rw [hx] at hl; simp only at hl; have := HAG.out; rw [← hl] at this; cases this
          | some x =>
            obtain ⟨b2, i2, d2⟩ := x
            rw [hx] at hl
            have hlen := againF_len m a i1 d1 _ _ _ hx
            have hL2 := Lib.hid (show i2.length = n ∧ d2.length = n from ⟨by omega, by omega⟩)
            have CI := Lib.hid (HIH.out a i1 d1 b2 i2 d2 wr hx hAr hCr hIr hDr hli hld)
            have hfn := hCr.fn
            have hj0 : (0 : Int) ≤ (j : Int) := by omega
            have hj1 : (j : Int) < (nl : Int) := by omega
            have HMR := Lib.hid hmr
            cases b2 with
            | true =>
              have HL := Lib.hid hl
              clear hx hae hcg hja hl hlen hmw hCr hAr hIr hDr hmr hli hld
              go_wp2_with (go_at_call 109; refine CI.out.mono ?_; rintro e w3 ⟨rfl, hm3, hI3, hD3⟩)
              go_ret
              have h1 := HAG.out
              rw [← HL.out] at h1
              cases h1
              exact ⟨rfl, (HM1.out.trans HMR.out).trans hm3, hI3, hD3⟩
            | false =>
              have HL := Lib.hid hl
              clear hx hae hcg hja hl hlen hmw hCr hAr hIr hDr hmr hli hld
              go_wp2_with (go_at_call 109; refine CI.out.mono ?_; rintro e w3 ⟨rfl, hm3, hI3, hD3⟩)
              go_roundw
              case rel => exact ⟨j + 1, i2, d2, by go_num, by omega, HMR.out.trans hm3, hI3, hD3, hL2.out.1, hL2.out.2, HL.out⟩
              case measure => simp [intOf]; omega
        · have hjn : j = nl := by omega
          rw [hjn, ← HNL.out, List.drop_length] at hl
          have HL := Lib.hid (show some (false, i1, d1) = res from hl)
          have hib := hCr.i
          have hdb := hCr.d
          have HIR := Lib.hid hIr
          have HDR := Lib.hid hDr
          have HMW := Lib.hid hmw
          have hni : Bi ≠ gi := hCr.bi.ne hIr
          have hnd : Bi ≠ gd := hCr.bi.ne hDr
          have hni2 : Bd ≠ gi := hCr.bd.ne hIr
          have hnd2 : Bd ≠ gd := hCr.bd.ne hDr
          have hnj : ¬ (j : Int) < (nl : Int) := by omega
          have hir' : ∃ x, wr.cell? ⟨gi, r, none⟩ = some (.bool x) := ⟨_, (hIr.cell r).trans (bCs_get (List.getElem?_eq_getElem (by omega)))⟩
          have hdr' : ∃ x, wr.cell? ⟨gd, r, none⟩ = some (.bool x) := ⟨_, (hDr.cell r).trans (bCs_get (List.getElem?_eq_getElem (by omega)))⟩
          obtain ⟨xi, hxi⟩ := hir'
          obtain ⟨xd, hxd⟩ := hdr'
          have hfi2 := hIr.frozen r
          have hfd2 := hDr.frozen r
          have hgd := HGD.out
          have hgd2 : gd ≠ gi := fun e => hgd e.symm
          clear hl hli hld hIr hDr hmr hmw hCr hAr hjn
          go_wp2
          go_region
          go_wp2
          go_ret
          have h1 : some (false, i1.set r false, d1.set r true) = some (b, i', d') := by
            have := HAG.out
            rw [← HL.out] at this
            exact this
          cases h1
          have q1 := HIR.out.set_ r (.bool false)
          have q2 : Blk (wr.setCell ⟨gi, r, none⟩ (.bool false)) gd 4 (bCs d1) := HDR.out.far hgd2 _
          have q3 := q1.far (p := ⟨gd, r, none⟩) hgd (.bool true)
          have q4 := q2.set_ r (.bool true)
          rw [bCs_set] at q3 q4
          have m3 := (HMW.out.trans (Moved.set HIR.out (k := r) (.inl rfl) (.bool false))).trans (Moved.set q2 (k := r) (.inr rfl) (.bool true))
          exact ⟨rfl, ⟨m3.1, m3.2.1, m3.2.2.1, m3.2.2.2.1, m3.2.2.2.2⟩, q3, q4⟩

/-- Whether the unification has no end: from a node. -/
def endlessF (F : Fd) (m k : Nat) : Option Bool := (againF F m k (List.replicate F.tops.length false) (List.replicate F.tops.length false)).map (·.1)

theorem info_bool : (Try.prog.info? 4).map (fun i => (i.zero, i.size, i.bytes)) = some (some (.bool false), 1, 1) := by kernel_rfl
theorem made_bools (n : Nat) : madeCells (Value.bool false).cells (n * 1) = bCs (List.replicate n false) := by
  unfold madeCells bCs
  apply Array.ext
  · simp
  · intro j h1 h2
    simp [Value.cells, Nat.mod_one]

end Go.Proofs.Ytojofbmpknpggaa

/- Contract: endless. -/
namespace Go.Proofs.Ytojofbmpknpggaa
open Go.RowKit

set_option maxRecDepth 100000 in
set_option maxHeartbeats 2000000 in
theorem endless_any (E : Nat → Prop) (fb : Nat) (S : Value) (F : Fd) (m k : Nat) (b : Bool) (w : World) (h : FAt w E fb S F) (hF : F.Ok) (_hE : ∀ b, E b → b < w.heap.size) (hn : F.tops.length ≤ 100000) (hag : endlessF F m k = some b) :
    Calls Try.prog 108 #[.pointer (some ⟨fb, 0, none⟩), .int .i64 (k : Int)] w fun e w' => e = .returned (.bool b) ∧ Below w.heap.size w w' := by
  obtain ⟨bm, vt, va, vp, ks, hM, hks⟩ := id h
  obtain ⟨n, hnn⟩ : ∃ n, F.tops.length = n := ⟨_, rfl⟩
  obtain ⟨At, ct, rfl, hct1, hct2⟩ := hM.rows.head (i := 0) rfl
  obtain ⟨c0, c1, c2, c3, c4⟩ := hM.c
  have hfb := hM.lt
  obtain ⟨N, hN0⟩ : ∃ N, w.heap.size = N := ⟨_, rfl⟩
  have hfb1 : fb < N := by rw [← hN0]; exact hfb
  have hfb2 : fb ≠ N := by omega
  obtain ⟨i0, hi, hz0, hz1, hz2⟩ := info_parts info_bool
  rw [hnn] at c1 hn
  have hmk : ∀ W : World, (Instr.makeSlice 93 (.int .i64 (n : Int)) (.int .i64 (n : Int))).run Try.prog W = .ok (.slice (some ⟨W.heap.size, 0, none⟩) n n) (W.alloc (.cells (bCs (List.replicate n false)) 4)) := by
    intro W
    rw [← made_bools]
    have := run_make_rowN (P := Try.prog) 93 4 i0 _ Try.underlying93 hi hz0 .i64 .i64 n n (Nat.le_refl _) (by rw [hz2]; omega) (by omega) W
    rw [hz1] at this
    exact this
  unfold endlessF at hag
  rw [hnn] at hag
  cases hx : againF F m k (List.replicate n false) (List.replicate n false) with
  | none => rw [hx] at hag; cases hag
  | some x =>
  obtain ⟨b', i', d'⟩ := x
  rw [hx] at hag
  obtain rfl : b' = b := Option.some.inj hag
  let cl : Value := .func (.func 109) #[] #[.pointer (some ⟨N, 0, none⟩), .pointer (some ⟨N + 2, 0, none⟩), .pointer (some ⟨N + 4, 0, none⟩), .pointer (some ⟨N + 5, 0, none⟩)]
  let W1 := w.alloc (.cells #[.pointer (some ⟨fb, 0, none⟩)] 126)
  let W2 := W1.alloc (.cells (bCs (List.replicate n false)) 4)
  let W3 := W2.alloc (.cells #[.slice (some ⟨N + 1, 0, none⟩) n n] 93)
  let W4 := W3.alloc (.cells (bCs (List.replicate n false)) 4)
  let W5 := W4.alloc (.cells #[.slice (some ⟨N + 3, 0, none⟩) n n] 93)
  let W6 := W5.alloc (.cells #[cl] 60)
  have z1 : W1.heap.size = N + 1 := by simp [W1, hN0]
  have z2 : W2.heap.size = N + 2 := by simp [W2, z1]
  have z3 : W3.heap.size = N + 3 := by simp [W3, z2]
  have z4 : W4.heap.size = N + 4 := by simp [W4, z3]
  have z5 : W5.heap.size = N + 5 := by simp [W5, z4]
  have z6 : W6.heap.size = N + 6 := by simp [W6, z5]
  have b1 : Blk W1 N 126 #[.pointer (some ⟨fb, 0, none⟩)] := by have := Blk.new w 126 #[.pointer (some ⟨fb, 0, none⟩)]; rw [hN0] at this; exact this
  have b2 : Blk W2 (N + 1) 4 (bCs (List.replicate n false)) := by have := Blk.new W1 4 (bCs (List.replicate n false)); rw [z1] at this; exact this
  have b3 : Blk W3 (N + 2) 93 #[.slice (some ⟨N + 1, 0, none⟩) n n] := by have := Blk.new W2 93 #[.slice (some ⟨N + 1, 0, none⟩) n n]; rw [z2] at this; exact this
  have b4 : Blk W4 (N + 3) 4 (bCs (List.replicate n false)) := by have := Blk.new W3 4 (bCs (List.replicate n false)); rw [z3] at this; exact this
  have b5 : Blk W5 (N + 4) 93 #[.slice (some ⟨N + 3, 0, none⟩) n n] := by have := Blk.new W4 93 #[.slice (some ⟨N + 3, 0, none⟩) n n]; rw [z4] at this; exact this
  have k6 : Blk W6 (N + 5) 60 #[cl] := by have := Blk.new W5 60 #[cl]; rw [z5] at this; exact this
  have k1 : Blk W6 N _ _ := ((((b1.alloc (.cells (bCs (List.replicate n false)) 4)).alloc (.cells #[.slice (some ⟨N + 1, 0, none⟩) n n] 93)).alloc (.cells (bCs (List.replicate n false)) 4)).alloc (.cells #[.slice (some ⟨N + 3, 0, none⟩) n n] 93)).alloc (.cells #[cl] 60)
  have k2 : Blk W6 (N + 1) _ _ := (((b2.alloc (.cells #[.slice (some ⟨N + 1, 0, none⟩) n n] 93)).alloc (.cells (bCs (List.replicate n false)) 4)).alloc (.cells #[.slice (some ⟨N + 3, 0, none⟩) n n] 93)).alloc (.cells #[cl] 60)
  have k3 : Blk W6 (N + 2) _ _ := ((b3.alloc (.cells (bCs (List.replicate n false)) 4)).alloc (.cells #[.slice (some ⟨N + 3, 0, none⟩) n n] 93)).alloc (.cells #[cl] 60)
  have k4 : Blk W6 (N + 3) _ _ := (b4.alloc (.cells #[.slice (some ⟨N + 3, 0, none⟩) n n] 93)).alloc (.cells #[cl] 60)
  have k5 : Blk W6 (N + 4) _ _ := b5.alloc (.cells #[cl] 60)
  have hq1 : Below w.heap.size w W1 := (Below.refl w.heap.size w).alloc (Nat.le_refl _) _
  have hq2 : Below w.heap.size w W2 := hq1.alloc (by rw [z1]; omega) _
  have hq3 : Below w.heap.size w W3 := hq2.alloc (by rw [z2]; omega) _
  have hq4 : Below w.heap.size w W4 := hq3.alloc (by rw [z3]; omega) _
  have hq5 : Below w.heap.size w W5 := hq4.alloc (by rw [z4]; omega) _
  have hq6 : Below w.heap.size w W6 := hq5.alloc (by rw [z5]; omega) _
  have d1 : (w.alloc (.cells #[.pointer (some ⟨fb, 0, none⟩)] 126)).cell? ⟨fb, 1, none⟩ = some (.slice At n ct) := (hq1.cell (p := ⟨fb, 1, none⟩) hfb).trans c1
  have d3 : (((w.alloc (.cells #[.pointer (some ⟨fb, 0, none⟩)] 126)).alloc (.cells (bCs (List.replicate n false)) 4)).alloc (.cells #[.slice (some ⟨N + 1, 0, none⟩) n n] 93)).cell? ⟨fb, 1, none⟩ = some (.slice At n ct) := (hq3.cell (p := ⟨fb, 1, none⟩) hfb).trans c1
  have hpl : F.prox.length = n := by rw [hF.pl, hnn]
  have hC6 : ECtx W6 fb N (N + 2) (N + 4) (N + 5) (N + 1) (N + 3) n n n :=
    ⟨NB.of k1 (by decide), NB.of k3 (by decide), NB.of k5 (by decide), NB.of k6 (by decide), k1.cell 0, k3.cell 0, k5.cell 0, k6.cell 0⟩
  have hcall := endlC_any E fb S F N (N + 2) (N + 4) (N + 5) (N + 1) (N + 3) n n n (by omega) hpl.symm (by omega) m k _ _ b' i' d' W6 hx (h.below hq6) hC6 k2 k4 (by simp) (by simp)
  have HC : Hid (Calls Try.prog 109 #[.int .i64 (k : Int), .pointer (some ⟨N, 0, none⟩), .pointer (some ⟨N + 1 + 1, 0, none⟩), .pointer (some ⟨N + 1 + 1 + 1 + 1, 0, none⟩), .pointer (some ⟨N + 1 + 1 + 1 + 1 + 1, 0, none⟩)]
      ((((((w.alloc (.cells #[.pointer (some ⟨fb, 0, none⟩)] 126)).alloc (.cells (bCs (List.replicate n false)) 4)).alloc (.cells #[.slice (some ⟨N + 1, 0, none⟩) n n] 93)).alloc (.cells (bCs (List.replicate n false)) 4)).alloc (.cells #[.slice (some ⟨N + 1 + 1 + 1, 0, none⟩) n n] 93)).alloc (.cells #[.func (.func 109) #[] #[.pointer (some ⟨N, 0, none⟩), .pointer (some ⟨N + 1 + 1, 0, none⟩), .pointer (some ⟨N + 1 + 1 + 1 + 1, 0, none⟩), .pointer (some ⟨N + 1 + 1 + 1 + 1 + 1, 0, none⟩)]] 60))
      (fun e w' => e = .returned (.bool b') ∧ Below w.heap.size w w')) :=
    Lib.hid (hcall.mono (R' := fun e w' => e = .returned (.bool b') ∧ Below w.heap.size w w') (fun e w' ⟨q1, q2, _, _⟩ => ⟨q1, by
      refine ⟨q2.1.trans hq6.os, q2.2.1.trans hq6.tape, q2.2.2.1.trans hq6.output, Nat.le_trans hq6.size q2.2.2.2.1, fun x hxl => ?_⟩
      exact (q2.2.2.2.2.2 x (by omega) (by omega)).trans (hq6.block x hxl)⟩))
  clear hcall hC6 hq6 hq5 hq4 hq3 hq2 hq1 k1 k2 k3 k4 k5 k6 b1 b2 b3 b4 b5 z1 z2 z3 z4 z5 z6 hx hag h hM hks hF _hE hpl hi hz0 hz1 hz2
  clear W6 W5 W4 W3 W2 W1 hnn
  go_enter Try.func108, Try.ntmps108
  go_wp2_with (go_at_call 109; refine HC.out.mono ?_; rintro e w9 ⟨rfl, hF9⟩)
  go_ret
  exact ⟨rfl, hF9⟩

end Go.Proofs.Ytojofbmpknpggaa

/- Words for solve: the stack of equations; what stays where only its blocks change. -/
namespace Go.Proofs.Ytojofbmpknpggaa
open Go.RowKit

/-- Whatever is no block of the type lies as it lay. -/
def KT (T : TypeId) (w w' : World) : Prop := ∀ (b : Nat) (o : Obj), w.heap[b]? = some o → (∀ cs z, o ≠ Obj.cells cs T z) → w'.heap[b]? = some o
section
variable {T : TypeId} {w w' w'' : World}
theorem KT.refl (T : TypeId) (w : World) : KT T w w := fun _ _ h _ => h
theorem KT.trans (h : KT T w w') (k : KT T w' w'') : KT T w w'' := fun b o hb ho => k b o (h b o hb ho) ho
theorem KT.below (h : Below w.heap.size w w') : KT T w w' := fun b o hb _ => (h.block b (by
  rcases Nat.lt_or_ge b w.heap.size with h1 | h1
  · exact h1
  · rw [Array.getElem?_eq_none h1] at hb; cases hb)).trans hb
theorem KT.grown {base n size : Nat} {v : Value} {xs : List Value} (hr : w.ownsRow base T size v n xs) (hg : w.grownBy w' v.ownBlock) : KT T w w' := fun b o hb ho => by
  have hl : b < w.heap.size := by
    rcases Nat.lt_or_ge b w.heap.size with h1 | h1
    · exact h1
    · rw [Array.getElem?_eq_none h1] at hb; cases hb
  refine (hg.block b hl fun e => ?_).trans hb
  obtain ⟨cs, h2⟩ := row_type hr e.symm
  rw [hb] at h2
  exact ho _ _ (Option.some.inj h2)
end
theorem FAt.kt {T : TypeId} {w w' : World} {E : Nat → Prop} {fb : Nat} {S : Value} {F : Fd} (h : FAt w E fb S F) (hm : KT T w w') (hT : T = 137) : FAt w' E fb S F := by
  obtain ⟨bm, vt, va, vp, ks, hM, hks⟩ := h
  have key : ∀ b o, w.heap[b]? = some o → (∀ cs z, o ≠ Obj.cells cs T z) → w'.heap[b]? = w.heap[b]? := fun b o hb ho => (hm b o hb ho).trans hb.symm
  have n1 : T ≠ 3 := by rw [hT]; decide
  have n2 : T ≠ 24 := by rw [hT]; decide
  have n3 : T ≠ 133 := by rw [hT]; decide
  refine ⟨bm, vt, va, vp, ks, ⟨hm fb _ hM.blk (fun cs z e => n3 (by cases e; rfl)), hM.hb, hM.hm, hM.ha, ⟨fun j v us e => ownsRow_moved (hM.rows.row j v us e) fun g hg => ?_, hM.rows.apart, hM.rows.out⟩, ownsRow_moved hM.args fun g hg => ?_, ?_⟩, hks⟩
  · obtain ⟨cs, h1⟩ := row_type (hM.rows.row j v us e) hg
    exact key g _ h1 (fun cs z e => n1 (by cases e; rfl))
  · obtain ⟨cs, h1⟩ := row_type hM.args hg
    exact key g _ h1 (fun cs z e => n2 (by cases e; rfl))
  · obtain ⟨D, ⟨es', c', q1, q2⟩, q3⟩ := hM.vars
    exact ⟨D, ⟨es', c', hm bm _ q1 (fun cs z e => by cases e), q2⟩, q3⟩

def eqv (l : List (Nat × Nat)) : List Value := l.flatMap fun e => [.int .i64 (e.1 : Int), .int .i64 (e.2 : Int)]
theorem eqv_len : ∀ l, (eqv l).length = l.length * 2
  | [] => rfl
  | e :: l => by
    have := eqv_len l
    simp only [eqv, List.flatMap_cons, List.length_append, List.length_cons, List.length_nil] at this ⊢
    omega
theorem eqv_app (l m : List (Nat × Nat)) : eqv (l ++ m) = eqv l ++ eqv m := List.flatMap_append
/-- The stack. -/
def EqAt (w : World) (B : Nat) (v : Value) (st : List (Nat × Nat)) : Prop := w.ownsRow B 137 2 v st.length (eqv st)
theorem EqAt.below {w w' : World} {B : Nat} {v : Value} {st : List (Nat × Nat)} (h : EqAt w B v st) (hb : Below w.heap.size w w') : EqAt w' B v st :=
  ownsRow_moved h fun g hg => hb.block g (h.lt g hg).2
theorem EqAt.top {w : World} {B : Nat} {v : Value} {st : List (Nat × Nat)} {l r : Nat} (h : EqAt w B v (st ++ [(l, r)])) :
    ∃ g cap, v = .slice (some ⟨g, 0, none⟩) (st.length + 1) cap ∧ w.cell? ⟨g, st.length * 2, none⟩ = some (.int .i64 (l : Int)) ∧ w.cell? ⟨g, st.length * 2 + 1, none⟩ = some (.int .i64 (r : Int)) ∧ EqAt w B (.slice (some ⟨g, 0, none⟩) st.length cap) st ∧ B ≤ g ∧ g < w.heap.size ∧ st.length + 1 ≤ cap ∧ cap ≤ maxLen ∧ w.frozen? ⟨g, st.length * 2, none⟩ = false := by
  unfold EqAt at h
  rw [List.length_append, List.length_singleton, eqv_app] at h
  obtain ⟨h0, ⟨_, h1⟩ | ⟨g, cap, cur, rfl, hb, hcur, h1, h2, h3, h4⟩⟩ := h
  · omega
  · have hel := eqv_len st
    have hget : ∀ j, j < (st.length + 1) * 2 → cur[j]? = (eqv st ++ eqv [(l, r)])[j]? := by
      intro j hj
      rw [← h4, List.getElem?_take_of_lt hj, Array.getElem?_toList]
    refine ⟨g, cap, rfl, ?_, ?_, ⟨by rw [hel], .inr ⟨g, cap, cur, rfl, hb, hcur, by omega, h2, h3, ?_⟩⟩, hb, ?_, h1, h2, ?_⟩
    · rw [cell_of_row w g _ cur _ _ hcur, hget _ (by omega), List.getElem?_append_right (by omega), hel, Nat.sub_self]; rfl
    · rw [cell_of_row w g _ cur _ _ hcur, hget _ (by omega), List.getElem?_append_right (by omega), hel, Nat.add_sub_cancel_left]; rfl
    · have := congrArg (List.take (st.length * 2)) h4
      rw [List.take_take, Nat.min_eq_left (by omega), List.take_append_of_le_length (by omega), List.take_of_length_le (l := eqv st) (by omega)] at this
      exact this
    · exact Blk.lt (w := w) (g := g) hcur
    · simp [World.frozen?, hcur]
theorem EqAt.form {w : World} {B : Nat} {v : Value} {st : List (Nat × Nat)} (h : EqAt w B v st) : ∃ A cap, v = .slice A st.length cap ∧ st.length ≤ cap ∧ cap ≤ maxLen := by
  obtain ⟨h0, ⟨rfl, h1⟩ | ⟨g, cap, cur, rfl, hb, hcur, h1, h2, h3, h4⟩⟩ := h
  · exact ⟨none, 0, by rw [h1], by omega, by unfold maxLen; omega⟩
  · exact ⟨_, cap, rfl, h1, h2⟩

def Fd.setP (F : Fd) (x y : Nat) : Fd := { F with prox := F.prox.set x y }
/-- A proxy may be stored. -/
theorem FAt.prxSet {w : World} {E : Nat → Prop} {fb : Nat} {S : Value} {F : Fd} (h : FAt w E fb S F) {k p : Nat} (hk : F.prox[k]? = some p) :
    ∃ g n c, w.cell? ⟨fb, 3, none⟩ = some (.slice (some ⟨g, 0, none⟩) n c) ∧ n = F.prox.length ∧ w.cell? ⟨g, k, none⟩ = some (.int .i64 (p : Int)) ∧ w.frozen? ⟨g, k, none⟩ = false ∧ ¬ E g ∧
      (∀ y : Nat, FAt (w.setCell ⟨g, k, none⟩ (.int .i64 (y : Int))) E fb S (F.setP k y)) ∧
      (∀ (B : Nat) (u v : Value) (st : List (Nat × Nat)), EqAt w B v st → EqAt (w.setCell ⟨g, k, none⟩ u) B v st) ∧ g ≠ fb := by
  obtain ⟨bm, vt, va, vp, ks, hM, hks⟩ := h
  obtain ⟨g, c, rfl, hg, _, _, _, h1, h2⟩ := hM.rows.cell (i := 1) rfl (cI_get hk)
  obtain ⟨cs, h3⟩ := row_type (hM.rows.row 1 _ _ rfl) (g := g) rfl
  refine ⟨g, _, c, hM.c.2.2.2.1, cI_len _, h1, h2, hg, fun y => ⟨bm, vt, va, .slice (some ⟨g, 0, none⟩) (cI F.prox).length c, ks, ?_, hks⟩, fun B u v st hst => ownsRow_moved hst fun q hq => ?_, fun e => ?_⟩
  · have := hM.setp (k := k) (x := (y : Int)) (gp := g) rfl
    rw [show (cI F.prox).set k (y : Int) = cI (F.prox.set k y) by simp [cI, List.map_set]] at this
    exact this
  · refine heap_setCell_other w ⟨g, k, none⟩ q u fun e => ?_
    obtain ⟨cs2, h4⟩ := row_type hst hq
    have e2 : q = g := e
    rw [e2, h3] at h4
    cases h4
  · have h4 := hM.blk
    rw [← e] at h4
    unfold Blk at h4
    rw [h3] at h4
    cases h4
/-- The arguments of a node, with their blocks. -/
theorem FAt.args2 {w : World} {E : Nat → Prop} {fb : Nat} {S : Value} {F : Fd} (h : FAt w E fb S F) {k : Nat} {al : List Nat} (hk : F.args[k]? = some al) :
    ∃ ga n c A ca, w.cell? ⟨fb, 2, none⟩ = some (.slice (some ⟨ga, 0, none⟩) n c) ∧ n = F.args.length ∧ w.cell? ⟨ga, k, none⟩ = some (.slice A al.length ca) ∧ al.length ≤ 9223372036854775807 ∧
      (∀ (j a : Nat), al[j]? = some a → ∃ g cs, A = some ⟨g, 0, none⟩ ∧ w.heap[g]? = some (.cells cs 3 (0, 0)) ∧ w.cell? ⟨g, j, none⟩ = some (.int .i64 (a : Int))) := by
  obtain ⟨bm, vt, va, vp, ks, hM, hks⟩ := h
  have hkl : ks.length = F.args.length := by
    have := congrArg List.length hks
    rwa [List.length_map, List.length_map] at this
  have hkk : k < ks.length := by have := (List.getElem?_eq_some_iff.1 hk).1; omega
  obtain ⟨v, us, hkn⟩ : ∃ v us, ks[k]? = some (v, us) := ⟨_, _, List.getElem?_eq_getElem hkk⟩
  have hus : us = cI al := by
    have h1 := congrArg (fun x => x[k]?) hks
    simp only [List.getElem?_map, hkn, hk, Option.map_some] at h1
    exact Option.some.inj h1
  subst hus
  obtain ⟨ga, ca, rfl, _, _, c1, _⟩ := hM.argAt hkn
  obtain ⟨Av, cv, rfl, l1, l2⟩ := hM.rows.head (i := k + 2) (by simpa using hkn)
  refine ⟨ga, _, ca, Av, cv, hM.c.2.2.1, hkl, by rw [c1, cI_len], by rw [cI_len] at l1; omega, fun j a ha => ?_⟩
  obtain ⟨g, c2, e, _, _, _, _, h1, _⟩ := hM.rows.cell (i := k + 2) (by simpa using hkn) (cI_get ha)
  cases e
  obtain ⟨cs, h2⟩ := row_type (hM.rows.row (k + 2) _ _ (by simpa using hkn)) rfl
  exact ⟨g, cs, rfl, h2, h1⟩

theorem FAt.topAll {w : World} {E : Nat → Prop} {fb : Nat} {S : Value} {F : Fd} (h : FAt w E fb S F) (h0 : 0 < F.tops.length) :
    ∃ g n c, w.cell? ⟨fb, 1, none⟩ = some (.slice (some ⟨g, 0, none⟩) n c) ∧ n = F.tops.length ∧ ∀ (k : Nat) (t : Int), F.tops[k]? = some t → w.cell? ⟨g, k, none⟩ = some (.int .i64 t) := by
  obtain ⟨bm, vt, va, vp, ks, hM, hks⟩ := h
  obtain ⟨g, c, rfl, _, _, _, _, _, _⟩ := hM.rows.cell (i := 0) rfl (List.getElem?_eq_getElem h0)
  refine ⟨g, _, c, hM.c.2.1, rfl, fun k t hk => ?_⟩
  obtain ⟨g', c', e, _, _, _, _, h1, _⟩ := hM.rows.cell (i := 0) rfl hk
  cases e
  exact h1
theorem Fd.Ok.setP {F : Fd} (h : F.Ok) {x y : Nat} (hy : y < F.tops.length) : (F.setP x y).Ok :=
  ⟨by simp [Fd.setP, h.pl], h.al, fun p hp => by
    rcases List.mem_or_eq_of_mem_set hp with h1 | rfl
    · exact h.pb p h1
    · exact hy, h.ab, h.vb, h.vl⟩

end Go.Proofs.Ytojofbmpknpggaa

namespace Go.Proofs.Ytojofbmpknpggaa
open Go.RowKit

theorem info_eq : (Try.prog.info? 137).map (fun i => (i.zero, i.size, i.bytes)) = some (some (.agg #[.int .i64 0, .int .i64 0]), 2, 16) := by kernel_rfl
set_option maxRecDepth 100000 in
set_option maxHeartbeats 2000000 in
theorem solve_any (E : Nat → Prop) (fb : Nat) (S : Value) (F F' : Fd) (m a b : Nat) (ok : Bool) (m2 : Nat) (en : Bool) (w : World) (h : FAt w E fb S F) (hF : F.Ok) (hE : ∀ b, E b → b < w.heap.size) (hn : F.tops.length ≤ 100000) (har : ∀ l ∈ F.args, l.length ≤ 3) (hm : m ≤ 1000000)
    (hs : solveF m [(a, b)] F = some (ok, F')) (hen : ok = true → endlessF F' m2 a = some en) :
    Calls Try.prog 102 #[.pointer (some ⟨fb, 0, none⟩), .int .i64 (a : Int), .int .i64 (b : Int)] w fun e w' => e = .returned (.bool (ok && !en)) ∧ FAt w' E fb S F' ∧ KeepE E w w' := by
  have HH := Lib.hid h
  have HS := Lib.hid hs
  have HEN := Lib.hid hen
  have HE := Lib.hid hE
  have HFF := Lib.hid hF
  clear h hs hen hE hF
  go_enter Try.func102, Try.ntmps102
  go_wp2
  go_loopg [7] m (fun g s1 wr => ∃ (st : List (Nat × Nat)) (Fj : Fd), EqAt wr w.heap.size s1 st ∧ FAt wr E fb S Fj ∧ Fj.Ok ∧ Fj.tops = F.tops ∧ Fj.args = F.args ∧ solveF g st Fj = some (ok, F') ∧ KeepE E w wr ∧ g ≤ m ∧ st.length + 3 * g ≤ 3 * m + 1)
  case atStart =>
    have hb := (Below.refl w.heap.size w).alloc (Nat.le_refl _) (.cells #[.int .i64 (a : Int), .int .i64 (b : Int)] 137)
    refine ⟨[(a, b)], F, ⟨rfl, .inr ⟨w.heap.size, 1, #[.int .i64 (a : Int), .int .i64 (b : Int)], rfl, Nat.le_refl _, heap_alloc_new w _, Nat.le_refl _, by unfold maxLen; omega, rfl, rfl⟩⟩, HH.out.below hb, HFF.out, rfl, rfl, HS.out, KeepE.of_below hb HE.out, Nat.le_refl _, by simp; omega⟩
  case round =>
    obtain ⟨st, Fj, hst, hA, hFj, htj, haj, hsj, hK, hgm, hbd⟩ := hrel
    cases gk with
    | zero => cases hsj
    | succ gk =>
    rcases List.eq_nil_or_concat st with rfl | ⟨st', p, rfl⟩
    · obtain ⟨A, cap, rfl, _, _⟩ := hst.form
      have hres : ok = true ∧ F' = Fj := by
        unfold solveF at hsj
        simp at hsj
        exact ⟨hsj.1, hsj.2.symm⟩
      obtain ⟨rfl, rfl⟩ := hres
      have hAg := HEN.out rfl
      have CE := Lib.hid (endless_any E fb S F' m2 a en wr hA hFj (hK.lt HE.out) (by rw [htj]; exact hn) hAg)
      have HA := Lib.hid hA
      have HK := Lib.hid hK
      have HEr := Lib.hid (hK.lt HE.out)
      clear hst hA hFj htj haj hsj hK hgm hbd hAg
      go_wp2_with (go_at_call 108; refine CE.out.mono ?_; rintro e w9 ⟨rfl, hB9⟩)
      go_ret
      exact ⟨rfl, HA.out.below hB9, HK.out.trans (KeepE.of_below hB9 HEr.out)⟩
    · obtain ⟨l, r⟩ := p
      rw [List.concat_eq_append] at hst hsj hbd
      obtain ⟨q, cap, rfl, q1, q2, hst', hq, hqs, hcap, hcm, _⟩ := hst.top
      unfold solveF at hsj
      rw [List.getLast?_concat] at hsj
      simp only [List.dropLast_concat] at hsj
      rw [List.length_append, List.length_singleton] at hbd
      cases hx : rootS Fj.prox gk l with
      | none => rw [hx] at hsj; cases hsj
      | some x =>
      cases hy : rootS Fj.prox gk r with
      | none => rw [hx, hy] at hsj; cases hsj
      | some y =>
      rw [hx, hy] at hsj
      simp only at hsj
      obtain ⟨n, hn0⟩ : ∃ n, st'.length = n := ⟨_, rfl⟩
      have HN0 := Lib.hid hn0
      rw [hn0] at hst' q1 q2 hcap hbd ⊢
      have hpl : Fj.prox.length ≤ 1000000 := by rw [hFj.pl, htj]; omega
      have hB1 : Below wr.heap.size wr (wr.alloc (.cells #[.int .i64 (l : Int), .int .i64 (r : Int)] 137)) := (Below.refl _ _).alloc (Nat.le_refl _) _
      have hBj : ∀ j, Below wr.heap.size wr ((wr.alloc (.cells #[.int .i64 (l : Int), .int .i64 (r : Int)] 137)).drewN j) := fun j => ⟨hB1.os, hB1.tape, hB1.output, hB1.size, hB1.block⟩
      have CX := Lib.hid (fun j => (root_any E fb S Fj gk l x _ (hA.below (hBj j)) hx hpl).mono (R' := fun e w' => e = .returned (.int .i64 (x : Int)) ∧ w' = _) (fun e w' h => ⟨h.1, h.2.symm⟩))
      have CY := Lib.hid (fun j => (root_any E fb S Fj gk r y _ (hA.below (hBj j)) hy hpl).mono (R' := fun e w' => e = .returned (.int .i64 (y : Int)) ∧ w' = _) (fun e w' h => ⟨h.1, h.2.symm⟩))
      have e1 : ((n + 1 : Nat) : Int) - 1 = (n : Int) := by omega
      have hn0' : (0 : Int) ≤ (n : Int) := by omega
      have HA := Lib.hid hA
      have HST := Lib.hid hst'
      have HSJ := Lib.hid hsj
      have HFJ := Lib.hid hFj
      have HTJ := Lib.hid htj
      have HAJ := Lib.hid haj
      have HK := Lib.hid hK
      have HBJ := Lib.hid hBj
      have HXY := Lib.hid (And.intro hx hy)
      clear hA hst hst' hsj hFj htj haj hK hBj hB1 hx hy hpl hn0
      go_wp2_with fail
      go_quiet ((go_at_call 107; (with_reducible first | exact Calls.quiet_of_same (CX.out _) | exact Calls.quiet_of_same (CY.out _))))
      generalize hW : World.drewN (wr.alloc _) _ = W2
      have hB2 : Below wr.heap.size wr W2 := by rw [← hW]; exact HBJ.out _
      have hA2 := HA.out.below hB2
      have HST2 := Lib.hid (HST.out.below hB2)
      have HK2 := Lib.hid (HK.out.trans (KeepE.of_below hB2 (HK.out.lt HE.out)))
      have hsj := HSJ.out
      have hxl : x < F.tops.length := by have h1 := (rootS_lt HXY.out.1).2.1; rw [HFJ.out.pl, HTJ.out] at h1; exact h1
      have hyl : y < F.tops.length := by have h1 := (rootS_lt HXY.out.2).2.1; rw [HFJ.out.pl, HTJ.out] at h1; exact h1
      have HA2 := Lib.hid hA2
      by_cases hxy : x = y
      · rw [if_pos hxy] at hsj
        have HX1 := Lib.hid hsj
        subst hxy
        clear hW hB2 hA2 hsj
        go_wp2
        go_roundg gk
        case measure => omega
        case rel => exact ⟨st', Fj, HST2.out, HA2.out, HFJ.out, HTJ.out, HAJ.out, HX1.out, HK2.out, by omega, by have := HN0.out; omega⟩
      · rw [if_neg hxy] at hsj
        obtain ⟨tx, htx⟩ : ∃ tx, F.tops[x]? = some tx := ⟨_, List.getElem?_eq_getElem hxl⟩
        obtain ⟨ty, hty⟩ : ∃ ty, F.tops[y]? = some ty := ⟨_, List.getElem?_eq_getElem hyl⟩
        rw [show Fj.tops[x]? = some tx by rw [HTJ.out]; exact htx, show Fj.tops[y]? = some ty by rw [HTJ.out]; exact hty] at hsj
        simp only at hsj
        obtain ⟨gt, nt, ct, t1, hnt, htc⟩ := hA2.topAll (by rw [HTJ.out]; omega)
        rw [HTJ.out] at hnt htc
        have tcx := htc x tx htx
        have tcy := htc y ty hty
        have hbn : ((x : Int) == (y : Int)) = false := by simp; omega
        have hx0 : (0 : Int) ≤ (x : Int) := by omega
        have hy0 : (0 : Int) ≤ (y : Int) := by omega
        have hx1 : (x : Int) < (nt : Int) := by omega
        have hy1 : (y : Int) < (nt : Int) := by omega
        have hxi : ¬ (x : Int) = (y : Int) := by omega
        by_cases ht1 : ty < 0
        · simp only [if_pos ht1] at hsj
          obtain ⟨pv, hpv⟩ : ∃ pv, Fj.prox[y]? = some pv := ⟨_, List.getElem?_eq_getElem (by rw [HFJ.out.pl, HTJ.out]; exact hyl)⟩
          obtain ⟨gp, np, cp, p1, hnp, p2, p3, p4, p5, p6, p7⟩ := hA2.prxSet hpv
          clear hpv
          rw [HFJ.out.pl, HTJ.out] at hnp
          have hy2 : (y : Int) < (np : Int) := by omega
          obtain ⟨W3, hW3⟩ : ∃ W3, W2.setCell ⟨gp, y, none⟩ (.int .i64 (x : Int)) = W3 := ⟨_, rfl⟩
          have hA3 := p5 x
          have hK3 := HK2.out.trans (KeepE.set (p := ⟨gp, y, none⟩) p4 (.int .i64 (x : Int)))
          have hS3 := p6 _ (.int .i64 (x : Int)) _ _ HST2.out
          rw [hW3] at hA3 hK3 hS3
          obtain ⟨gt3, nt3, ct3, s1, hnt3, hs3⟩ := hA3.topAll (by show 0 < Fj.tops.length; rw [HTJ.out]; omega)
          have hnt4 : nt3 = F.tops.length := hnt3.trans (by show Fj.tops.length = _; rw [HTJ.out])
          have s2 := hs3 y ty (by show Fj.tops[y]? = _; rw [HTJ.out]; exact hty)
          have hy3 : (y : Int) < (nt3 : Int) := by omega
          have HX1 := Lib.hid hsj
          have HA3 := Lib.hid hA3
          have HK3 := Lib.hid hK3
          have HS3 := Lib.hid hS3
          have HTX := Lib.hid hxl
          clear hW hB2 hA2 hsj htc hnt p5 p6 hA3 hK3 hS3 hnt3 hs3 hnt4 hnp htx hty hxl hyl
          go_wp2
          go_roundg gk
          case measure => omega
          case rel => exact ⟨st', _, HS3.out, HA3.out, HFJ.out.setP (by rw [HTJ.out]; exact HTX.out), HTJ.out, HAJ.out, HX1.out, HK3.out, by omega, by have := HN0.out; omega⟩
        · simp only [if_neg ht1] at hsj
          obtain ⟨pv, hpv⟩ : ∃ pv, Fj.prox[x]? = some pv := ⟨_, List.getElem?_eq_getElem (by rw [HFJ.out.pl, HTJ.out]; exact hxl)⟩
          obtain ⟨gp, np, cp, p1, hnp, p2, p3, p4, p5, p6, p7⟩ := hA2.prxSet hpv
          clear hpv
          rw [HFJ.out.pl, HTJ.out] at hnp
          have hy2 : (x : Int) < (np : Int) := by omega
          obtain ⟨W3, hW3⟩ : ∃ W3, W2.setCell ⟨gp, x, none⟩ (.int .i64 (y : Int)) = W3 := ⟨_, rfl⟩
          have hA3 := p5 y
          have hK3 := HK2.out.trans (KeepE.set (p := ⟨gp, x, none⟩) p4 (.int .i64 (y : Int)))
          have hS3 := p6 _ (.int .i64 (y : Int)) _ _ HST2.out
          rw [hW3] at hA3 hK3 hS3
          obtain ⟨gt3, nt3, ct3, s1, hnt3, hs3⟩ := hA3.topAll (by show 0 < Fj.tops.length; rw [HTJ.out]; omega)
          have hnt4 : nt3 = F.tops.length := hnt3.trans (by show Fj.tops.length = _; rw [HTJ.out])
          have s2 := hs3 x tx (by show Fj.tops[x]? = _; rw [HTJ.out]; exact htx)
          have s3 := hs3 y ty (by show Fj.tops[y]? = _; rw [HTJ.out]; exact hty)
          have hy3 : (y : Int) < (nt3 : Int) := by omega
          have hx3 : (x : Int) < (nt3 : Int) := by omega
          have HA3 := Lib.hid hA3
          have HK3 := Lib.hid hK3
          have HS3 := Lib.hid hS3
          have HTY := Lib.hid hyl
          have HTX := Lib.hid hxl
          by_cases ht2 : tx < 0
          · rw [if_pos ht2] at hsj
            have HX1 := Lib.hid hsj
            clear hW hB2 hA2 hsj htc hnt p5 p6 hA3 hK3 hS3 hnt3 hs3 hnt4 hnp htx hty hxl hyl
            go_wp2
            go_roundg gk
            case measure => omega
            case rel => exact ⟨st', _, HS3.out, HA3.out, HFJ.out.setP (by rw [HTJ.out]; exact HTY.out), HTJ.out, HAJ.out, HX1.out, HK3.out, by omega, by have := HN0.out; omega⟩
          · rw [if_neg ht2] at hsj
            by_cases ht3 : tx = ty
            · rw [if_pos ht3] at hsj
              subst ht3
              rw [HAJ.out] at hsj
              cases hax : F.args[x]? with
              | none => rw [hax] at hsj; cases hsj
              | some ax =>
              cases hay : F.args[y]? with
              | none => rw [hax, hay] at hsj; cases hsj
              | some ay =>
              rw [hax, hay] at hsj
              simp only at hsj
              by_cases hal : ax.length ≤ ay.length
              · rw [if_pos hal] at hsj
                have hsj' : solveF gk (st' ++ ax.zip ay) (Fj.setP x y) = some (ok, F') := by
                  rw [← HAJ.out] at hsj
                  exact hsj
                have HX1 := Lib.hid hsj'
                obtain ⟨nx, hnx⟩ : ∃ nx, ax.length = nx := ⟨_, rfl⟩
                have hnx3 : nx ≤ 3 := by rw [← hnx]; exact har ax (List.mem_of_getElem? hax)
                obtain ⟨ga, na, ca, A, caa, a1, hna, a2, _, hargs⟩ := hA3.args2 (k := x) (al := ax) (by show Fj.args[x]? = _; rw [HAJ.out]; exact hax)
                rw [hnx] at a2
                have hxa : (x : Int) < (na : Int) := by
                  have h1 := (List.getElem?_eq_some_iff.1 hax).1
                  have h2 : na = F.args.length := hna.trans (by show Fj.args.length = _; rw [HAJ.out])
                  omega
                have HARG := Lib.hid hargs
                have HAY := Lib.hid (show (Fj.setP x y).args[y]? = some ay by show Fj.args[y]? = _; rw [HAJ.out]; exact hay)
                have HNX := Lib.hid hnx
                have HAL := Lib.hid hal
                have hbn3 : ((tx : Int) != (tx : Int)) = false := by simp
                have hyl2 := (List.getElem?_eq_some_iff.1 hay).1
                have HYL2 := Lib.hid hyl2
                obtain ⟨i0, hi, hz0, hz1, hz2⟩ := info_parts info_eq
                have HEr := Lib.hid (HK3.out.lt HE.out)
                clear hW hB2 hA2 hsj hsj' htc hnt p5 p6 hA3 hK3 hS3 hnt3 hs3 hnt4 hnp htx hty hxl hyl hargs hna hnx hax hay hal hyl2
                go_wp2
                go_quiet (fail)
                go_wp2
                have hbd3 := below_drewN (Below.refl W3.heap.size W3)
                generalize hW4 : W3.drewN _ = W4
                have HB4 := Lib.hid (show Below W3.heap.size W3 W4 by rw [← hW4]; exact hbd3 _)
                clear hbd3 hW4
                go_loopw [7, 90] (fun s7 c w5 => ∃ j : Nat, c = .int .i64 j ∧ j ≤ nx ∧ EqAt w5 w.heap.size s7 (st' ++ (ax.zip ay).take j) ∧ KT 137 W3 w5 ∧ KeepE E w w5) (fun _ c _ => nx - (intOf c).toNat)
                case atStart =>
                  exact ⟨0, rfl, Nat.zero_le _, by rw [List.take_zero, List.append_nil]; exact HS3.out.below HB4.out, KT.below HB4.out, HK3.out.trans (KeepE.of_below HB4.out HEr.out)⟩
                case round =>
                  obtain ⟨j, rfl, hj, hsE, hkt, hkE⟩ := hrel
                  obtain ⟨A7, c7, rfl, hc7, hc7m⟩ := hsE.form
                  have hzl : (ax.zip ay).length = nx := by rw [List.length_zip, HNX.out]; have := HAL.out; rw [HNX.out] at this; omega
                  have hstl : (st' ++ (ax.zip ay).take j).length = n + j := by rw [List.length_append, HN0.out, List.length_take, hzl]; omega
                  rw [hstl] at hc7
                  by_cases hjx : j < nx
                  · have hjax : j < ax.length := by have := HNX.out; omega
                    have hjay : j < ay.length := by have := HAL.out; omega
                    obtain ⟨g, cs, rfl, hg1, hg2⟩ := HARG.out j _ (List.getElem?_eq_getElem hjax)
                    obtain ⟨av, hav⟩ : ∃ av, ax[j] = av := ⟨_, rfl⟩
                    obtain ⟨bv, hbv⟩ : ∃ bv, ay[j] = bv := ⟨_, rfl⟩
                    rw [hav] at hg2
                    have hcx : wr.cell? ⟨g, j, none⟩ = some (.int .i64 (av : Int)) := (World.cell?_of_block ((hkt g _ hg1 (fun cs z e => by cases e)).trans hg1.symm)).trans hg2
                    have hA5 := HA3.out.kt hkt rfl
                    obtain ⟨gb, nb, cb, Ab, cbb, f1, hnb, f2, hyl3, hargy⟩ := hA5.args2 HAY.out
                    obtain ⟨g', cs', rfl, _, f3⟩ := hargy j _ (List.getElem?_eq_getElem hjay)
                    rw [hbv] at f3
                    have hnb2 : (y : Int) < (nb : Int) := by
                      have h2 : nb = F.args.length := hnb.trans (by show Fj.args.length = _; rw [HAJ.out])
                      have := HYL2.out
                      omega
                    obtain ⟨ly, hly⟩ : ∃ ly, ay.length = ly := ⟨_, rfl⟩
                    rw [hly] at f2 hjay
                    have hj0 : (0 : Int) ≤ (j : Int) := by omega
                    have hj1 : (j : Int) < (nx : Int) := by omega
                    have hj2 : (j : Int) < (ly : Int) := by omega
                    have hzj : (ax.zip ay)[j]? = some (av, bv) := by
                      rw [List.getElem?_zip_eq_some]
                      exact ⟨by rw [← hav]; exact List.getElem?_eq_getElem hjax, by rw [← hbv]; exact List.getElem?_eq_getElem (by omega)⟩
                    have htk : (ax.zip ay).take (j + 1) = (ax.zip ay).take j ++ [(av, bv)] := by
                      rw [List.take_add_one, hzj]; rfl
                    have HTK := Lib.hid htk
                    have HSE := Lib.hid hsE
                    have HKT := Lib.hid hkt
                    have HKE := Lib.hid hkE
                    have HST0 := Lib.hid hstl
                    have hbase : w.heap.size ≤ wr.heap.size := hkE.size
                    have hrow : wr.ownsRow w.heap.size 137 2 (.slice A7 (n + j) c7) (n + j) (eqv (st' ++ (ax.zip ay).take j)) := by
                      have := hsE
                      unfold EqAt at this
                      rw [hstl] at this
                      exact this
                    have HROW := Lib.hid (hrow.alloc (.cells #[.int .i64 (av : Int), .int .i64 (bv : Int)] 137))
                    have HB6 := Lib.hid ((Below.refl wr.heap.size wr).alloc (Nat.le_refl _) (.cells #[.int .i64 (av : Int), .int .i64 (bv : Int)] 137))
                    rw [hstl]
                    clear hjax hav hbv hg1 hg2 hA5 hnb hargy hly hzj htk hsE hkt hkE hzl hrow hstl
                    go_wp2_with (at_builtin
                                 refine wpList_append_own_at _ rfl _ _ 138 rfl w.heap.size 137 i0 _ 2 16 Try.underlying138 hi hz0 hz1 hz2 rfl (by omega) (.slice A7 (n + j) c7) (n + j) (eqv (st' ++ (ax.zip ay).take j)) rfl HROW.out ⟨wr.heap.size, 0, none⟩ 1 1 [.int .i64 (av : Int), .int .i64 (bv : Int)] rfl rfl
                                   (World.news_of_block (cs := #[.int .i64 (av : Int), .int .i64 (bv : Int)]) (t := 137) (fr := (0, 0)) (heap_alloc_new wr _)) (by simp [Value.oneCell']) (by unfold maxLen; omega) (by omega) (by simp; omega) ?_
                                 intro v6 w6 hown6 hg6 _ hv6
                                 have HOWN6 := Lib.hid hown6
                                 have HKT6 := Lib.hid ((HKT.out.trans (KT.below HB6.out)).trans (KT.grown HROW.out hg6))
                                 have HKE6 := Lib.hid ((HKE.out.trans (KeepE.of_below HB6.out (HKE.out.lt HE.out))).trans (KeepE.of_grown hg6 ((HKE.out.trans (KeepE.of_below HB6.out (HKE.out.lt HE.out))).lt HE.out) (fun g e he => by
                                   have h1 := (HROW.out.lt g e).1
                                   have h2 := HE.out g he
                                   omega)))
                                 clear hown6 hg6 hv6)
                    go_roundw
                    case rel =>
                      refine ⟨j + 1, by go_num, by omega, ?_, HKT6.out, HKE6.out⟩
                      have h1 := HOWN6.out
                      unfold EqAt
                      rw [HTK.out, ← List.append_assoc, List.length_append, HST0.out, eqv_app]
                      exact h1
                    case measure => simp [intOf]; omega
                  · obtain rfl : j = nx := by omega
                    have hze : (ax.zip ay).take j = ax.zip ay := by rw [← hzl]; exact List.take_length
                    rw [hze] at hsE hstl
                    have HSE := Lib.hid hsE
                    have HST0 := Lib.hid hstl
                    have HA5 := Lib.hid (HA3.out.kt hkt rfl)
                    have HKE := Lib.hid hkE
                    have hjn : ¬ (j : Int) < (j : Int) := by omega
                    rw [hze, hstl]
                    have HYL := Lib.hid (show y < F.tops.length by have h1 := HYL2.out; have h2 := HFF.out.al; omega)
                    clear hsE hkt hkE hzl hze hstl
                    go_wp2
                    go_roundg gk
                    case measure => omega
                    case rel => exact ⟨st' ++ ax.zip ay, _, by have h1 := HSE.out; rw [HST0.out] at h1; exact h1, HA5.out, HFJ.out.setP (by rw [HTJ.out]; exact HYL.out), HTJ.out, HAJ.out, HX1.out, HKE.out, by omega, by have h1 := HST0.out; omega⟩
              · rw [if_neg hal] at hsj
                cases hsj
            · rw [if_neg ht3] at hsj
              have HX1 := Lib.hid (show false = ok ∧ Fj.setP x y = F' by have hq := Prod.mk.inj (Option.some.inj hsj); exact ⟨hq.1, hq.2⟩)
              have hbn3 : ((tx : Int) != (ty : Int)) = true := by simp; omega
              clear hW hB2 hA2 hsj htc hnt p5 p6 hA3 hK3 hS3 hnt3 hs3 hnt4 hnp htx hty hxl hyl
              go_wp2
              go_quiet (fail)
              go_wp2
              go_ret
              have hbd3 := below_drewN (Below.refl W3.heap.size W3)
              exact ⟨by rw [← HX1.out.1]; rfl, by rw [← HX1.out.2]; exact HA3.out.below (hbd3 _), HK3.out.drewN _⟩

end Go.Proofs.Ytojofbmpknpggaa
