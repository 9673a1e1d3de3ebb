/- Contracts: Join at any terms, the reference's Join. -/
import Derived.Test.YtgbfccbnbgbknaaN26g
import Derived.Test.YtgbfccbnbgbknaaN23g
/- Words: what the reference's Common has at the head of a round. -/
namespace Go.Proofs.Ytgbfccbnbgbknaa
open Go.RowKit

theorem but_other {w w' : World} {g g2 : Option Nat} {A : Option Addr} {n : Nat} {zs : List Int} (h : IntsBut w g A n zs) (h2 : IntsBut w g2 A n zs) (hg : w.grownBy w' g) : IntsBut w' g2 A n zs :=
  ⟨h.len, h.max, fun hn => by
    obtain ⟨b, off, e, hb, hne, hc⟩ := h.mem hn
    obtain ⟨b2, off2, e2, hb2, hne2, hc2⟩ := h2.mem hn
    rw [e] at e2
    cases e2
    exact ⟨b, off, e, Nat.lt_of_lt_of_le hb hg.size, hne2, fun j hj => (World.cell?_of_block (hg.block b hb hne)).trans (hc j hj)⟩⟩
theorem rows_ne {w : World} {base : Nat} {e1 e2 : TypeId} {s1 s2 n1 n2 : Nat} {v1 v2 : Value} {x1 x2 : List Value} (h1 : w.ownsRow base e1 s1 v1 n1 x1) (h2 : w.ownsRow base e2 s2 v2 n2 x2) (hne : e1 ≠ e2) : v2.ownBlock = none ∨ v2.ownBlock ≠ v1.ownBlock := by
  cases e : v2.ownBlock with
  | none => exact .inl rfl
  | some g =>
    refine .inr fun e3 => ?_
    obtain ⟨c1, k1⟩ := row_cells2 h1 e3.symm
    obtain ⟨c2, k2⟩ := row_cells2 h2 e
    rw [k1] at k2
    cases k2
    exact hne rfl
/-- The rows of Common: the numbers, the left parts, the right parts. -/
structure CAt (w0 W : World) (v7 v8 v9 : Value) (t : List Int) (lt rt : List (List Int)) (ls rs : List Hd) : Prop where
  bel : Below w0.heap.size w0 W
  out : W.ownsRow w0.heap.size 3 1 v7 t.length (t.map (Value.int .i64))
  left : RowsAt 25 W w0.heap.size v8 lt.length ls lt
  right : RowsAt 25 W w0.heap.size v9 rt.length rs rt
  ne : v9.ownBlock = none ∨ v9.ownBlock ≠ v8.ownBlock
  l7 : ∀ j (h : j < ls.length) (h' : j < lt.length), IntsBut W v7.ownBlock ls[j].1 ls[j].2.1 lt[j]
  l9 : ∀ j (h : j < ls.length) (h' : j < lt.length), IntsBut W v9.ownBlock ls[j].1 ls[j].2.1 lt[j]
  r7 : ∀ j (h : j < rs.length) (h' : j < rt.length), IntsBut W v7.ownBlock rs[j].1 rs[j].2.1 rt[j]
  r8 : ∀ j (h : j < rs.length) (h' : j < rt.length), IntsBut W v8.ownBlock rs[j].1 rs[j].2.1 rt[j]
section
variable {w0 W W' : World} {v7 v8 v9 v' : Value} {t : List Int} {lt rt : List (List Int)} {ls rs : List Hd}
theorem CAt.start (w : World) : CAt w w (.slice none 0 0) (.slice none 0 0) (.slice none 0 0) [] [] [] [] [] :=
  ⟨Below.refl _ _, World.ownsRow_nil _ _ _ _, RowsAt.nil _ _ _, RowsAt.nil _ _ _, .inl rfl, fun j h => by simp at h, fun j h => by simp at h, fun j h => by simp at h, fun j h => by simp at h⟩
theorem CAt.below (h : CAt w0 W v7 v8 v9 t lt rt ls rs) (hb : Below W.heap.size W W') : CAt w0 W' v7 v8 v9 t lt rt ls rs :=
  ⟨below_then h.bel hb, row_below h.out hb, h.left.below hb, h.right.below hb, h.ne, fun j a b => (h.l7 j a b).below hb, fun j a b => (h.l9 j a b).below hb, fun j a b => (h.r7 j a b).below hb, fun j a b => (h.r8 j a b).below hb⟩
theorem row_grown {base : Nat} {e : TypeId} {n : Nat} {v : Value} {xs : List Value} {row : Option Nat} (h : W.ownsRow base e 1 v n xs) (hg : W.grownBy W' row) (hr : v.ownBlock = none ∨ v.ownBlock ≠ row) : W'.ownsRow base e 1 v n xs := h.kept hg hr
theorem own_lt {base : Nat} {e : TypeId} {n : Nat} {v : Value} {xs : List Value} (h : W.ownsRow base e 1 v n xs) {g : Nat} (hg : v.ownBlock = some g) : g < W.heap.size := (h.lt g hg).2
theorem RowsAt.grown {base k : Nat} {v : Value} {l : List Hd} {tt : List (List Int)} {row : Option Nat} (h : RowsAt 25 W base v k l tt) (hg : W.grownBy W' row) (hr : v.ownBlock = none ∨ v.ownBlock ≠ row) (hp : ∀ j (a : j < l.length) (b : j < tt.length), IntsBut W row l[j].1 l[j].2.1 tt[j]) : RowsAt 25 W' base v k l tt :=
  ⟨h.row.kept hg hr, h.len, fun j a b => but_other (hp j a b) (h.each j a b) hg⟩
theorem CAt.bel_grown (h : CAt w0 W v7 v8 v9 t lt rt ls rs) {row : Option Nat} (hg : W.grownBy W' row) (hr : ∀ g, row = some g → w0.heap.size ≤ g) : Below w0.heap.size w0 W' := h.bel.grown hg h.bel.size hr
/-- A number is put behind the others. -/
theorem CAt.push7 (h : CAt w0 W v7 v8 v9 t lt rt ls rs) {x : Int} (hrow : W'.ownsRow w0.heap.size 3 1 v' (t.length + 1) (t.map (Value.int .i64) ++ [.int .i64 x])) (hg : W.grownBy W' v7.ownBlock) (hv : v'.ownBlock = v7.ownBlock ∨ v'.ownBlock = some W.heap.size) : CAt w0 W' v' v8 v9 (t ++ [x]) lt rt ls rs := by
  have n8 := rows_ne h.out h.left.row (by decide)
  have n9 := rows_ne h.out h.right.row (by decide)
  exact ⟨h.bel_grown hg (fun g e => (h.out.lt g e).1), by simpa using hrow, h.left.grown hg n8 h.l7, h.right.grown hg n9 h.r7, h.ne, fun j a b => (h.l7 j a b).grown hg hv, fun j a b => but_other (h.l7 j a b) (h.l9 j a b) hg, fun j a b => (h.r7 j a b).grown hg hv, fun j a b => but_other (h.r7 j a b) (h.r8 j a b) hg⟩
/-- A part is put behind the left ones. -/
theorem CAt.push8 (h : CAt w0 W v7 v8 v9 t lt rt ls rs) {x : Hd} {p : List Int} (h7 : IntsBut W v7.ownBlock x.1 x.2.1 p) (h8 : IntsBut W v8.ownBlock x.1 x.2.1 p) (h9 : IntsBut W v9.ownBlock x.1 x.2.1 p)
    (hrow : W'.ownsRow w0.heap.size 25 1 v' (lt.length + 1) (ls.map Hd.val ++ [x.val])) (hg : W.grownBy W' v8.ownBlock) (hv : v'.ownBlock = v8.ownBlock ∨ v'.ownBlock = some W.heap.size) : CAt w0 W' v7 v' v9 t (lt ++ [p]) rt (ls ++ [x]) rs := by
  have hll := h.left.ll
  have n7 : v7.ownBlock = none ∨ v7.ownBlock ≠ v8.ownBlock := rows_ne h.left.row h.out (by decide)
  have hpush := h.left.push h8 hrow hg hv
  have key : ∀ (g : Option Nat) (_ : IntsBut W g x.1 x.2.1 p) (_ : ∀ j (a : j < ls.length) (b : j < lt.length), IntsBut W g ls[j].1 ls[j].2.1 lt[j]), ∀ j (a : j < (ls ++ [x]).length) (b : j < (lt ++ [p]).length), IntsBut W' g (ls ++ [x])[j].1 (ls ++ [x])[j].2.1 (lt ++ [p])[j] := fun g hx hl j a b => by
    by_cases hj : j < ls.length
    · rw [List.getElem_append_left hj, List.getElem_append_left (by omega)]
      exact but_other (h.left.each j hj (by omega)) (hl j hj (by omega)) hg
    · have : j = ls.length := by simp at a; omega
      subst this
      rw [List.getElem_append_right (by omega), List.getElem_append_right (by omega)]
      simp only [hll, Nat.sub_self, List.getElem_cons_zero]
      exact but_other h8 hx hg
  refine ⟨h.bel_grown hg (fun g e => (h.left.row.lt g e).1), h.out.kept hg n7, by rw [List.length_append]; exact hpush, h.right.grown hg h.ne h.r8, ?_, key _ h7 h.l7, key _ h9 h.l9, fun j a b => but_other (h.r8 j a b) (h.r7 j a b) hg, fun j a b => (h.r8 j a b).grown hg hv⟩
  rcases hv with e | e
  · rw [e]; exact h.ne
  · cases e9 : v9.ownBlock with
    | none => exact .inl rfl
    | some g => exact .inr fun e2 => by rw [e] at e2; have := own_lt h.right.row e9; cases e2; omega
/-- A part is put behind the right ones. -/
theorem CAt.push9 (h : CAt w0 W v7 v8 v9 t lt rt ls rs) {x : Hd} {p : List Int} (h7 : IntsBut W v7.ownBlock x.1 x.2.1 p) (h8 : IntsBut W v8.ownBlock x.1 x.2.1 p) (h9 : IntsBut W v9.ownBlock x.1 x.2.1 p)
    (hrow : W'.ownsRow w0.heap.size 25 1 v' (rt.length + 1) (rs.map Hd.val ++ [x.val])) (hg : W.grownBy W' v9.ownBlock) (hv : v'.ownBlock = v9.ownBlock ∨ v'.ownBlock = some W.heap.size) : CAt w0 W' v7 v8 v' t lt (rt ++ [p]) ls (rs ++ [x]) := by
  have hll := h.right.ll
  have n7 : v7.ownBlock = none ∨ v7.ownBlock ≠ v9.ownBlock := rows_ne h.right.row h.out (by decide)
  have n8 : v8.ownBlock = none ∨ v8.ownBlock ≠ v9.ownBlock := by
    cases e : v8.ownBlock with
    | none => exact .inl rfl
    | some g =>
      refine .inr fun e2 => ?_
      rcases h.ne with h0 | h0
      · rw [h0] at e2; cases e2
      · exact h0 (by rw [← e2, e])
  have hpush := h.right.push h9 hrow hg hv
  have key : ∀ (g : Option Nat) (_ : IntsBut W g x.1 x.2.1 p) (_ : ∀ j (a : j < rs.length) (b : j < rt.length), IntsBut W g rs[j].1 rs[j].2.1 rt[j]), ∀ j (a : j < (rs ++ [x]).length) (b : j < (rt ++ [p]).length), IntsBut W' g (rs ++ [x])[j].1 (rs ++ [x])[j].2.1 (rt ++ [p])[j] := fun g hx hl j a b => by
    by_cases hj : j < rs.length
    · rw [List.getElem_append_left hj, List.getElem_append_left (by omega)]
      exact but_other (h.right.each j hj (by omega)) (hl j hj (by omega)) hg
    · have : j = rs.length := by simp at a; omega
      subst this
      rw [List.getElem_append_right (by omega), List.getElem_append_right (by omega)]
      simp only [hll, Nat.sub_self, List.getElem_cons_zero]
      exact but_other h9 hx hg
  refine ⟨h.bel_grown hg (fun g e => (h.right.row.lt g e).1), h.out.kept hg n7, h.left.grown hg n8 h.l9, by rw [List.length_append]; exact hpush, ?_, fun j a b => but_other (h.l9 j a b) (h.l7 j a b) hg, fun j a b => (h.l9 j a b).grown hg hv, key _ h7 h.r7, key _ h8 h.r8⟩
  rcases hv with e | e
  · rw [e]; exact h.ne
  · refine .inr fun e2 => ?_
    rw [e] at e2
    have := own_lt h.left.row e2.symm
    omega
end

end Go.Proofs.Ytgbfccbnbgbknaa

/- Contract: the reference's Common. -/
namespace Go.Proofs.Ytgbfccbnbgbknaa
open Go.RowKit

theorem idx_here {met : List Two} {x : Two} {at' : Nat} (h1 : ∀ j (h : j < met.length), j < at' → met[j] ≠ x) (h2 : at' < met.length → met[at']? = some x) (h3 : at' ≤ met.length) : met.idxOf x = at' := by
  rcases Nat.lt_or_ge at' met.length with hlt | hge
  · have h4 := h2 hlt
    rw [List.getElem?_eq_getElem hlt] at h4
    have h5 := Option.some.inj h4
    have hm : x ∈ met := by rw [← h5]; exact List.getElem_mem hlt
    have hi := List.idxOf_lt_length_of_mem hm
    have hg := List.getElem_idxOf hi
    rcases Nat.lt_trichotomy (met.idxOf x) at' with h | h | h
    · exact absurd hg (h1 _ hi h)
    · exact h
    · have : ∀ (l : List Two) (k : Nat) (hk : k < l.length), l[k] = x → l.idxOf x ≤ k := by
        intro l
        induction l with
        | nil => intro k hk; simp at hk
        | cons y l ih =>
          intro k hk e
          rw [List.idxOf_cons]
          by_cases hy : y = x
          · subst hy; simp
          · have b1 : (y == x) = false := beq_eq_false_iff_ne.2 hy
            rw [b1]
            cases k with
            | zero => exact absurd e hy
            | succ k =>
              have := ih k (by simpa using hk) (by simpa using e)
              simp only [cond_false]
              omega
      have := this met at' hlt h5
      omega
  · have hn : x ∉ met := fun hm => by
      have hi := List.idxOf_lt_length_of_mem hm
      exact h1 _ hi (by omega) (List.getElem_idxOf hi)
    have : met.idxOf x = met.length := List.idxOf_eq_length hn
    omega
theorem info_termC : (Try.prog.info? 25).map (fun i => (i.zero, i.size, i.bytes)) = some (some (.slice none 0 0), 1, 24) := by kernel_rfl
theorem meet1_new {met : List Two} {x : Two} (h : met.idxOf x = met.length) : meet1 met x = met ++ [x] ∧ (meet1 met x).idxOf x = met.length := by
  have hn : x ∉ met := fun hm => by have := List.idxOf_lt_length_of_mem hm; omega
  have e : meet1 met x = met ++ [x] := by
    unfold meet1; rw [if_neg (fun hh => hn (List.contains_iff_mem.1 hh))]
  refine ⟨e, ?_⟩
  rw [e, List.idxOf_append, if_neg hn]
  simp
theorem meet1_old {met : List Two} {x : Two} (h : met.idxOf x < met.length) : meet1 met x = met := by
  have hm : x ∈ met := List.idxOf_lt_length_iff.1 h
  unfold meet1; rw [if_pos (List.contains_iff_mem.2 hm)]

set_option maxRecDepth 100000 in
set_option maxHeartbeats 8000000 in
theorem refCommon_any (As Aa Ab : Option Addr) (ns cs na ca nb cb : Nat) (ss : Sg) (za zb : List Int) (w : World) (hs : SigAt w w.heap.size As ns ss) (ha : IntsAt w w.heap.size Aa na za) (hb : IntsAt w w.heap.size Ab nb zb)
    (hca : na ≤ ca) (hca2 : ca ≤ 9223372036854775807) (hcb : nb ≤ cb) (hcb2 : cb ≤ 9223372036854775807) (har : ArOk ss) (hha : HeadsOk ss za) (hhb : HeadsOk ss zb) (hsa : scan ss 1 za = some []) (hsb : scan ss 1 zb = some []) (h60a : na ≤ 60) (h60b : nb ≤ 60) (R : List Int × List Two) (hR : comF ss na za zb [] = R) :
    Calls Try.prog 125 #[.slice As ns cs, .slice Aa na ca, .slice Ab nb cb] w fun e w' =>
      ∃ A c, e = .returned (.slice A R.1.length c) ∧ IntsAt w' w'.heap.size A R.1.length R.1 ∧ (R.1.length ≤ c ∧ c ≤ 9223372036854775807) ∧ Below w.heap.size w w' := by
  obtain ⟨i0, hi, hz0, hz1, hz2⟩ := info_parts info_int
  obtain ⟨j0, hj, hy0, hy1, hy2⟩ := info_parts info_termC
  have HS := Lib.hid hs
  have HA := Lib.hid ha
  have HB := Lib.hid hb
  have HLA := Lib.hid ha.len
  have HLB := Lib.hid hb.len
  have HAR := Lib.hid har
  have HHA := Lib.hid hha
  have HHB := Lib.hid hhb
  have HG0 : Hid (ComGoes ss na za zb 0 0 [] [] R) := Lib.hid ⟨by have := ha.len; omega, by simpa using hR⟩
  have HS0 : Hid (Side ss za zb 0 0) := Lib.hid (Side.first hsa hsb)
  clear hs ha hb har hha hhb hsa hsb hR
  go_enter Try.func125, Try.ntmps125
  go_wp2
  go_loopw [7, 8, 9, 10, 11] (fun s7 s8 s9 s10 s11 wr => ∃ (i k f : Nat) (t : List Int) (met : List Two) (ls rs : List Hd), s10 = .int .i64 i ∧ s11 = .int .i64 k ∧ i ≤ na ∧ k ≤ nb ∧ t.length ≤ i ∧ met.length ≤ t.length ∧ Hid (ComGoes ss f za zb i k t met R) ∧ Hid (Side ss za zb i k) ∧ CAt w wr s7 s8 s9 t (met.map (·.1)) (met.map (·.2)) ls rs) (fun _ _ _ s10 _ _ => na - (intOf s10).toNat)
  case atStart => exact ⟨0, 0, na, [], [], [], [], rfl, rfl, Nat.zero_le _, Nat.zero_le _, Nat.le_refl _, Nat.le_refl _, HG0, HS0, CAt.start w⟩
  case round =>
    obtain ⟨i, k, f, t, met, ls, rs, rfl, rfl, hin, hkn, hti, hml, hG, hSd, hC⟩ := hrel
    obtain ⟨A7, c7, rfl, _⟩ := row_ints hC.out (by omega)
    obtain ⟨A8, c8, e8, _⟩ := hC.left.terms (by rw [List.length_map]; omega)
    rw [List.length_map] at e8
    subst e8
    obtain ⟨A9, c9, e9, _⟩ := hC.right.terms (by rw [List.length_map]; omega)
    rw [List.length_map] at e9
    subst e9
    have HC := Lib.hid hC
    by_cases hlt : i < na
    · obtain ⟨hk, hsame, hpa, hpb, hside⟩ := hSd.out.step (by rw [← HLA.out]; exact hlt)
      have hkn' : k < nb := by rw [HLB.out]; exact hk
      obtain ⟨ba, oa, x, rfl, c1, k1, e1⟩ := HA.out.cellAt hlt
      obtain ⟨bb, ob, y, rfl, c2, k2, e2⟩ := HB.out.cellAt hkn'
      have cx := (hC.bel.cell (p := ⟨ba, oa + i, none⟩) (cell_lt c1)).trans c1
      have cy := (hC.bel.cell (p := ⟨bb, ob + k, none⟩) (cell_lt c2)).trans c2
      have hbal := cell_lt cx
      have hbbl := cell_lt cy
      have G1 := Lib.hid (fun (h0 : 0 ≤ x) (h : x = y) => hG.out.same k1 hk (by rw [e1]; exact h0) (by rw [e1, e2]; exact h))
      have G2 := Lib.hid (fun (h : ¬ (0 ≤ x ∧ x = y)) => hG.out.part k1 hk (by rw [e1, e2]; exact h) hpa.len)
      have G3 := Lib.hid (fun (h : x = y) => hsame (by rw [e1, e2]; exact h))
      have G4 := Lib.hid hside
      rw [e1] at G1
      have HPA := Lib.hid hpa
      have HPB := Lib.hid hpb
      obtain ⟨q, hq⟩ : ∃ q, decide (0 ≤ x ∧ x = y) = q := ⟨_, rfl⟩
      have hi0 : (0 : Int) ≤ (i : Int) := by omega
      have hi1 : (i : Int) < (na : Int) := by omega
      have hk0 : (0 : Int) ≤ (k : Int) := by omega
      have hk1 : (k : Int) < (nb : Int) := by omega
      clear hC hsame hpa hpb hside e1 e2 k1 k2 c1 c2 hSd hG hk
      go_upto_region 5 with fail
      go_cut [34] from 15 to 102 (fun s34 wx => s34 = .bool q ∧ Below wr.heap.size wr wx)
      case first =>
        by_cases hxy : x = y
        · subst hxy
          by_cases hx0 : 0 ≤ x
          · have hd : decide (x ≥ 0) = true := decide_eq_true hx0
            have hqt : q = true := by rw [← hq]; exact decide_eq_true ⟨hx0, rfl⟩
            clear hq
            subst hqt
            go_quiet (fail)
            go_wp2_with fail
            go_meet
            exact ⟨by simp, below_drewN (Below.refl _ _) _⟩
          · have hd : decide (x ≥ 0) = false := decide_eq_false hx0
            have hqt : q = false := by rw [← hq]; exact decide_eq_false (fun h => hx0 h.1)
            clear hq
            subst hqt
            go_quiet (fail)
            go_wp2_with fail
            go_meet
            exact ⟨by simp, below_drewN (Below.refl _ _) _⟩
        · have hqt : q = false := by rw [← hq]; exact decide_eq_false (fun h => hxy h.2)
          clear hq
          subst hqt
          have hxy2 : (x == y) = false := by simpa using hxy
          go_quiet (fail)
          go_wp2_with fail
          go_meet
          exact ⟨by simp, below_drewN (Below.refl _ _) _⟩
      case rest =>
      obtain ⟨rfl, hB1⟩ := hcut
      obtain ⟨w1, hw1⟩ : ∃ w1, w1 = wc := ⟨_, rfl⟩
      subst hw1
      have HC1 := Lib.hid (HC.out.below hB1)
      have cx1 := (hB1.cell (p := ⟨ba, oa + i, none⟩) hbal).trans cx
      have cy1 := (hB1.cell (p := ⟨bb, ob + k, none⟩) hbbl).trans cy
      clear hB1 cx cy hbal hbbl HC
      obtain ⟨nt, hnt⟩ : ∃ nt, t.length = nt := ⟨_, rfl⟩
      have HNT := Lib.hid hnt
      cases q with
      | true =>
        obtain ⟨hx0, hxy⟩ := of_decide_eq_true hq
        subst hxy
        have H1 := Lib.hid (G1.out hx0 rfl)
        have H3 := Lib.hid (G3.out rfl)
        rw [hnt] at hti hml
        have HC2 := Lib.hid (HC1.out.below (bel_al (Below.refl _ _) (.cells #[.int .i64 x] 3)))
        have HROW := Lib.hid HC2.out.out
        rw [hnt] at HROW
        have HSZ := Lib.hid (HC2.out.bel.size)
        rw [hnt]
        clear hnt hq G1 G2 G3 G4
        go_wp2_with (first
          | (at_builtin
             refine wpList_append_own_at _ rfl _ _ 25 rfl w.heap.size 3 i0 _ 1 8 Try.underlying25 hi hz0 hz1 hz2 rfl (by omega) (.slice A7 nt c7) nt (t.map (Value.int .i64)) rfl HROW.out ⟨w1.heap.size, 0, none⟩ 1 1 [.int .i64 x] rfl rfl
               (World.news_of_block (cs := #[.int .i64 x]) (t := 3) (fr := (0, 0)) (heap_alloc_new w1 _)) (by simp [Value.oneCell']) (by unfold maxLen; omega) (by omega) HSZ.out ?_
             intro v2 w2 hown hg _ hv2
             have HC3 := Lib.hid (HC2.out.push7 (v' := v2) (x := x) (by rw [HNT.out]; exact hown) (by rw [HNT.out]; exact hg) (by rw [HNT.out]; exact hv2))
             clear hown hg hv2))
        go_roundw
        case rel =>
          obtain ⟨f', hf'⟩ := H1.out
          exact ⟨i + 1, k + 1, f', t ++ [x], met, ls, rs, by go_num, by go_num, by omega, by omega, by have := HNT.out; simp; omega, by have := HNT.out; simp; omega, Lib.hid hf', H3, HC3.out⟩
        case measure => simp [intOf]; omega
      | false =>
        have hne := of_decide_eq_false hq
        have H2 := Lib.hid (G2.out hne)
        obtain ⟨P, hP⟩ : ∃ P, prt ss za i = P := ⟨_, rfl⟩
        obtain ⟨Q, hQ⟩ : ∃ Q, prt ss zb k = Q := ⟨_, rfl⟩
        rw [hP] at HPA H2 G4
        rw [hQ] at HPB H2 G4
        have hP1 := HPA.out.len
        have hQ1 := HPB.out.len
        have hP2 := HPA.out.le
        have hQ2 := HPB.out.le
        obtain ⟨m, hm⟩ : ∃ m, P.length = m := ⟨_, rfl⟩
        obtain ⟨n, hn⟩ : ∃ n, Q.length = n := ⟨_, rfl⟩
        have hwA := HPA.out.whole
        have hwB := HPB.out.whole
        rw [hm] at hP1 hP2 H2 G4 hwA
        rw [hn] at hQ1 hQ2 H2 G4 hwB
        rw [← HLA.out] at hP2
        rw [← HLB.out] at hQ2
        rw [hnt] at hti hml
        have hb7 : ∀ g, (Value.slice A7 nt c7).ownBlock = some g → g < w1.heap.size := fun g e => own_lt HC1.out.out (by rw [hnt]; exact e)
        have hb8 : ∀ g, (Value.slice A8 met.length c8).ownBlock = some g → g < w1.heap.size := fun g e => own_lt HC1.out.left.row e
        have hb9 : ∀ g, (Value.slice A9 met.length c9).ownBlock = some g → g < w1.heap.size := fun g e => own_lt HC1.out.right.row e
        have CPA := Lib.hid (fun V (h : Below w1.heap.size w1 V) => (refPart_any As (some ⟨ba, oa, none⟩) ns cs na ca ss za _ i V (HS.out.up (below_then HC1.out.bel h)) (HA.out.up (below_then HC1.out.bel h)) HAR.out HHA.out (by omega) hca hca2 (by rw [← HLA.out]; exact hlt) hwA).mono (R' := fun e w' => ∃ A4 c4, e = .returned (.slice A4 m c4) ∧ (IntsBut w' (Value.slice A7 nt c7).ownBlock A4 m P ∧ IntsBut w' (Value.slice A8 met.length c8).ownBlock A4 m P ∧ IntsBut w' (Value.slice A9 met.length c9).ownBlock A4 m P) ∧ Below V.heap.size V w') (fun e w' ⟨v, e1, e2, e3⟩ => by
          rw [hP, hm] at e2
          obtain ⟨A4, c4, rfl, q7⟩ := IntsBut.of_row e2 (by omega) (g := (Value.slice A7 nt c7).ownBlock) (fun g eg => by have := hb7 g eg; have := h.size; omega)
          obtain ⟨A4', c4', ev, q8⟩ := IntsBut.of_row e2 (by omega) (g := (Value.slice A8 met.length c8).ownBlock) (fun g eg => by have := hb8 g eg; have := h.size; omega)
          cases ev
          obtain ⟨A4', c4', ev, q9⟩ := IntsBut.of_row e2 (by omega) (g := (Value.slice A9 met.length c9).ownBlock) (fun g eg => by have := hb9 g eg; have := h.size; omega)
          cases ev
          exact ⟨A4, c4, e1, ⟨q7, q8, q9⟩, e3⟩))
        have CPB := Lib.hid (fun V (h : Below w1.heap.size w1 V) => (refPart_any As (some ⟨bb, ob, none⟩) ns cs nb cb ss zb _ k V (HS.out.up (below_then HC1.out.bel h)) (HB.out.up (below_then HC1.out.bel h)) HAR.out HHB.out (by omega) hcb hcb2 (by rw [← HLB.out]; exact hkn') hwB).mono (R' := fun e w' => ∃ A4 c4, e = .returned (.slice A4 n c4) ∧ (IntsBut w' (Value.slice A7 nt c7).ownBlock A4 n Q ∧ IntsBut w' (Value.slice A8 met.length c8).ownBlock A4 n Q ∧ IntsBut w' (Value.slice A9 met.length c9).ownBlock A4 n Q) ∧ Below V.heap.size V w') (fun e w' ⟨v, e1, e2, e3⟩ => by
          rw [hQ, hn] at e2
          obtain ⟨A4, c4, rfl, q7⟩ := IntsBut.of_row e2 (by omega) (g := (Value.slice A7 nt c7).ownBlock) (fun g eg => by have := hb7 g eg; have := h.size; omega)
          obtain ⟨A4', c4', ev, q8⟩ := IntsBut.of_row e2 (by omega) (g := (Value.slice A8 met.length c8).ownBlock) (fun g eg => by have := hb8 g eg; have := h.size; omega)
          cases ev
          obtain ⟨A4', c4', ev, q9⟩ := IntsBut.of_row e2 (by omega) (g := (Value.slice A9 met.length c9).ownBlock) (fun g eg => by have := hb9 g eg; have := h.size; omega)
          cases ev
          exact ⟨A4, c4, e1, ⟨q7, q8, q9⟩, e3⟩))
        obtain ⟨L, hL⟩ : ∃ L, met.length = L := ⟨_, rfl⟩
        have HLL := Lib.hid hL
        rw [hL] at hml CPA CPB
        rw [hL, hnt] at HC1
        rw [hnt, hL]
        have HG4 := Lib.hid G4.out
        clear hwA hwB hb7 hb8 hb9 hP hQ hm hn hnt hL hq hne G1 G2 G3 G4 HPA HPB
        obtain ⟨wo, hwo⟩ : ∃ wo, wo = wr := ⟨_, rfl⟩
        subst hwo
        go_wp2_with (first
          | (go_at_call 178; ((with_reducible refine (CPA.out _ (Below.refl _ _)).mono ?_); rintro e w2 ⟨A6, c6, rfl, hI2, hB2⟩; have HI2 := Lib.hid hI2; have HB2 := Lib.hid hB2; clear hI2 hB2))
          | (go_at_call 178; ((with_reducible refine (CPB.out _ HB2.out).mono ?_); rintro e w3 ⟨A5, c5, rfl, hI3, hB3⟩; have HI3 := Lib.hid hI3; have HI23 := Lib.hid (And.intro (HI2.out.1.below hB3) (And.intro (HI2.out.2.1.below hB3) (HI2.out.2.2.below hB3))); have HB3 := Lib.hid (below_then HB2.out hB3); clear hI3 hB3)))
        have HC3 := Lib.hid (HC1.out.below HB3.out)
        go_loopw [14] (fun s14 wr => ∃ a : Nat, a ≤ L ∧ s14 = .int .i64 a ∧ Hid (∀ j (h : j < met.length), j < a → met[j] ≠ (P, Q)) ∧ Below w3.heap.size w3 wr) (fun s14 _ => L - (intOf s14).toNat)
        case atStart => exact ⟨0, Nat.zero_le _, rfl, Lib.hid (fun j h h0 => by omega), Below.refl _ _⟩
        case round =>
          obtain ⟨a, haL, rfl, HN', hB4⟩ := hrel
          have HC4 := Lib.hid (HC3.out.below hB4)
          have HP4 := Lib.hid (And.intro (HI23.out.1.below hB4) (And.intro (HI23.out.2.1.below hB4) (HI23.out.2.2.below hB4)))
          have HQ4 := Lib.hid (And.intro (HI3.out.1.below hB4) (And.intro (HI3.out.2.1.below hB4) (HI3.out.2.2.below hB4)))
          have HB4 := Lib.hid hB4
          clear hB4
          by_cases haL2 : a < L
          · have ham : a < met.length := by have := HLL.out; omega
            obtain ⟨A, c, e, hT⟩ := HC4.out.left.terms (by rw [List.length_map]; have := HLL.out; omega)
            rw [List.length_map, HLL.out] at e
            cases e
            obtain ⟨b8, o8, A', n', c', t', rfl, hb8, q1, q2, q3⟩ := hT.cellAt (k := a) (by rw [List.length_map]; exact ham)
            obtain ⟨A, c, e, hT2⟩ := HC4.out.right.terms (by rw [List.length_map]; have := HLL.out; omega)
            rw [List.length_map, HLL.out] at e
            cases e
            obtain ⟨b9, o9, A'', n'', c'', t'', rfl, hb9, r1, r2, r3⟩ := hT2.cellAt (k := a) (by rw [List.length_map]; exact ham)
            obtain ⟨X, hX⟩ : ∃ X, met[a] = X := ⟨_, rfl⟩
            rw [List.getElem?_map, List.getElem?_eq_getElem ham, hX] at q2 r2
            obtain rfl : X.1 = t' := by simpa using q2
            obtain rfl : X.2 = t'' := by simpa using r2
            have CS1 := Lib.hid (same_any A' A6 n' c' m c6 X.1 P wr wr.heap.size q3 HP4.out.1.ints)
            have CS2 := Lib.hid (fun nq => same_any A'' A5 n'' c'' n c5 X.2 Q (wr.drewN nq) wr.heap.size (r3.keep fun _ _ => rfl) (HQ4.out.1.ints.keep fun _ _ => rfl))
            have ha0 : (0 : Int) ≤ (a : Int) := by omega
            have ha1 : (a : Int) < (L : Int) := by omega
            have hmet : met[a]? = some X := by rw [List.getElem?_eq_getElem ham, hX]
            by_cases hp : X.1 = P
            · have HS1 := Lib.hid (show decide (X.1 = P) = true from decide_eq_true hp)
              by_cases hq2 : X.2 = Q
              · have HS2 := Lib.hid (show decide (X.2 = Q) = true from decide_eq_true hq2)
                have hXe : X = (P, Q) := by rw [← hp, ← hq2]
                have hix : met.idxOf (P, Q) = a := idx_here HN'.out (fun _ => by rw [hmet, hXe]) (by omega)
                have hold := meet1_old (met := met) (x := (P, Q)) (by rw [hix]; exact ham)
                rw [hold, hix] at H2
                have hne : ((a : Int) == (L : Int)) = false := by simp; omega
                have HC6 := Lib.hid (fun nq => HC4.out.below (bel_al (below_drewN (Below.refl wr.heap.size wr) nq) (.cells #[.int .i64 (-(a : Int) - 1)] 3)))
                have HPRE : Hid (∀ nq, ((wr.drewN nq).alloc (.cells #[.int .i64 (-(a : Int) - 1)] 3)).ownsRow w.heap.size 3 1 (.slice A7 nt c7) nt (t.map (Value.int .i64)) ∧ w.heap.size ≤ ((wr.drewN nq).alloc (.cells #[.int .i64 (-(a : Int) - 1)] 3)).heap.size) := Lib.hid (fun nq => by
                  have := (HC6.out nq).out
                  rw [HNT.out] at this
                  exact ⟨this, (HC6.out nq).bel.size⟩)
                clear hT hT2 q2 q3 r2 r3 hX hp hq2 hXe hix hold hmet
                go_wp2_with (first
                  | (go_at_call 21; ((with_reducible refine CS1.out.mono ?_); rintro e V5 ⟨rfl, j5, rfl⟩; rw [HS1.out]))
                  | (go_at_call 21; ((with_reducible refine (CS2.out _).mono ?_); rintro e V6 ⟨rfl, j6, rfl⟩; rw [HS2.out]))
                  | (at_builtin
                     refine wpList_append_own_at _ rfl _ _ 25 rfl w.heap.size 3 i0 _ 1 8 Try.underlying25 hi hz0 hz1 hz2 rfl (by omega) (.slice A7 nt c7) nt (t.map (Value.int .i64)) rfl (HPRE.out _).1 ⟨wr.heap.size, 0, none⟩ 1 1 [.int .i64 (-(a : Int) - 1)] rfl rfl
                       ?_ (by simp [Value.oneCell']) (by unfold maxLen; omega) (by omega) (HPRE.out _).2 ?_
                     · exact World.news_of_block (cs := #[.int .i64 (-(a : Int) - 1)]) (t := 3) (fr := (0, 0)) (heap_alloc_new (wr.drewN _) _)
                     intro v7 w7 hown7 hg7 _ hv7
                     have HC7 := Lib.hid ((HC6.out _).push7 (v' := v7) (x := -(a : Int) - 1) (by rw [HNT.out]; exact hown7) hg7 hv7)
                     clear hown7 hg7 hv7))
                go_roundw
                case rel =>
                  obtain ⟨f', hf'⟩ := H2.out
                  have h1 := HNT.out
                  have h2 := HLL.out
                  have h3 := HC7.out
                  exact ⟨i + m, k + n, f', t ++ [-(a : Int) - 1], met, ls, rs, by go_num, by go_num, by omega, by omega, by simp; omega, by simp; omega, Lib.hid hf', HG4, h3⟩
                case measure => simp [intOf]; omega
              · have HS2 := Lib.hid (show decide (X.2 = Q) = false from decide_eq_false hq2)
                have HN2 : Hid (∀ j (h : j < met.length), j < a + 1 → met[j] ≠ (P, Q)) := Lib.hid (fun j h hja => by
                  by_cases e : j = a
                  · subst e; rw [hX]; intro e2; exact hq2 (by rw [e2])
                  · exact HN'.out j h (by omega))
                clear hT hT2 q2 q3 r2 r3 hX hp hq2 hmet HN'
                go_wp2_with (first
                  | (go_at_call 21; ((with_reducible refine CS1.out.mono ?_); rintro e V5 ⟨rfl, j5, rfl⟩; rw [HS1.out]))
                  | (go_at_call 21; ((with_reducible refine (CS2.out _).mono ?_); rintro e V6 ⟨rfl, j6, rfl⟩; rw [HS2.out])))
                go_roundw
                case rel => exact ⟨a + 1, by omega, by go_num, HN2, below_drewN HB4.out _⟩
                case measure => simp [intOf]; omega
            · have HS1 := Lib.hid (show decide (X.1 = P) = false from decide_eq_false hp)
              have HN2 : Hid (∀ j (h : j < met.length), j < a + 1 → met[j] ≠ (P, Q)) := Lib.hid (fun j h hja => by
                by_cases e : j = a
                · subst e; rw [hX]; intro e2; exact hp (by rw [e2])
                · exact HN'.out j h (by omega))
              clear hT hT2 q2 q3 r2 r3 hX hp hmet HN'
              go_wp2_with (go_at_call 21; ((with_reducible refine CS1.out.mono ?_); rintro e V5 ⟨rfl, j5, rfl⟩; rw [HS1.out]))
              go_roundw
              case rel => exact ⟨a + 1, by omega, by go_num, HN2, below_drewN HB4.out _⟩
              case measure => simp [intOf]; omega
          · obtain rfl : a = L := by omega
            have hix : met.idxOf (P, Q) = met.length := by
              have h1 := HLL.out
              rw [idx_here HN'.out (fun h => by omega) (by omega), h1]
            obtain ⟨hn1, hn2⟩ := meet1_new hix
            rw [hn2, HLL.out, hn1] at H2
            have haa : ((a : Int) == (a : Int)) = true := by simp
            have HC5 := Lib.hid (HC4.out.below (bel_al (Below.refl wr.heap.size wr) (.cells #[.slice A6 m c6] 25)))
            have hba := bel_al (Below.refl wr.heap.size wr) (.cells #[.slice A6 m c6] 25)
            have HP5 := Lib.hid (And.intro (HP4.out.1.below hba) (And.intro (HP4.out.2.1.below hba) (HP4.out.2.2.below hba)))
            have HQ5 := Lib.hid (And.intro (HQ4.out.1.below hba) (And.intro (HQ4.out.2.1.below hba) (HQ4.out.2.2.below hba)))
            have HR5 : Hid ((wr.alloc (.cells #[.slice A6 m c6] 25)).ownsRow w.heap.size 25 1 (.slice A8 a c8) a (ls.map Hd.val)) := Lib.hid (by
              have := HC5.out.left.row
              rw [List.length_map, HLL.out] at this
              exact this)
            have hsw : w.heap.size ≤ wr.heap.size := HC4.out.bel.size
            clear hix hn1 hn2 hba HN'
            go_wp2_with (first
              | (at_builtin
                 refine wpList_append_own_at _ rfl _ _ 49 rfl w.heap.size 25 j0 _ 1 24 Try.underlying49 hj hy0 hy1 hy2 rfl (by omega) (.slice A8 a c8) a (ls.map Hd.val) rfl HR5.out ⟨wr.heap.size, 0, none⟩ 1 1 [Hd.val (A6, m, c6)] rfl rfl
                   (World.news_of_block (cs := #[Hd.val (A6, m, c6)]) (t := 25) (fr := (0, 0)) (heap_alloc_new wr _)) (by simp [Value.oneCell', Hd.val]) (by unfold maxLen; omega) (by omega) (by simp; omega) ?_
                 intro v5 w5 hown5 hg5 _ hv5
                 obtain ⟨g5, cap5, e5, _⟩ := hown5.form (by omega)
                 subst e5
                 have HC6 := Lib.hid (HC5.out.push8 (x := (A6, m, c6)) (p := P) HP5.out.1 HP5.out.2.1 HP5.out.2.2 (by rw [List.length_map, HLL.out]; exact hown5) hg5 hv5)
                 have HQ6 := Lib.hid (And.intro (but_other HQ5.out.2.1 HQ5.out.1 hg5) (And.intro (HQ5.out.2.1.grown hg5 hv5) (but_other HQ5.out.2.1 HQ5.out.2.2 hg5)))
                 have HC7 := Lib.hid (HC6.out.below (bel_al (Below.refl w5.heap.size w5) (.cells #[.slice A5 n c5] 25)))
                 have HQ7 := Lib.hid (And.intro (HQ6.out.1.below (bel_al (Below.refl w5.heap.size w5) (.cells #[.slice A5 n c5] 25))) (And.intro (HQ6.out.2.1.below (bel_al (Below.refl w5.heap.size w5) (.cells #[.slice A5 n c5] 25))) (HQ6.out.2.2.below (bel_al (Below.refl w5.heap.size w5) (.cells #[.slice A5 n c5] 25)))))
                 have HR7 : Hid ((w5.alloc (.cells #[.slice A5 n c5] 25)).ownsRow w.heap.size 25 1 (.slice A9 a c9) a (rs.map Hd.val)) := Lib.hid (by
                   have := HC7.out.right.row
                   rw [List.length_map, HLL.out] at this
                   exact this)
                 have hsz5 : w.heap.size ≤ w5.heap.size := HC6.out.bel.size
                 clear hown5 hg5 hv5)
              | (at_builtin
                 refine wpList_append_own_at _ rfl _ _ 49 rfl w.heap.size 25 j0 _ 1 24 Try.underlying49 hj hy0 hy1 hy2 rfl (by omega) (.slice A9 a c9) a (rs.map Hd.val) rfl HR7.out ⟨w5.heap.size, 0, none⟩ 1 1 [Hd.val (A5, n, c5)] rfl rfl
                   (World.news_of_block (cs := #[Hd.val (A5, n, c5)]) (t := 25) (fr := (0, 0)) (heap_alloc_new w5 _)) (by simp [Value.oneCell', Hd.val]) (by unfold maxLen; omega) (by omega) (by simp; omega) ?_
                 intro v6 w6 hown6 hg6 _ hv6
                 obtain ⟨g6, cap6, e6, _⟩ := hown6.form (by omega)
                 subst e6
                 have HC8 := Lib.hid (HC7.out.push9 (x := (A5, n, c5)) (p := Q) HQ7.out.1 HQ7.out.2.1 HQ7.out.2.2 (by rw [List.length_map, HLL.out]; exact hown6) hg6 hv6)
                 have HC9 := Lib.hid (HC8.out.below (bel_al (Below.refl w6.heap.size w6) (.cells #[.int .i64 (-(a : Int) - 1)] 3)))
                 have HR9 : Hid ((w6.alloc (.cells #[.int .i64 (-(a : Int) - 1)] 3)).ownsRow w.heap.size 3 1 (.slice A7 nt c7) nt (t.map (Value.int .i64))) := Lib.hid (by
                   have := HC9.out.out
                   rw [HNT.out] at this
                   exact this)
                 have hsz6 : w.heap.size ≤ w6.heap.size := HC8.out.bel.size
                 clear hown6 hg6 hv6)
              | (at_builtin
                 refine wpList_append_own_at _ rfl _ _ 25 rfl w.heap.size 3 i0 _ 1 8 Try.underlying25 hi hz0 hz1 hz2 rfl (by omega) (.slice A7 nt c7) nt (t.map (Value.int .i64)) rfl HR9.out ⟨w6.heap.size, 0, none⟩ 1 1 [.int .i64 (-(a : Int) - 1)] rfl rfl
                   (World.news_of_block (cs := #[.int .i64 (-(a : Int) - 1)]) (t := 3) (fr := (0, 0)) (heap_alloc_new w6 _)) (by simp [Value.oneCell']) (by unfold maxLen; omega) (by omega) (by simp; omega) ?_
                 intro v7 w7 hown7 hg7 _ hv7
                 have HC10 := Lib.hid (HC9.out.push7 (v' := v7) (x := -(a : Int) - 1) (by rw [HNT.out]; exact hown7) hg7 hv7)
                 clear hown7 hg7 hv7))
            go_roundw
            case rel =>
              obtain ⟨f', hf'⟩ := H2.out
              have h1 := HNT.out
              have h2 := HLL.out
              exact ⟨i + m, k + n, f', t ++ [-(a : Int) - 1], met ++ [(P, Q)], ls ++ [(A6, m, c6)], rs ++ [(A5, n, c5)], by go_num, by go_num, by omega, by omega, by simp; omega, by simp; omega, Lib.hid hf', HG4, by rw [List.map_append, List.map_append]; exact HC10.out⟩
            case measure => simp [intOf]; omega
    · obtain rfl : i = na := by omega
      have hd := hG.out.done (by have := HLA.out; omega)
      have HD := Lib.hid hd
      clear hC hd hG hSd
      go_wp2
      go_ret
      obtain ⟨A, c, e, hI, hk⟩ := row_intsk HC.out.out (by omega)
      cases e
      rw [← HD.out]
      exact ⟨A7, c7, rfl, hI, hk, HC.out.bel⟩

end Go.Proofs.Ytgbfccbnbgbknaa

namespace Go.Proofs.Ytgbfccbnbgbknaa
open Go.RowKit

def iotC (n : Nat) : List Int := (List.range n).map fun j : Nat => -(j : Int) - 1
theorem iotC_succ (n : Nat) : iotC (n + 1) = iotC n ++ [-(n : Int) - 1] := by simp [iotC, List.range_succ]
theorem iotC_mem {n i : Nat} : (-(i : Int) - 1) ∈ iotC n ↔ i < n := by
  unfold iotC
  rw [List.mem_map]
  constructor
  · rintro ⟨j, hj, e⟩
    rw [List.mem_range] at hj
    omega
  · intro h
    exact ⟨i, List.mem_range.2 h, rfl⟩
theorem comF_vars {ss : Sg} {a b : List Int} (h : Jnt ss a b) : ∀ (f : Nat) (met : List Two), a.length ≤ f → (comF ss f a b met).1.foldl addSeen (iotC met.length) = iotC (comF ss f a b met).2.length := by
  induction h with
  | nil => intro f met _; cases f <;> rfl
  | same x a b h0 _ ih =>
    intro f met hf
    cases f with
    | zero => simp at hf
    | succ f =>
      rw [comF_same a b met h0]
      simp only [List.foldl_cons]
      rw [show addSeen (iotC met.length) x = iotC met.length by unfold addSeen; rw [if_pos h0]]
      exact ih f met (by simpa using hf)
  | part x p q a b hp hq hd hj ih =>
    intro f met hf
    cases f with
    | zero => simp at hf
    | succ f =>
      have hl : a.length ≤ f := by simp at hf; omega
      rw [comF_part a b met hp hq hd]
      simp only [List.foldl_cons]
      have key : addSeen (iotC met.length) (ixT (meet1 met (x :: p, q)) (x :: p, q)) = iotC (meet1 met (x :: p, q)).length := by
        unfold addSeen
        rw [if_neg (by have := ixT_neg (meet1 met (x :: p, q)) (x :: p, q); omega)]
        by_cases hm : (x :: p, q) ∈ met
        · have hi := List.idxOf_lt_length_of_mem hm
          rw [meet1_old hi]
          unfold ixT
          rw [if_pos (List.contains_iff_mem.2 (iotC_mem.2 hi))]
        · have hi : met.idxOf (x :: p, q) = met.length := List.idxOf_eq_length hm
          obtain ⟨e1, e2⟩ := meet1_new hi
          unfold ixT
          rw [e2, if_neg (fun h => by have := iotC_mem.1 (List.contains_iff_mem.1 h); omega), e1, List.length_append, List.length_singleton, iotC_succ]
      rw [key]
      exact ih f _ hl
theorem join_vars {ss : Sg} {za zb : List Int} (ha : valOk ss za = true) (hb : valOk ss zb = true) {n : Nat} (hn : n = (comF ss za.length za zb []).1.length) : (vof (seenTo (comF ss za.length za zb []).1 n)).length = (comF ss za.length za zb []).2.length := by
  have h := comF_vars (jnt_valid ha hb) za.length [] (Nat.le_refl _)
  unfold vof seenTo
  rw [List.length_map, List.take_of_length_le (by omega)]
  have e : iotC ([] : List Two).length = [] := rfl
  rw [e] at h
  rw [h]
  simp [iotC]

set_option maxRecDepth 100000 in
set_option maxHeartbeats 2000000 in
theorem join_all (As Aa Ab : Option Addr) (ns cs na ca nb cb : Nat) (ss : Sg) (za zb : List Int) (w : World) (hs : SigAt w w.heap.size As ns ss) (ha : IntsAt w w.heap.size Aa na za) (hb : IntsAt w w.heap.size Ab nb zb)
    (hca : na ≤ ca) (hca2 : ca ≤ 9223372036854775807) (hcb : nb ≤ cb) (hcb2 : cb ≤ 9223372036854775807) :
    Calls Try.prog 52 #[.slice As ns cs, .slice Aa na ca, .slice Ab nb cb] w (RetT w (joZ ss za zb).1 (joZ ss za zb).2) := by
  cases hv : (valOk ss za && valOk ss zb)
  · have C1 := Lib.hid (uvalid_two As Aa Ab ns cs na ca nb cb ss za zb w hs ha hb)
    rw [hv] at C1
    have hz : joZ ss za zb = ([], 1) := by unfold joZ; rw [if_neg (by simp [hv])]
    rw [hz]
    clear hs ha hb hv hz
    go_enter Try.func52, Try.ntmps52
    go_wp2_with (go_at_call 106; refine C1.out.mono ?_; rintro e w1 ⟨rfl, hB1⟩; have HB1 := Lib.hid hB1; clear hB1)
    go_ret2
    exact ⟨none, 0, 0, rfl, IntsAt.nil _ _ 0, HB1.out⟩
  · have hz : joZ ss za zb = joinZ ss za zb := by unfold joZ; rw [if_pos hv]
    rw [hz]
    rw [Bool.and_eq_true] at hv
    exact ujoin_any As Aa Ab ns cs na ca nb cb ss za zb w hs ha hb hca hca2 hcb hcb2 hv.1 hv.2

set_option maxRecDepth 100000 in
set_option maxHeartbeats 2000000 in
theorem refJoin_any (As Aa Ab : Option Addr) (ns cs na ca nb cb : Nat) (ss : Sg) (za zb : List Int) (w : World) (hs : SigAt w w.heap.size As ns ss) (ha : IntsAt w w.heap.size Aa na za) (hb : IntsAt w w.heap.size Ab nb zb)
    (hca : na ≤ ca) (hca2 : ca ≤ 9223372036854775807) (hcb : nb ≤ cb) (hcb2 : cb ≤ 9223372036854775807) :
    Calls Try.prog 53 #[.slice As ns cs, .slice Aa na ca, .slice Ab nb cb] w (RetK w (joZ ss za zb).1 (joZ ss za zb).2) := by
  have C1 := Lib.hid ((refValid_any As Aa ns cs na ca ss za w _ hs ha).mono fun e w' h => below_draw (Below.refl _ _) rfl h)
  have C2 := Lib.hid (fun V (h : Below w.heap.size w V) (hsz : V.heap.size = w.heap.size) => (refValid_any As Ab ns cs nb cb ss zb V _ (hs.up h) (hb.up h)).mono fun e w' h' => below_draw h hsz h')
  cases hva : valOk ss za
  · have hz : joZ ss za zb = ([], 1) := by unfold joZ; rw [if_neg (by simp [hva])]
    rw [hz]
    rw [hva] at C1
    clear hs ha hb hva hz
    go_enter Try.func53, Try.ntmps53
    go_wp2_with (go_at_call 101; refine C1.out.mono ?_; rintro e w1 ⟨rfl, hB1, hz1⟩; have HB1 := Lib.hid hB1; clear hB1)
    go_ret2
    exact ⟨none, 0, 0, rfl, IntsAt.nil _ _ 0, by omega, HB1.out⟩
  · rw [hva] at C1
    cases hvb : valOk ss zb
    · have hz : joZ ss za zb = ([], 1) := by unfold joZ; rw [if_neg (by simp [hvb])]
      rw [hz]
      simp only [hvb] at C2
      clear hs ha hb hva hvb hz
      go_enter Try.func53, Try.ntmps53
      go_wp2_with (first
        | (go_at_call 101; ((with_reducible refine C1.out.mono ?_); clear C1; rintro e w1 ⟨rfl, hB1, hz1⟩; have HB1 := Lib.hid hB1; have HZ1 := Lib.hid hz1; clear hB1 hz1))
        | (go_at_call 101; ((with_reducible refine (C2.out _ HB1.out HZ1.out).mono ?_); rintro e w2 ⟨rfl, hB2, hz2⟩; have HB2 := Lib.hid hB2; clear hB2 hz2)))
      go_ret2
      exact ⟨none, 0, 0, rfl, IntsAt.nil _ _ 0, by omega, HB2.out⟩
    · simp only [hvb] at C2
      have hz : joZ ss za zb = joinZ ss za zb := by unfold joZ; rw [if_pos (by simp [hva, hvb])]
      rw [hz]
      obtain ⟨hso, har, hha, _, hsa, a1, a60⟩ := valOk_more hva
      obtain ⟨_, _, hhb, _, hsb, b1, b60⟩ := valOk_more hvb
      have hla := ha.len
      have hlb := hb.len
      have C3 := Lib.hid (fun V (h : Below w.heap.size w V) => refCommon_any As Aa Ab ns cs na ca nb cb ss za zb V (hs.up h) (ha.up h) (hb.up h) hca hca2 hcb hcb2 har hha hhb hsa hsb (by omega) (by omega) (comF ss za.length za zb []) (by rw [hla]))
      have hjl := (join_len hva hvb).1
      have hjs := jn_scan (M := (comF ss za.length za zb []).2) (jnt_valid hva hvb) 1 hsa
      rw [join_jn hva hvb] at hjs
      have hj1 := scan_len hjs
      have hvars := join_vars hva hvb rfl
      have hnums := comF_nums (jnt_valid hva hvb) za.length [] (Nat.le_refl _)
      have hmet : (comF ss za.length za zb []).2.length ≤ 60 := by
        have h1 : (vof (seenTo (comF ss za.length za zb []).1 (comF ss za.length za zb []).1.length)).length ≤ (comF ss za.length za zb []).1.length := by
          unfold vof
          rw [List.length_map]
          exact seenTo_le _ _
        omega
      unfold joinZ
      obtain ⟨R, hR⟩ : ∃ R, comF ss za.length za zb [] = R := ⟨_, rfl⟩
      rw [hR] at C3 hjl hj1 hvars hnums hmet ⊢
      obtain ⟨t, M⟩ := R
      simp only at C3 hjl hj1 hvars hnums hmet ⊢
      obtain ⟨l, hl⟩ : ∃ l, t.length = l := ⟨_, rfl⟩
      obtain ⟨k, hk⟩ : ∃ k, M.length = k := ⟨_, rfl⟩
      rw [hl] at C3 hjl hj1 hvars
      rw [hk] at hvars hmet ⊢
      have hbd : ∀ z ∈ t, -1000000 ≤ z ∧ z ≤ 1000000 := fun z hz' => by
        obtain ⟨h1, h2⟩ := hnums z hz'
        rw [hk] at h1
        refine ⟨by omega, ?_⟩
        by_cases h0 : 0 ≤ z
        · have h3 := hha z (h2 h0)
          have h4 := (sigOk_len hso).2
          omega
        · omega
      have C4 := Lib.hid (fun (V : World) (A : Option Addr) (c : Nat) (hI : IntsAt V V.heap.size A l t) => (variables_any A l c t V hI (by omega) hbd).mono (R' := fun e w' => ∃ A' c', e = .returned (.slice A' k c') ∧ Below V.heap.size V w') (fun e w' ⟨v, e1, e2, e3⟩ => by
        rw [hvars] at e2
        obtain ⟨A', c', rfl, _⟩ := row_ints e2 (by omega)
        exact ⟨A', c', e1, e3⟩))
      by_cases h12 : k ≤ 12
      · rw [if_pos h12]
        have hk12 : ¬ (12 : Int) < (k : Int) := by omega
        clear hs ha hb hva hvb hz hla hlb hR hl hk hvars hnums hbd hjs
        go_enter Try.func53, Try.ntmps53
        go_wp2_with (first
          | (go_at_call 101; ((with_reducible refine C1.out.mono ?_); clear C1; rintro e w1 ⟨rfl, hB1, hz1⟩; have HB1 := Lib.hid hB1; have HZ1 := Lib.hid hz1; clear hB1 hz1))
          | (go_at_call 101; ((with_reducible refine (C2.out _ HB1.out HZ1.out).mono ?_); rintro e w2 ⟨rfl, hB2, hz2⟩; have HB2 := Lib.hid hB2; clear hB2 hz2))
          | (go_at_call 125; refine (C3.out _ HB2.out).mono ?_; rintro e w3 ⟨A3, c3, rfl, hI3, hk3, hB3⟩; have HI3 := Lib.hid hI3; have HK3 := Lib.hid hk3; have HB3 := Lib.hid (below_then HB2.out hB3); clear hI3 hB3 hk3)
          | (go_at_call 126; refine (C4.out _ _ _ HI3.out).mono ?_; rintro e w4 ⟨A4, c4, rfl, hB4⟩; have HI4 := Lib.hid (HI3.out.up hB4); have HB4 := Lib.hid (below_then HB3.out hB4); clear hB4))
        go_ret2
        exact ⟨_, _, _, rfl, HI4.out, HK3.out, HB4.out⟩
      · rw [if_neg h12]
        have hk12 : (12 : Int) < (k : Int) := by omega
        clear hs ha hb hva hvb hz hla hlb hR hl hk hvars hnums hbd hjs
        go_enter Try.func53, Try.ntmps53
        go_wp2_with (first
          | (go_at_call 101; ((with_reducible refine C1.out.mono ?_); clear C1; rintro e w1 ⟨rfl, hB1, hz1⟩; have HB1 := Lib.hid hB1; have HZ1 := Lib.hid hz1; clear hB1 hz1))
          | (go_at_call 101; ((with_reducible refine (C2.out _ HB1.out HZ1.out).mono ?_); rintro e w2 ⟨rfl, hB2, hz2⟩; have HB2 := Lib.hid hB2; clear hB2 hz2))
          | (go_at_call 125; refine (C3.out _ HB2.out).mono ?_; rintro e w3 ⟨A3, c3, rfl, hI3, hk3, hB3⟩; have HI3 := Lib.hid hI3; have HK3 := Lib.hid hk3; have HB3 := Lib.hid (below_then HB2.out hB3); clear hI3 hB3 hk3)
          | (go_at_call 126; refine (C4.out _ _ _ HI3.out).mono ?_; rintro e w4 ⟨A4, c4, rfl, hB4⟩; have HB4 := Lib.hid (below_then HB3.out hB4); clear hB4))
        go_ret2
        exact ⟨none, 0, 0, rfl, IntsAt.nil _ _ 0, by omega, HB4.out⟩

end Go.Proofs.Ytgbfccbnbgbknaa
