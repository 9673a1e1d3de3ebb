/- Contracts: Join; the statements' own 'awake' (layer 2). -/
import Derived.Test.YtgbfccbnbgbknaaY19g
import Derived.Deep.RegionHeld3
import Derived.Deep.CutRange
import Derived.BigQuiet
import Derived.Test.YtgbfccbnbgbknaaW0g
/- Contracts: logic.join. -/
namespace Go.Proofs.Ytgbfccbnbgbknaa
open Go.RowKit Go.WideMaps

theorem below_al {w w' : World} (h : Below w.heap.size w w') (o : Obj) : Below w.heap.size w (w'.alloc o) := h.alloc h.size o
theorem below_al2 {w w' : World} (h : Below w.heap.size w w') (o : Obj) (p q : Addr) (u v : Value) (hp : w.heap.size ≤ p.block) (hq : w.heap.size ≤ q.block) : Below w.heap.size w (((w'.alloc o).setCell p u).setCell q v) := ((below_al h o).setCell hp u).setCell hq v

theorem pair_facts {w : World} {g : Nat} {T : TypeId} {u v : Value} (h : Blk w g T #[u, v]) : w.cell? ⟨g, 0, none⟩ = some u ∧ w.cell? ⟨g, 1, none⟩ = some v ∧ w.frozen? ⟨g, 0, none⟩ = false ∧ w.frozen? ⟨g, 1, none⟩ = false :=
  ⟨h.cell 0, h.cell 1, h.frozen 0, h.frozen 1⟩
theorem pair_new {w w' : World} {T : TypeId} {cs : Array Value} (h : Below (w.alloc (.cells cs T)).heap.size (w.alloc (.cells cs T)) w') : Blk w' w.heap.size T cs := (Blk.new w T cs).below h (by simp)
theorem pair_new' {w w' : World} {T : TypeId} {cs : Array Value} (h : Below ((w.alloc (.cells cs T)).drew).heap.size ((w.alloc (.cells cs T)).drew) w') : Blk w' w.heap.size T cs := by
  have h1 : Blk ((w.alloc (.cells cs T)).drew) w.heap.size T cs := Blk.new w T cs
  exact h1.below h h1.lt
/-- What join has at the head of a round. -/
structure JIn (w wr : World) (S v : Value) (t : List Int) (met : List Two) : Prop where
  box : wr.cell? ⟨w.heap.size, 0, none⟩ = some S
  row : wr.ownsRow (w.heap.size + 2) 3 1 v t.length (t.map (Value.int .i64))
  map : PairMap wr (w.heap.size + 1) met
  bel : Below w.heap.size w wr
section
variable {w wr W : World} {S v : Value} {t : List Int} {met : List Two}
theorem JIn.size (h : JIn w wr S v t met) : w.heap.size + 2 ≤ wr.heap.size := h.map.lt
theorem JIn.below (h : JIn w wr S v t met) (hb : Below wr.heap.size wr W) : JIn w W S v t met :=
  ⟨(hb.cell (p := ⟨w.heap.size, 0, none⟩) (by have := h.size; show w.heap.size < _; omega)).trans h.box, row_below h.row hb, h.map.grown (grown_none hb) (by simp), below_then h.bel hb⟩
theorem JIn.form (h : JIn w wr S v t met) : ∃ A c, v = .slice A t.length c := by
  obtain ⟨_, ⟨rfl, h0⟩ | ⟨g, cap, cur, rfl, _⟩⟩ := h.row
  · exact ⟨_, _, by rw [h0]⟩
  · exact ⟨_, _, rfl⟩
theorem JIn.push (h : JIn w wr S v t met) {o : Obj} {x : Int} {v' : Value} (hrow : W.ownsRow (w.heap.size + 2) 3 1 v' (t.length + 1) (t.map (Value.int .i64) ++ [.int .i64 x])) (hg : (wr.alloc o).grownBy W v.ownBlock) : JIn w W S v' (t ++ [x]) met := by
  have h1 := h.below (below_al (Below.refl _ wr) o)
  have hlt := h1.row.lt
  have hsz := h1.size
  refine ⟨?_, by simpa using hrow, h1.map.grown hg (fun e => ?_), h1.bel.grown hg h1.bel.size (fun k e => by have := (hlt k e).1; omega)⟩
  · rw [World.cell?_of_block (hg.block w.heap.size (by omega) (fun e => by have := (hlt _ e.symm).1; omega))]
    exact h1.box
  · have := (hlt _ e.symm).1
    omega
theorem JIn.put (h : JIn w wr S v t met) {met' : List Two} (hm : PairMap W (w.heap.size + 1) met') (hg : wr.grownBy W (some (w.heap.size + 1))) : JIn w W S v t met' := by
  have hsz := h.size
  have hlt := h.row.lt
  refine ⟨?_, h.row.kept hg ?_, hm, h.bel.grown hg h.bel.size (fun k e => by cases e; omega)⟩
  · rw [World.cell?_of_block (hg.block w.heap.size (by omega) (fun e => by have := Option.some.inj e; omega))]
    exact h.box
  · cases e : v.ownBlock with
    | none => exact .inl rfl
    | some g => exact .inr (fun e2 => by have := (hlt g e).1; have := Option.some.inj e2; omega)
end

set_option maxRecDepth 100000 in
set_option maxHeartbeats 2000000 in
theorem join_any (As Aa Ab : Option Addr) (ns cs na ca nb cb : Nat) (ss : Sg) (za zb : List Int) (w : World) (hs : SigAt w w.heap.size As ns ss) (ha : IntsAt w w.heap.size Aa na za) (hb : IntsAt w w.heap.size Ab nb zb)
    (hca : na ≤ ca) (hca2 : ca ≤ 9223372036854775807) (hcb : nb ≤ cb) (_hcb2 : cb ≤ 9223372036854775807) (har : ArOk ss) (hha : HeadsOk ss za) (hhb : HeadsOk ss zb) (hga : GoodT za) (hgb : GoodT zb) (hsa : scan ss 1 za = some []) (hsb : scan ss 1 zb = some []) (h60a : na ≤ 60) (h60b : nb ≤ 60) (R : List Int × List Two) (hR : comF ss na za zb [] = R) :
    Calls Try.prog 124 #[.agg #[.slice As ns cs], .slice Aa na ca, .slice Ab nb cb] w fun e w' =>
      ∃ v, e = .returned (.tuple #[v, .int .i64 (R.2.length : Int)]) ∧ w'.ownsRow (w.heap.size + 2) 3 1 v R.1.length (R.1.map (Value.int .i64)) ∧ Below w.heap.size w w' ∧ R.2.length ≤ R.1.length ∧ R.1.length ≤ na := by
  obtain ⟨i0, hi, hz0, hz1, hz2⟩ := info_parts info_int
  have HS := Lib.hid hs
  have HA := Lib.hid ha
  have HB := Lib.hid hb
  have HLA := Lib.hid ha.len
  have HLB := Lib.hid hb.len
  have HAR := Lib.hid har
  have HHA := Lib.hid hha
  have HHB := Lib.hid hhb
  have HGA := Lib.hid hga
  have HGB := Lib.hid hgb
  have HG0 : Hid (ComGoes ss na za zb 0 0 [] [] R) := Lib.hid ⟨by have := ha.len; omega, by simpa using hR⟩
  have HS0 : Hid (Side ss za zb 0 0) := Lib.hid (Side.first hsa hsb)
  have hmm := @run_makeMap Try.prog
  obtain ⟨N, hN⟩ : ∃ N, w.heap.size = N := ⟨_, rfl⟩
  have HN := Lib.hid hN
  have HJ0 : Hid (JIn w ((w.alloc (.cells #[.slice As ns cs] 95)).alloc (.map #[] 0)) (.slice As ns cs) (.slice none 0 0) [] []) := by
    refine Lib.hid ⟨?_, ⟨rfl, .inl ⟨rfl, rfl⟩⟩, ?_, below_al (below_al (Below.refl _ w) _) _⟩
    · rw [alloc_keep _ _ _ (by simp), cell_new0]
    · have := PairMap.made (w.alloc (.cells #[.slice As ns cs] 95))
      rw [World.size_alloc] at this
      exact this
  clear hs ha hb har hha hhb hga hgb hsa hsb hR
  go_enter Try.func124, Try.ntmps124
  go_wp2
  clear hmm
  go_loopw [6, 9, 10] (fun s6 s9 s10 wr => ∃ (i k f : Nat) (t : List Int) (met : List Two), s9 = .int .i64 i ∧ s10 = .int .i64 k ∧ i ≤ na ∧ k ≤ nb ∧ t.length ≤ i ∧ met.length ≤ t.length ∧ Hid (ComGoes ss f za zb i k t met R) ∧ Hid (Side ss za zb i k) ∧ JIn w wr (.slice As ns cs) s6 t met) (fun _ s9 _ _ => na - (intOf s9).toNat)
  case atStart => exact ⟨0, 0, na, [], [], rfl, rfl, Nat.zero_le _, Nat.zero_le _, Nat.le_refl _, Nat.le_refl _, HG0, HS0, HJ0.out⟩
  case round =>
    obtain ⟨i, k, f, t, met, rfl, rfl, hin, hkn, hti, hml, hG, hSd, hJ⟩ := hrel
    have HJ := Lib.hid hJ
    by_cases hlt : i < na
    · obtain ⟨hk, hsame, hpa, hpb, hside⟩ := hSd.out.step (by rw [← HLA.out]; exact hlt)
      have hkn' : k < nb := by rw [HLB.out]; exact hk
      obtain ⟨ba, oa, x, rfl, c1, k1, e1⟩ := HA.out.cellAt hlt
      obtain ⟨bb, ob, y, rfl, c2, k2, e2⟩ := HB.out.cellAt hkn'
      have cx := (hJ.bel.cell (p := ⟨ba, oa + i, none⟩) (cell_lt c1)).trans c1
      have cy := (hJ.bel.cell (p := ⟨bb, ob + k, none⟩) (cell_lt c2)).trans c2
      have hbal := cell_lt cx
      have hbbl := cell_lt cy
      have G1 := Lib.hid (fun (h0 : 0 ≤ x) (h : x = y) => hG.out.same k1 hk (by rw [e1]; exact h0) (by rw [e1, e2]; exact h))
      have G2 := Lib.hid (fun (h : ¬ (0 ≤ x ∧ x = y)) => hG.out.part k1 hk (by rw [e1, e2]; exact h) hpa.len)
      have G3 := Lib.hid (fun (h : x = y) => hsame (by rw [e1, e2]; exact h))
      have G4 := Lib.hid hside
      rw [e1] at G1
      have HPA := Lib.hid hpa
      have HPB := Lib.hid hpb
      obtain ⟨q, hq⟩ : ∃ q, decide (0 ≤ x ∧ x = y) = q := ⟨_, rfl⟩
      have hi0 : (0 : Int) ≤ (i : Int) := by omega
      have hi1 : (i : Int) < (na : Int) := by omega
      have hk0 : (0 : Int) ≤ (k : Int) := by omega
      have hk1 : (k : Int) < (nb : Int) := by omega
      clear hJ hsame hpa hpb hside e1 e2 k1 k2 c1 c2 hSd hG hk
      go_upto_region 4 with fail
      go_cut [36] from 17 to 88 (fun s36 wx => s36 = .bool q ∧ Below wr.heap.size wr wx)
      case first =>
        by_cases hx0 : 0 ≤ x
        · have hd : decide (x ≥ 0) = true := decide_eq_true hx0
          by_cases hxy : x = y
          · subst hxy
            have hqt : q = true := by rw [← hq]; exact decide_eq_true ⟨hx0, rfl⟩
            clear hq
            subst hqt
            go_quiet (fail)
            go_wp2_with fail
            go_meet
            exact ⟨by simp, below_drewN (Below.refl _ _) _⟩
          · have hqt : q = false := by rw [← hq]; exact decide_eq_false (fun h => hxy h.2)
            clear hq
            subst hqt
            have hxy2 : (x == y) = false := by simpa using hxy
            go_quiet (fail)
            go_wp2_with fail
            go_meet
            exact ⟨by simp, below_drewN (Below.refl _ _) _⟩
        · have hd : decide (x ≥ 0) = false := decide_eq_false hx0
          have hqt : q = false := by rw [← hq]; exact decide_eq_false (fun h => hx0 h.1)
          clear hq
          subst hqt
          go_quiet (fail)
          go_wp2_with fail
          go_meet
          exact ⟨by simp, below_drewN (Below.refl _ _) _⟩
      case rest =>
      obtain ⟨rfl, hB1⟩ := hcut
      obtain ⟨w1, hw1⟩ : ∃ w1, w1 = wc := ⟨_, rfl⟩
      subst hw1
      have HJ1 := Lib.hid (HJ.out.below hB1)
      have cx1 := (hB1.cell (p := ⟨ba, oa + i, none⟩) hbal).trans cx
      have cy1 := (hB1.cell (p := ⟨bb, ob + k, none⟩) hbbl).trans cy
      clear hB1 cx cy hbal hbbl HJ
      cases q with
      | true =>
        obtain ⟨hx0, hxy⟩ := of_decide_eq_true hq
        subst hxy
        have H1 := Lib.hid (G1.out hx0 rfl)
        have H3 := Lib.hid (G3.out rfl)
        obtain ⟨A6, c6, rfl⟩ := HJ1.out.form
        obtain ⟨nt, hnt⟩ : ∃ nt, t.length = nt := ⟨_, rfl⟩
        have HNT := Lib.hid hnt
        rw [hnt] at hti
        have HROW := Lib.hid (World.ownsRow.alloc HJ1.out.row (.cells #[.int .i64 x] 3))
        rw [hnt] at HROW
        have HSZ := Lib.hid (show w.heap.size + 2 ≤ (w1.alloc (.cells #[.int .i64 x] 3)).heap.size by rw [World.size_alloc]; have := HJ1.out.size; omega)
        rw [hnt]
        clear hnt hq G1 G2 G3 G4
        go_wp2_with (at_builtin
                     refine wpList_append_own_at _ rfl _ _ 25 rfl (w.heap.size + 2) 3 i0 _ 1 8 Try.underlying25 hi hz0 hz1 hz2 rfl (by omega) (.slice A6 nt c6) nt (t.map (Value.int .i64)) rfl HROW.out ⟨w1.heap.size, 0, none⟩ 1 1 [.int .i64 x] rfl rfl
                       (World.news_of_block (cs := #[.int .i64 x]) (t := 3) (fr := (0, 0)) (heap_alloc_new w1 _)) (by simp [Value.oneCell']) (by unfold maxLen; omega) (by omega) HSZ.out ?_
                     intro v2 w2 hown hg _ _
                     have HJ2 := Lib.hid (HJ1.out.push (v' := v2) (x := x) (by rw [HNT.out]; exact hown) (by rw [HNT.out]; exact hg))
                     clear hown hg)
        go_roundw
        case rel =>
          obtain ⟨f', hf'⟩ := H1.out
          exact ⟨i + 1, k + 1, f', t ++ [x], met, by go_num, by go_num, by omega, by omega, by have := HNT.out; simp; omega, by have := HNT.out; simp; omega, Lib.hid hf', H3, HJ2.out⟩
        case measure => simp [intOf]; omega
      | false =>
        have hne := of_decide_eq_false hq
        have H2 := Lib.hid (G2.out hne)
        obtain ⟨P, hP⟩ : ∃ P, prt ss za i = P := ⟨_, rfl⟩
        obtain ⟨Q, hQ⟩ : ∃ Q, prt ss zb k = Q := ⟨_, rfl⟩
        rw [hP] at HPA H2 G4
        rw [hQ] at HPB H2 G4
        have hP1 := HPA.out.len
        have hQ1 := HPB.out.len
        have hP2 := HPA.out.le
        have hQ2 := HPB.out.le
        have gP : GoodT P := by rw [← hP]; exact prt_good HGA.out
        have gQ : GoodT Q := by rw [← hQ]; exact prt_good HGB.out
        have HGP := Lib.hid (show GoodT (P, Q).1 ∧ GoodT (P, Q).2 from ⟨gP, gQ⟩)
        have HPW : Hid ((za.drop i).take P.length = P) := Lib.hid (by rw [HPA.out.split]; simp)
        have HQW : Hid ((zb.drop k).take Q.length = Q) := Lib.hid (by rw [HPB.out.split]; simp)
        obtain ⟨m, hm⟩ : ∃ m, P.length = m := ⟨_, rfl⟩
        obtain ⟨n, hn⟩ : ∃ n, Q.length = n := ⟨_, rfl⟩
        rw [hm] at hP1 hP2 HPW H2 G4
        rw [hn] at hQ1 hQ2 HQW H2 G4
        rw [← HLA.out] at hP2
        rw [← HLB.out] at hQ2
        obtain ⟨ea, hea⟩ : ∃ ea, i + m = ea := ⟨_, rfl⟩
        obtain ⟨eb, heb⟩ : ∃ eb, k + n = eb := ⟨_, rfl⟩
        have HBA : Hid (∀ V, Below w1.heap.size w1 V → Calls Try.prog 175 #[.agg #[.slice As ns cs], .slice (some ⟨ba, oa, none⟩) na ca, .int .i64 i] V fun e w' => e = .returned (.int .i64 (ea : Int)) ∧ Below V.heap.size V w') := by
          refine Lib.hid fun V hV => ?_
          have := ubehind_any As (some ⟨ba, oa, none⟩) ns cs na ca ss za _ i V (HS.out.up (HJ1.out.bel.trans (hV.mono HJ1.out.bel.size))) (HA.out.up (HJ1.out.bel.trans (hV.mono HJ1.out.bel.size))) HAR.out HHA.out (by omega) hin HPA.out.whole
          rw [show za.length - (za.drop (i + P.length)).length = ea by rw [List.length_drop, hm]; have := HLA.out; omega] at this
          exact this
        have HBB : Hid (∀ V, Below w1.heap.size w1 V → Calls Try.prog 175 #[.agg #[.slice As ns cs], .slice (some ⟨bb, ob, none⟩) nb cb, .int .i64 k] V fun e w' => e = .returned (.int .i64 (eb : Int)) ∧ Below V.heap.size V w') := by
          refine Lib.hid fun V hV => ?_
          have := ubehind_any As (some ⟨bb, ob, none⟩) ns cs nb cb ss zb _ k V (HS.out.up (HJ1.out.bel.trans (hV.mono HJ1.out.bel.size))) (HB.out.up (HJ1.out.bel.trans (hV.mono HJ1.out.bel.size))) HAR.out HHB.out (by omega) hkn HPB.out.whole
          rw [show zb.length - (zb.drop (k + Q.length)).length = eb by rw [List.length_drop, hn]; have := HLB.out; omega] at this
          exact this
        have cbx := HJ1.out.box
        rw [HN.out] at cbx
        have hbx := cell_lt cbx
        clear hq hne hP hQ gP gQ G1 G2 G3
        go_upto_region 7 with fail
        go_cut [11, 12] from 17 to 88 (fun s11 s12 wx => s11 = .int .i64 (ea : Int) ∧ s12 = .int .i64 (eb : Int) ∧ Below w1.heap.size w1 wx)
        case first =>
          go_region_held3 (fun w' => w'.cell? ⟨N, 0, none⟩ = some (.slice As ns cs))
            (first | go_keep | assumption)
            (first
              | (go_at_call 175; ((with_reducible refine (HBA.out _ ((Below.refl _ w1).drew)).mono ?_); rintro e V1 ⟨rfl, hB1⟩); have hBA := below_then ((Below.refl _ w1).drew) hB1; have cbA := (hBA.cell (p := ⟨N, 0, none⟩) hbx).trans cbx; clear hB1)
              | (go_at_call 175; ((with_reducible refine (HBB.out _ ((Below.refl _ w1).drew)).mono ?_); rintro e V2 ⟨rfl, hB2⟩); have hBB := below_then ((Below.refl _ w1).drew) hB2; have cbB := (hBB.cell (p := ⟨N, 0, none⟩) hbx).trans cbx; clear hB2)
              | (go_at_call 175; ((with_reducible refine (HBA.out _ hBB).mono ?_); rintro e V3 ⟨rfl, hB3⟩); have hBC := below_then hBB hB3; have cbC := (hBC.cell (p := ⟨N, 0, none⟩) hbx).trans cbx; clear hB3)
              | (go_at_call 175; ((with_reducible refine (HBB.out _ hBA).mono ?_); rintro e V3 ⟨rfl, hB3⟩); have hBC := below_then hBA hB3; have cbC := (hBC.cell (p := ⟨N, 0, none⟩) hbx).trans cbx; clear hB3)
              | fail "goal")
          all_goals
            go_wp2_with fail
            go_meet
            exact ⟨rfl, rfl, hBC⟩
        case rest =>
        obtain ⟨rfl, rfl, hB2⟩ := hcut
        obtain ⟨w2, hw2⟩ : ∃ w2, w2 = wc := ⟨_, rfl⟩
        subst hw2
        have HJ2 := Lib.hid (HJ1.out.below hB2)
        clear hB2 cx1 cy1 cbx hbx HJ1 HBA HBB
        have hea2 : ea - i = m := by omega
        have heb2 : eb - k = n := by omega
        have HTP := Lib.hid (show pval (P, Q) = .agg #[.string (txt P), .string (txt Q)] from rfl)
        have HTA : Hid (∀ V, Below w2.heap.size w2 V → Calls Try.prog 186 #[.slice (some ⟨ba, oa + i, none⟩) m (ca - i)] V fun e w' => e = .returned (.string (txt P)) ∧ Below V.heap.size V w') := by
          refine Lib.hid fun V hV => ?_
          have h1 := ints_win (s := i) (e := ea) (HA.out.up (HJ2.out.bel.trans (hV.mono HJ2.out.bel.size))) (by omega) (by omega)
          rw [hea2, HPW.out] at h1
          exact utext_any _ _ _ P V h1 HGP.out.1.1 (by omega)
        have HTB : Hid (∀ V, Below w2.heap.size w2 V → Calls Try.prog 186 #[.slice (some ⟨bb, ob + k, none⟩) n (cb - k)] V fun e w' => e = .returned (.string (txt Q)) ∧ Below V.heap.size V w') := by
          refine Lib.hid fun V hV => ?_
          have h1 := ints_win (s := k) (e := eb) (HB.out.up (HJ2.out.bel.trans (hV.mono HJ2.out.bel.size))) (by omega) (by omega)
          rw [heb2, HQW.out] at h1
          exact utext_any _ _ _ Q V h1 HGP.out.2.1 (by omega)
        obtain ⟨tp, htp⟩ : ∃ tp, txt P = tp := ⟨_, rfl⟩
        obtain ⟨tq, htq⟩ : ∃ tq, txt Q = tq := ⟨_, rfl⟩
        rw [htp] at HTA HTP
        rw [htq] at HTB HTP
        clear htp htq
        have hs1 : i ≤ ea := by omega
        have hs2 : ea ≤ ca := by omega
        have hs3 : ¬ ca = i := by omega
        have hs4 : k ≤ eb := by omega
        have hs5 : eb ≤ cb := by omega
        have hs6 : ¬ cb = k := by omega
        go_upto_region 8 with fail
        go_cut [13] from 17 to 88 (fun s13 wx => ∃ g : Nat, s13 = .pointer (some ⟨g, 0, none⟩) ∧ w2.heap.size ≤ g ∧ wx.cell? ⟨g, 0, none⟩ = some (.string tp) ∧ wx.cell? ⟨g, 1, none⟩ = some (.string tq) ∧ Below w2.heap.size w2 wx)
        case first =>
          go_region_held3 (fun _ => True) (first | trivial | assumption)
            (first
              | (go_at_call 186; ((with_reducible refine (HTA.out _ ((Below.refl _ w2).drew)).mono ?_); rintro e V1 ⟨rfl, hBn⟩); have hBA := below_then ((Below.refl _ w2).drew) hBn; clear hBn)
              | (go_at_call 186; ((with_reducible refine (HTA.out _ ((below_al (Below.refl _ w2) _).drew)).mono ?_); rintro e V1 ⟨rfl, hBn⟩); have hBA := below_then ((below_al (Below.refl _ w2) _).drew) hBn; have kA := pair_new' hBn; obtain ⟨c0, c1, f0, f1⟩ := pair_facts kA; clear hBn)
              | (go_at_call 186; ((with_reducible refine (HTB.out _ ((Below.refl _ w2).drew)).mono ?_); rintro e V2 ⟨rfl, hBn⟩); have hBB := below_then ((Below.refl _ w2).drew) hBn; clear hBn)
              | (go_at_call 186; ((with_reducible refine (HTB.out _ ((below_al (Below.refl _ w2) _).drew)).mono ?_); rintro e V2 ⟨rfl, hBn⟩); have hBB := below_then ((below_al (Below.refl _ w2) _).drew) hBn; have kB := pair_new' hBn; obtain ⟨c0, c1, f0, f1⟩ := pair_facts kB; clear hBn)
              | (go_at_call 186; ((with_reducible refine (HTA.out _ hBB).mono ?_); rintro e V3 ⟨rfl, hBn⟩); have hBC := below_then hBB hBn; have kC := kB.below hBn kB.lt; obtain ⟨c0, c1, f0, f1⟩ := pair_facts kC; clear hBn)
              | (go_at_call 186; ((with_reducible refine (HTA.out _ hBB).mono ?_); rintro e V3 ⟨rfl, hBn⟩); have hBC := below_then hBB hBn; clear hBn)
              | (go_at_call 186; ((with_reducible refine (HTA.out _ (below_al hBB _)).mono ?_); rintro e V3 ⟨rfl, hBn⟩); have hBC := below_then (below_al hBB _) hBn; have kC := pair_new hBn; obtain ⟨c0, c1, f0, f1⟩ := pair_facts kC; clear hBn)
              | (go_at_call 186; ((with_reducible refine (HTB.out _ hBA).mono ?_); rintro e V3 ⟨rfl, hBn⟩); have hBC := below_then hBA hBn; have kC := kA.below hBn kA.lt; obtain ⟨c0, c1, f0, f1⟩ := pair_facts kC; clear hBn)
              | (go_at_call 186; ((with_reducible refine (HTB.out _ hBA).mono ?_); rintro e V3 ⟨rfl, hBn⟩); have hBC := below_then hBA hBn; clear hBn)
              | (go_at_call 186; ((with_reducible refine (HTB.out _ (below_al hBA _)).mono ?_); rintro e V3 ⟨rfl, hBn⟩); have hBC := below_then (below_al hBA _) hBn; have kC := pair_new hBn; obtain ⟨c0, c1, f0, f1⟩ := pair_facts kC; clear hBn)
              | fail "goal")
          all_goals
            go_wp2_with fail
            go_meet
            first
              | exact ⟨_, rfl, hBC.size, (Blk.new V3 _ _).cell 0, (Blk.new V3 _ _).cell 1, below_al hBC _⟩
              | exact ⟨_, rfl, hBA.size, by rw [((kC.set_ 0 (.string tp)).set_ 1 (.string tq)).cell]; rfl, by rw [((kC.set_ 0 (.string tp)).set_ 1 (.string tq)).cell]; rfl, (hBC.setCell hBA.size _).setCell hBA.size _⟩
              | exact ⟨_, rfl, hBB.size, by rw [((kC.set_ 0 (.string tp)).set_ 1 (.string tq)).cell]; rfl, by rw [((kC.set_ 0 (.string tp)).set_ 1 (.string tq)).cell]; rfl, (hBC.setCell hBB.size _).setCell hBB.size _⟩
              | exact ⟨_, rfl, Nat.le_refl _, by rw [((kC.set_ 0 (.string tp)).set_ 1 (.string tq)).cell]; rfl, by rw [((kC.set_ 0 (.string tp)).set_ 1 (.string tq)).cell]; rfl, (hBC.setCell (p := ⟨_, 0, none⟩) (Nat.le_refl _) _).setCell (p := ⟨_, 1, none⟩) (Nat.le_refl _) _⟩
        case rest =>
        obtain ⟨g, rfl, hgl, hc0, hc1, hB3⟩ := hcut
        obtain ⟨w3, hw3⟩ : ∃ w3, w3 = wc := ⟨_, rfl⟩
        subst hw3
        have HJ3 := Lib.hid (HJ2.out.below hB3)
        have hgN : w.heap.size + 2 ≤ g := Nat.le_trans HJ2.out.size hgl
        rw [hea, heb] at H2 G4
        clear hB3 HJ2 HTA HTB
        have hM3 := HJ3.out.map
        obtain ⟨nt, hnt⟩ : ∃ nt, t.length = nt := ⟨_, rfl⟩
        have HNT := Lib.hid hnt
        rw [hnt] at hti hml
        obtain ⟨c, hlk, hlc⟩ := hM3.look (P, Q) HGP.out
        rw [HTP.out] at hlk
        rw [HN.out] at hlk
        cases hcon : met.contains (P, Q) with
        | true =>
          have hl1 := hM3.look1 (P, Q) HGP.out hcon
          rw [HTP.out, HN.out] at hl1
          rw [hcon] at hlk
          have hm1 : meet1 met (P, Q) = met := by unfold meet1; rw [if_pos hcon]
          rw [hm1] at H2
          obtain ⟨z, hz⟩ : ∃ z, -(met.idxOf (P, Q) : Int) - 1 = z := ⟨_, rfl⟩
          have HE := Lib.hid hz
          rw [hz] at hl1
          clear hz hm1 hcon hlc hM3
          obtain ⟨A6, c6, rfl⟩ := HJ3.out.form
          have HROW := Lib.hid (World.ownsRow.alloc HJ3.out.row (.cells #[.int .i64 z] 3))
          rw [hnt] at HROW
          have HSZ := Lib.hid (show w.heap.size + 2 ≤ (w3.alloc (.cells #[.int .i64 z] 3)).heap.size by rw [World.size_alloc]; have := HJ3.out.size; omega)
          rw [hnt]
          clear hnt
          go_wp2_with (at_builtin
                       refine wpList_append_own_at _ rfl _ _ 25 rfl (w.heap.size + 2) 3 i0 _ 1 8 Try.underlying25 hi hz0 hz1 hz2 rfl (by omega) (.slice A6 nt c6) nt (t.map (Value.int .i64)) rfl HROW.out ⟨w3.heap.size, 0, none⟩ 1 1 [.int .i64 z] rfl rfl
                         (World.news_of_block (cs := #[.int .i64 z]) (t := 3) (fr := (0, 0)) (heap_alloc_new w3 _)) (by simp [Value.oneCell']) (by unfold maxLen; omega) (by omega) HSZ.out ?_
                       intro v5 w5 hown hg _ _
                       have HJ5 := Lib.hid (HJ3.out.push (v' := v5) (x := z) (by rw [HNT.out]; exact hown) (by rw [HNT.out]; exact hg))
                       clear hown hg)
          go_roundw
          case rel =>
            obtain ⟨f', hf'⟩ := H2.out
            rw [HE.out] at hf'
            exact ⟨ea, eb, f', t ++ [z], met, by go_num, by go_num, by omega, by omega, by have := HNT.out; simp; omega, by have := HNT.out; simp; omega, Lib.hid hf', G4, HJ5.out⟩
          case measure => simp [intOf]; omega
        | false =>
          obtain ⟨nm, hnm⟩ : ∃ nm, met.length = nm := ⟨_, rfl⟩
          obtain ⟨w4, hup, hM4, hg4⟩ := hM3.put (P, Q) HGP.out hcon (by omega)
          have hlen := hM3.len
          have hct : (met ++ [(P, Q)]).contains (P, Q) = true := by simp
          have hl1 := hM4.look1 (P, Q) HGP.out hct
          have hidx : (met ++ [(P, Q)]).idxOf (P, Q) = met.length := by
            rw [List.idxOf_append, if_neg (fun hm => by have := List.contains_iff_mem.2 hm; rw [hcon] at this; cases this)]
            simp
          rw [hidx] at hl1
          have hm1 : meet1 met (P, Q) = met ++ [(P, Q)] := by unfold meet1; rw [if_neg (by rw [hcon]; exact Bool.false_ne_true)]
          rw [hm1, hidx] at H2
          rw [HTP.out, HN.out] at hl1 hup
          rw [HN.out] at hlen
          rw [hcon] at hlk
          rw [hnm] at hl1 hup hlen H2 hml
          have hgo : g < w3.heap.size := cell_lt hc0
          have hd0 : w4.cell? ⟨g, 0, none⟩ = some (.string tp) := (World.cell?_of_block (hg4.block g hgo (fun e => by have := Option.some.inj e; omega))).trans hc0
          have hd1 : w4.cell? ⟨g, 1, none⟩ = some (.string tq) := (World.cell?_of_block (hg4.block g hgo (fun e => by have := Option.some.inj e; omega))).trans hc1
          have HJ4 := Lib.hid (HJ3.out.put hM4 hg4)
          have HE := Lib.hid hnm
          clear hM3 hM4 hg4 hm1 hidx hct hcon hlc hnm hgo
          obtain ⟨A6, c6, rfl⟩ := HJ4.out.form
          have HROW := Lib.hid (World.ownsRow.alloc HJ4.out.row (.cells #[.int .i64 (-(nm : Int) - 1)] 3))
          rw [hnt] at HROW
          have HSZ := Lib.hid (show w.heap.size + 2 ≤ (w4.alloc (.cells #[.int .i64 (-(nm : Int) - 1)] 3)).heap.size by rw [World.size_alloc]; have := HJ4.out.size; omega)
          rw [hnt]
          clear hnt
          go_wp2_with (at_builtin
                       refine wpList_append_own_at _ rfl _ _ 25 rfl (w.heap.size + 2) 3 i0 _ 1 8 Try.underlying25 hi hz0 hz1 hz2 rfl (by omega) (.slice A6 nt c6) nt (t.map (Value.int .i64)) rfl HROW.out ⟨w4.heap.size, 0, none⟩ 1 1 [.int .i64 (-(nm : Int) - 1)] rfl rfl
                         (World.news_of_block (cs := #[.int .i64 (-(nm : Int) - 1)]) (t := 3) (fr := (0, 0)) (heap_alloc_new w4 _)) (by simp [Value.oneCell']) (by unfold maxLen; omega) (by omega) HSZ.out ?_
                       intro v5 w5 hown hg _ _
                       have HJ5 := Lib.hid (HJ4.out.push (v' := v5) (x := (-(nm : Int) - 1)) (by rw [HNT.out]; exact hown) (by rw [HNT.out]; exact hg))
                       clear hown hg)
          go_roundw
          case rel =>
            obtain ⟨f', hf'⟩ := H2.out
            exact ⟨ea, eb, f', t ++ [(-(nm : Int) - 1)], met ++ [(P, Q)], by go_num, by go_num, by omega, by omega, by have := HNT.out; simp; omega, by have := HNT.out; have := HE.out; simp; omega, Lib.hid hf', G4, HJ5.out⟩
          case measure => simp [intOf]; omega
    · obtain rfl : i = na := by omega
      have HD := Lib.hid (hG.out.done (by rw [HLA.out]; exact Nat.le_refl _))
      have hlen := hJ.map.len
      rw [HN.out] at hlen
      obtain ⟨nm, hnm⟩ : ∃ nm, met.length = nm := ⟨_, rfl⟩
      rw [hnm] at hlen hml
      have HNM := Lib.hid hnm
      clear hJ hG hSd hnm
      go_wp2
      go_ret2
      have h1 := HD.out
      subst h1
      exact ⟨_, by rw [HNM.out]; rfl, HJ.out.row, HJ.out.bel, by rw [HNM.out]; exact hml, hti⟩

end Go.Proofs.Ytgbfccbnbgbknaa

namespace Go.Proofs.Ytgbfccbnbgbknaa
open Go.RowKit

/-- What Join returns, and its error. -/
def joinZ (ss : Sg) (za zb : List Int) : List Int × Int :=
  if (comF ss za.length za zb []).2.length ≤ 12 then ((comF ss za.length za zb []).1, 0) else ([], 4)
theorem valOk_more {ss : Sg} {zs : List Int} (h : valOk ss zs = true) : sigOk ss = true ∧ ArOk ss ∧ HeadsOk ss zs ∧ GoodT zs ∧ scan ss 1 zs = some [] ∧ 1 ≤ zs.length ∧ zs.length ≤ 60 := by
  have hso : sigOk ss = true := by
    have := h
    simp only [valOk, Bool.and_eq_true] at this
    exact this.1
  obtain ⟨h1, h60, hn, hsc⟩ := valOk_term h
  have hl := sigOk_len hso
  exact ⟨hso, sigOk_ar hso, fun z hz => (hn z hz).2, ⟨fun z hz => by have := hn z hz; omega, by omega⟩, hsc, h1, h60⟩

set_option maxRecDepth 100000 in
set_option maxHeartbeats 1000000 in
theorem ujoink_any (As Aa Ab : Option Addr) (ns cs na ca nb cb : Nat) (ss : Sg) (za zb : List Int) (w : World) (hs : SigAt w w.heap.size As ns ss) (ha : IntsAt w w.heap.size Aa na za) (hb : IntsAt w w.heap.size Ab nb zb)
    (hca : na ≤ ca) (hca2 : ca ≤ 9223372036854775807) (hcb : nb ≤ cb) (hcb2 : cb ≤ 9223372036854775807) (hva : valOk ss za = true) (hvb : valOk ss zb = true) :
    Calls Try.prog 52 #[.slice As ns cs, .slice Aa na ca, .slice Ab nb cb] w (RetK w (joinZ ss za zb).1 (joinZ ss za zb).2) := by
  obtain ⟨hso, har, hha, hga, hsa, a1, a60⟩ := valOk_more hva
  obtain ⟨_, _, hhb, hgb, hsb, b1, b60⟩ := valOk_more hvb
  have hla := ha.len
  have hlb := hb.len
  have CV := Lib.hid (uvalid_any As (some ⟨w.heap.size, 0, none⟩) ns cs 2 2 ss _ [za, zb] (w.alloc (.cells #[.slice Aa na ca, .slice Ab nb cb] 25)) (hs.alloc _) (TermsAt.two (ca := ca) (cb := cb) ha hb) (by omega))
  rw [show ([za, zb].all (valOk ss) && sigOk ss) = true by simp [hva, hvb, hso]] at CV
  obtain ⟨R, hR⟩ : ∃ R, comF ss za.length za zb [] = R := ⟨_, rfl⟩
  have CJ : Hid (∀ V, Below w.heap.size w V → Calls Try.prog 124 #[.agg #[.slice As ns cs], .slice Aa na ca, .slice Ab nb cb] V fun e w' => ∃ A c, e = .returned (.tuple #[.slice A R.1.length c, .int .i64 (R.2.length : Int)]) ∧ IntsAt w' w'.heap.size A R.1.length R.1 ∧ (R.1.length ≤ c ∧ c ≤ 9223372036854775807) ∧ Below V.heap.size V w') := by
    refine Lib.hid fun V hV => ?_
    refine (join_any As Aa Ab ns cs na ca nb cb ss za zb V (hs.up hV) (ha.up hV) (hb.up hV) hca hca2 hcb hcb2 har hha hhb hga hgb hsa hsb (by omega) (by omega) R (by rw [hla]; exact hR)).mono ?_
    rintro e w' ⟨v, rfl, hrow, hB, _, hl⟩
    obtain ⟨A, c, rfl, hI, hk⟩ := row_intsk hrow (by omega)
    exact ⟨A, c, rfl, hI, hk, hB⟩
  obtain ⟨nr, hnr⟩ : ∃ nr, R.2.length = nr := ⟨_, rfl⟩
  have hjz : joinZ ss za zb = if nr ≤ 12 then (R.1, 0) else ([], 4) := by unfold joinZ; rw [hR, hnr]
  rw [hnr] at CJ
  rw [hjz]
  by_cases h12 : nr ≤ 12
  · rw [if_pos h12]
    have hq : ¬ (nr : Int) > 12 := by omega
    clear hs ha hb hva hvb hso har hha hga hsa hhb hgb hsb hR hjz hnr hla hlb
    go_enter Try.func52, Try.ntmps52
    go_wp2_with (first
      | (go_at_call 106; refine CV.out.mono ?_; rintro e w1 ⟨rfl, hB1⟩; have HB1 := Lib.hid (((Below.refl _ w).alloc (Nat.le_refl _) _).trans (hB1.mono (by simp))); clear hB1)
      | (go_at_call 124; refine (CJ.out _ HB1.out).mono ?_; rintro e w2 ⟨A, c, rfl, hI, hk, hB2⟩; have HK := Lib.hid hk; clear hk; have HI := Lib.hid hI; have HB2 := Lib.hid hB2; clear hI hB2))
    go_ret2
    exact ⟨_, _, _, rfl, HI.out, HK.out, below_then HB1.out HB2.out⟩
  · rw [if_neg h12]
    have hq : (nr : Int) > 12 := by omega
    clear hs ha hb hva hvb hso har hha hga hsa hhb hgb hsb hR hjz hnr hla hlb
    go_enter Try.func52, Try.ntmps52
    go_wp2_with (first
      | (go_at_call 106; refine CV.out.mono ?_; rintro e w1 ⟨rfl, hB1⟩; have HB1 := Lib.hid (((Below.refl _ w).alloc (Nat.le_refl _) _).trans (hB1.mono (by simp))); clear hB1)
      | (go_at_call 124; refine (CJ.out _ HB1.out).mono ?_; rintro e w2 ⟨A, c, rfl, hI, hk, hB2⟩; have HK := Lib.hid hk; clear hk; have HI := Lib.hid hI; have HB2 := Lib.hid hB2; clear hI hB2))
    go_ret2
    exact ⟨none, 0, 0, rfl, IntsAt.nil _ _ 0, by omega, below_then HB1.out HB2.out⟩

theorem ujoin_any (As Aa Ab : Option Addr) (ns cs na ca nb cb : Nat) (ss : Sg) (za zb : List Int) (w : World) (hs : SigAt w w.heap.size As ns ss) (ha : IntsAt w w.heap.size Aa na za) (hb : IntsAt w w.heap.size Ab nb zb)
    (hca : na ≤ ca) (hca2 : ca ≤ 9223372036854775807) (hcb : nb ≤ cb) (hcb2 : cb ≤ 9223372036854775807) (hva : valOk ss za = true) (hvb : valOk ss zb = true) :
    Calls Try.prog 52 #[.slice As ns cs, .slice Aa na ca, .slice Ab nb cb] w (RetT w (joinZ ss za zb).1 (joinZ ss za zb).2) :=
  (ujoink_any As Aa Ab ns cs na ca nb cb ss za zb w hs ha hb hca hca2 hcb hcb2 hva hvb).mono fun _ _ h => h.ret

theorem blk_next (w : World) (o : Obj) (k : Nat) (T : TypeId) (cs : Array Value) : Blk (((w.alloc o).drewN k).alloc (.cells cs T)) (w.heap.size + 1) T cs := by
  have := Blk.new ((w.alloc o).drewN k) T cs
  rw [show ((w.alloc o).drewN k).heap.size = w.heap.size + 1 from World.size_alloc w o] at this
  exact this
theorem awake2_meet {W : World} {b b2 b3 : Nat} (h : Blk W b 77 cellsCN) (h2 : Blk W b2 3 #[.int .i64 (-1)]) (h3 : Blk W b3 3 #[.int .i64 1, .int .i64 (-1)]) :
    Calls Try.prog 48 #[.slice (some ⟨b, 0, none⟩) 2 2, .slice (some ⟨b2, 0, none⟩) 1 1, .slice (some ⟨b3, 0, none⟩) 2 2] W (RetT W [1, -1] 0) :=
  meet_any _ _ _ 2 2 1 1 2 2 sgCN [-1] [1, -1] 100 ([1, -1], 0) W (sig_of_blk h) (ints_of_blk _ _ _ rfl h2 rfl (by decide)) (ints_of_blk _ _ _ rfl h3 rfl (by decide)) (by decide +kernel) (by decide +kernel) (by omega) (by decide +kernel)
theorem awake2_join {W : World} {b b2 b3 : Nat} (h : Blk W b 77 cellsCN) (h2 : Blk W b2 3 #[.int .i64 0, .int .i64 (-1), .int .i64 (-1)]) (h3 : Blk W b3 3 #[.int .i64 0, .int .i64 1, .int .i64 (-1), .int .i64 1, .int .i64 (-2)]) :
    Calls Try.prog 52 #[.slice (some ⟨b, 0, none⟩) 2 2, .slice (some ⟨b2, 0, none⟩) 3 3, .slice (some ⟨b3, 0, none⟩) 5 5] W (RetT W [0, -1, -2] 0) := by
  have hd : joinZ sgCN [0, -1, -1] [0, 1, -1, 1, -2] = ([0, -1, -2], 0) := by decide +kernel
  have := ujoin_any _ _ _ 2 2 3 3 5 5 sgCN [0, -1, -1] [0, 1, -1, 1, -2] W (sig_of_blk h) (ints_of_blk _ _ _ rfl h2 rfl (by decide)) (ints_of_blk _ _ _ rfl h3 rfl (by decide)) (by omega) (by omega) (by omega) (by omega) (by decide +kernel) (by decide +kernel)
  rw [hd] at this
  exact this

set_option maxRecDepth 100000 in
set_option maxHeartbeats 1000000 in
theorem awake2_any (w : World) : Calls Try.prog 28 #[] w fun e w' => e = .returned (.bool true) ∧ Below w.heap.size w w' := by
  have HM : Hid (Calls Try.prog 48 #[.slice (some ⟨w.heap.size, 0, none⟩) 2 2, .slice (some ⟨w.heap.size + 1, 0, none⟩) 1 1, .slice (some ⟨w.heap.size + 1 + 1, 0, none⟩) 2 2] (((w.alloc (.cells cellsCN 77)).alloc (.cells #[.int .i64 (-1)] 3)).alloc (.cells #[.int .i64 1, .int .i64 (-1)] 3)) fun e w' =>
      ∃ A n c, e = .returned (.tuple #[.slice A n c, .int .i64 0]) ∧ IntsAt w' w'.heap.size A n [1, -1] ∧ Below w.heap.size w w' ∧ Blk w' w.heap.size 77 cellsCN) := by
    have k1 : Blk (((w.alloc (.cells cellsCN 77)).alloc (.cells #[.int .i64 (-1)] 3)).alloc (.cells #[.int .i64 1, .int .i64 (-1)] 3)) w.heap.size 77 cellsCN := ((Blk.new w _ _).alloc _).alloc _
    have k2 : Blk (((w.alloc (.cells cellsCN 77)).alloc (.cells #[.int .i64 (-1)] 3)).alloc (.cells #[.int .i64 1, .int .i64 (-1)] 3)) (w.heap.size + 1) 3 #[.int .i64 (-1)] := by
      have := (Blk.new (w.alloc (.cells cellsCN 77)) 3 #[.int .i64 (-1)]).alloc (.cells #[.int .i64 1, .int .i64 (-1)] 3)
      rw [World.size_alloc] at this
      exact this
    have k3 : Blk (((w.alloc (.cells cellsCN 77)).alloc (.cells #[.int .i64 (-1)] 3)).alloc (.cells #[.int .i64 1, .int .i64 (-1)] 3)) (w.heap.size + 1 + 1) 3 #[.int .i64 1, .int .i64 (-1)] := by
      have := Blk.new ((w.alloc (.cells cellsCN 77)).alloc (.cells #[.int .i64 (-1)] 3)) 3 #[.int .i64 1, .int .i64 (-1)]
      rw [World.size_alloc, World.size_alloc] at this
      exact this
    refine (awake2_meet k1 k2 k3).mono ?_
    rintro e w' ⟨A, n, c, rfl, hI, hB⟩
    exact ⟨A, n, c, rfl, hI, below_then (below_al (below_al (below_al (Below.refl _ w) _) _) _) hB, k1.below hB k1.lt⟩
  have HJ : Hid (∀ V : World, Below w.heap.size w V → Blk V w.heap.size 77 cellsCN → Calls Try.prog 52 #[.slice (some ⟨w.heap.size, 0, none⟩) 2 2, .slice (some ⟨V.heap.size, 0, none⟩) 3 3, .slice (some ⟨V.heap.size + 1, 0, none⟩) 5 5] ((V.alloc (.cells #[.int .i64 0, .int .i64 (-1), .int .i64 (-1)] 3)).alloc (.cells #[.int .i64 0, .int .i64 1, .int .i64 (-1), .int .i64 1, .int .i64 (-2)] 3)) fun e w' =>
      ∃ A n c, e = .returned (.tuple #[.slice A n c, .int .i64 0]) ∧ IntsAt w' w'.heap.size A n [0, -1, -2] ∧ Below V.heap.size V w') := by
    refine Lib.hid fun V hV kS => ?_
    have k2 : Blk ((V.alloc (.cells #[.int .i64 0, .int .i64 (-1), .int .i64 (-1)] 3)).alloc (.cells #[.int .i64 0, .int .i64 1, .int .i64 (-1), .int .i64 1, .int .i64 (-2)] 3)) (V.heap.size + 1) 3 #[.int .i64 0, .int .i64 1, .int .i64 (-1), .int .i64 1, .int .i64 (-2)] := by
      have := Blk.new (V.alloc (.cells #[.int .i64 0, .int .i64 (-1), .int .i64 (-1)] 3)) 3 #[.int .i64 0, .int .i64 1, .int .i64 (-1), .int .i64 1, .int .i64 (-2)]
      rw [World.size_alloc] at this
      exact this
    refine (awake2_join ((kS.alloc _).alloc _) ((Blk.new V _ _).alloc _) k2).mono ?_
    rintro e w' ⟨A, n, c, rfl, hI, hB⟩
    exact ⟨A, n, c, rfl, hI, below_then (below_al (below_al (Below.refl _ V) _) _) hB⟩
  have HS1 : Hid (∀ (W : World) (b : Nat) {A : Option Addr} {n c : Nat}, IntsAt W W.heap.size A n [1, -1] → Blk W b 3 #[.int .i64 1, .int .i64 (-1)] → Calls Try.prog 21 #[.slice A n c, .slice (some ⟨b, 0, none⟩) 2 2] W fun e w' => e = .returned (.bool true) ∧ ∃ k, w' = W.drewN k) :=
    Lib.hid fun W b A n c h k => same_self _ _ n c 2 2 [1, -1] W _ h (ints_of_blk [1, -1] 2 _ rfl k rfl (by decide))
  have HS2 : Hid (∀ (W : World) (b : Nat) {A : Option Addr} {n c : Nat}, IntsAt W W.heap.size A n [0, -1, -2] → Blk W b 3 #[.int .i64 0, .int .i64 (-1), .int .i64 (-2)] → Calls Try.prog 21 #[.slice A n c, .slice (some ⟨b, 0, none⟩) 3 3] W fun e w' => e = .returned (.bool true) ∧ ∃ k, w' = W.drewN k) :=
    Lib.hid fun W b A n c h k => same_self _ _ n c 3 3 [0, -1, -2] W _ h (ints_of_blk [0, -1, -2] 3 _ rfl k rfl (by decide))
  go_enter Try.func28, Try.ntmps28
  go_wp2_with (first
    | (go_at_call 48; refine HM.out.mono ?_; rintro e w3 ⟨A3, n3, c3, rfl, hI3, hB3, kS⟩; have HI3 := Lib.hid hI3; have HB3 := Lib.hid hB3; have HJ' := Lib.hid (HJ.out w3 hB3 kS); clear hI3 hB3 kS)
    | (go_at_call 52; refine HJ'.out.mono ?_; rintro e w4 ⟨A4, n4, c4, rfl, hI4, hB4⟩; have HI4 := Lib.hid hI4; have HI3' := Lib.hid (HI3.out.up hB4); have HB4 := Lib.hid (below_then HB3.out hB4); clear hI4 hB4)
    | (go_at_call 21; ((with_reducible refine (HS1.out _ _ (HI3'.out.alloc _) (Blk.new _ _ _)).mono ?_); rintro e w5 ⟨rfl, k5, rfl⟩); have HI4' := Lib.hid ((HI4.out.alloc (.cells #[.int .i64 1, .int .i64 (-1)] 3)).drewN' k5); have HK2 := Lib.hid (blk_next w4 (.cells #[.int .i64 1, .int .i64 (-1)] 3) k5 3 #[.int .i64 0, .int .i64 (-1), .int .i64 (-2)]))
    | (go_at_call 21; ((with_reducible refine (HS2.out _ _ (HI4'.out.alloc _) HK2.out).mono ?_); rintro e w6 ⟨rfl, k6, rfl⟩)))
  go_ret
  exact ⟨rfl, below_drewN (below_al (below_drewN (below_al HB4.out _) _) _) _⟩

end Go.Proofs.Ytgbfccbnbgbknaa
