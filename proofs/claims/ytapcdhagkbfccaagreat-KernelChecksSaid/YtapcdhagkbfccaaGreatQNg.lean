/- The reference's right, Run and Says at any arguments. -/
import Derived.Test.YtapcdhagkbfccaaGreatQGg
import Derived.Test.YtapcdhagkbfccaaGreatPYg
import Derived.Test.YtapcdhagkbfccaaGreatQRg
/- The reference's run: what it hands back. -/
namespace Go.Proofs.YtapcdhagkbfccaaGreat
open Go.RowKit

theorem det_valid {ss : Sg} {zm zn : List Int} (vm : valOk ss zm = true) (vn : valOk ss zn = true) (h0 : (detZ ss zm zn).2 = 0) : valOk ss (detZ ss zm zn).1 = true :=
  (ins_valid (det_gen (canon_ins vm vm rfl) (canon_ins vn vn rfl) h0 (by rw [h0]; decide) (by rw [h0]; decide)).2).2
theorem giv_at {ss : Sg} {gg : List (List Int)} (h : givOk ss gg = true) {j : Nat} (hj : j < gg.length) : valOk ss (gg.getD j []) = true := by
  rw [List.getD_eq_getElem?_getD, List.getElem?_eq_getElem hj]
  exact (givOk_to h).2.2 _ (List.getElem_mem hj)
/-- What is said is valid. -/
theorem sayL_valid {ss : Sg} {gg : List (List Int)} {pp : List Stp} (hg : givOk ss gg = true) (hp : stepsTo (gg.length : Int) pp pp.length) : ∀ k, k ≤ pp.length → sayTo ss gg pp k → ∀ j, j < k → valOk ss ((sayL ss gg pp k).getD j []) = true
  | 0, _, _ => fun j hj => by omega
  | k + 1, hk, h => fun j hj => by
    have ih := sayL_valid hg hp k (by omega) (fun i hi => h i (by omega))
    have hx : pp[k]? = some pp[k] := List.getElem?_eq_getElem (by omega)
    have hd : pp.getD k (0, 0, 0) = pp[k] := by rw [List.getD_eq_getElem?_getD, hx]; rfl
    rw [sayL]
    by_cases hjk : j < k
    · rw [List.getD_eq_getElem?_getD, List.getElem?_append_left (by rw [sayL_len]; exact hjk), ← List.getD_eq_getElem?_getD]
      exact ih j hjk
    · obtain rfl : j = k := by omega
      rw [List.getD_eq_getElem?_getD, List.getElem?_append_right (by rw [sayL_len]; omega), sayL_len, Nat.sub_self]
      simp only [List.getElem?_cons_zero, Option.getD_some]
      have he := h j (by omega)
      unfold sayE at he
      rw [hd] at he ⊢
      unfold saysZ at he ⊢
      rcases stepOk_num (hp j (by omega) _ hx) with ⟨a1, a2, a3, a4⟩ | ⟨a1, a2, a3, a4, a5⟩
      · rw [if_pos a1]
        exact valOk_canon (giv_at hg (by omega))
      · rw [if_neg (by omega)] at he ⊢
        exact det_valid (ih _ (by omega)) (ih _ (by omega)) he

/-- A term of a list in memory, with its capacity. -/
theorem terms_cap {w : World} {B : Nat} {A : Option Addr} {n : Nat} {ls : List Hd} {tt : List (List Int)} (h : TermsAt w B A n ls tt) (hc : ∀ x ∈ ls, capOk x) {j : Nat} (hj : j < n) :
    ∃ b off A' n' c', A = some ⟨b, off, none⟩ ∧ b < B ∧ w.cell? ⟨b, off + j, none⟩ = some (.slice A' n' c') ∧ IntsAt w B A' n' (tt.getD j []) ∧ n' ≤ c' ∧ c' ≤ 9223372036854775807 := by
  have hn := h.len
  have hll := h.hds.len
  obtain ⟨b, off, e1, hb, hcell⟩ := h.hds.mem (by omega)
  have h1 : j < ls.length := by omega
  have h2 : j < tt.length := by omega
  have hI := h.each j h1 h2
  have hk := hc _ (List.getElem_mem h1)
  refine ⟨b, off, _, _, _, e1, hb, hcell j h1, ?_, hk.1, hk.2⟩
  rw [List.getD_eq_getElem?_getD, List.getElem?_eq_getElem h2]
  exact hI

/-- What the reference's run hands back. -/
def RetRr (w : World) (T : List (List Int)) (er : Int) (e : Ending) (w' : World) : Prop :=
  ∃ A n c ls, e = .returned (.tuple #[.slice A n c, .int .i64 er]) ∧ TermsAt w' w'.heap.size A n ls T ∧ Below w.heap.size w w' ∧ ∀ x ∈ ls, capOk x

set_option maxRecDepth 100000 in
set_option maxHeartbeats 2000000 in
theorem refrun_any (As Ag Ap : Option Addr) (ns cs ng cg np cp : Nat) (ss : Sg) (lg : List Hd) (gg : List (List Int)) (pp : List Stp) (w : World) (hs : SigAt w w.heap.size As ns ss) (hg : TermsAt w w.heap.size Ag ng lg gg) (hp : StepsAt w w.heap.size Ap np pp) (hgiv : givOk ss gg = true) (hprf : proofOk (gg.length : Int) pp = true) :
    Calls Tryz.prog 44 #[.slice As ns cs, .slice Ag ng cg, .slice Ap np cp] w (RetRr w (runZ ss gg pp).1 (runZ ss gg pp).2.2) := by
  obtain ⟨hg0, hl60, hto⟩ := proofOk_to hprf
  have hlp := hp.len
  have hlg := hg.len
  have hng60 := (givOk_to hgiv).2.1
  have hnp : np ≤ 60 := by omega
  have hng : ng ≤ 60 := by omega
  have hRZ : runZ ss gg pp = runF ss gg pp pp.length 0 := by unfold runZ; rw [hgiv, hprf]; rfl
  rw [hRZ]
  have HEND := Lib.hid (fun (h : sayTo ss gg pp np) => show runF ss gg pp pp.length 0 = (sayL ss gg pp np, -1, 0) from by
    rw [← hlp, runF_to np np (Nat.le_refl _) h, Nat.sub_self, runF])
  have HSTOP := Lib.hid (fun (k : Nat) (hk : k < np) (h : sayTo ss gg pp k) (he : sayE ss gg pp k ≠ 0) => show runF ss gg pp pp.length 0 = (sayL ss gg pp k, (k : Int), sayE ss gg pp k) from by
    rw [← hlp, runF_to np k (by omega) h, show np - k = np - (k + 1) + 1 by omega, runF, if_neg he])
  have HTO := Lib.hid (fun k (hk : k < np) (x : Stp) (hx : pp[k]? = some x) => show (x.1 = 1 ∧ 0 ≤ x.2.1 ∧ x.2.1 < (ng : Int) ∧ x.2.2 = 0) ∨ (x.1 = 2 ∧ 0 ≤ x.2.1 ∧ x.2.1 < (k : Int) ∧ 0 ≤ x.2.2 ∧ x.2.2 < (k : Int)) from by
    have := stepOk_num (hto k (by omega) x hx)
    rw [← hlg] at this
    exact this)
  have HVAL := Lib.hid (fun (k : Nat) (hk : k ≤ np) (h : sayTo ss gg pp k) => sayL_valid hgiv hto k (by omega) h)
  have HGV := Lib.hid (fun (j : Nat) (hj : j < ng) => giv_at hgiv (show j < gg.length by omega))
  have HSAY := Lib.hid (fun (k : Nat) (x : Stp) (hx : pp[k]? = some x) => show sayL ss gg pp (k + 1) = sayL ss gg pp k ++ [(saysZ ss gg (sayL ss gg pp k) x).1] ∧ sayE ss gg pp k = (saysZ ss gg (sayL ss gg pp k) x).2 from by
    have hd : pp.getD k (0, 0, 0) = x := by rw [List.getD_eq_getElem?_getD, hx]; rfl
    exact ⟨by rw [sayL, hd], by unfold sayE; rw [hd]⟩)
  have HP := Lib.hid hp
  have HG := Lib.hid hg
  have HS := Lib.hid hs
  obtain ⟨Z, hZ⟩ : ∃ Z, runF ss gg pp pp.length 0 = Z := ⟨_, rfl⟩
  rw [hZ] at HEND HSTOP ⊢
  obtain ⟨i0, hi, hz0, hz1, hz2⟩ := info_parts info_term
  by_cases hnp1 : np = 0
  · omega
  obtain ⟨bp, offp, rfl, hbp, _⟩ := hp.mem (by omega)
  clear hp hg hs hgiv hprf hto hl60 hg0 hlp hlg hng60 hRZ hZ hbp hnp1
  go_enter Tryz.func44, Tryz.ntmps44
  go_wp2_with fail
  go_loopw [8, 9] (fun v i wr => ∃ (k : Nat) (lk : List Hd) (Av : Option Addr) (cv : Nat), k ≤ np ∧ i = .int .i64 k ∧ v = .slice Av k cv ∧ RowsAt 36 wr w.heap.size (.slice Av k cv) k lk (sayL ss gg pp k) ∧ Below w.heap.size w wr ∧ sayTo ss gg pp k ∧ ∀ x ∈ lk, capOk x) (fun _ i _ => np - (intOf i).toNat)
  case atStart => exact ⟨0, [], none, 0, Nat.zero_le _, rfl, rfl, RowsAt.nil _ _ _, Below.refl _ _, fun j hj => by omega, fun x hx => by simp at hx⟩
  case round =>
    obtain ⟨k, lk, Av, cv, hk, rfl, rfl, hrow, hB, hsay, hcap⟩ := hrel
    have HB := Lib.hid hB
    have HR := Lib.hid hrow
    have HC := Lib.hid hcap
    have HSY := Lib.hid hsay
    by_cases hlt : k < np
    · obtain ⟨b', off', x, y, z, e', hb', q1, q2, q3, q4⟩ := HP.out.cellAt hlt
      cases e'
      have r1 := (hB.cell (p := ⟨bp, offp + k * 3, none⟩) hb').trans q1
      have r2 := (hB.cell (p := ⟨bp, offp + k * 3 + 1, none⟩) hb').trans q2
      have r3 := (hB.cell (p := ⟨bp, offp + k * 3 + 2, none⟩) hb').trans q3
      have hk0 : (0 : Int) ≤ (k : Int) := by omega
      have hk1 : (k : Int) < (np : Int) := by omega
      obtain ⟨s1, s2⟩ := HSAY.out k _ q4
      rcases HTO.out k hlt _ q4 with ⟨h1, h2, h3, h4⟩ | ⟨h1, h2, h3, h4, h5⟩
      · simp only at h1 h2 h3 h4
        subst h1
        obtain ⟨yn, rfl⟩ := Int.eq_ofNat_of_zero_le h2
        have hyn : yn < ng := by omega
        obtain ⟨bg, og, A', n', c', t', rfl, hbg, u1, u2, hI⟩ := HG.out.cellAt hyn
        have u3 := (hB.cell (p := ⟨bg, og + yn, none⟩) hbg).trans u1
        have hv := HGV.out yn hyn
        rw [List.getD_eq_getElem?_getD, u2, Option.getD_some] at hv
        obtain ⟨v1, v60, v3, v4⟩ := valOk_term hv
        have hl' := hI.len
        have hsz : saysZ ss gg (sayL ss gg pp k) (1, (yn : Int), z) = (canon t', 0) := by
          unfold saysZ
          rw [if_pos rfl]
          simp only [Int.toNat_natCast]
          rw [List.getD_eq_getElem?_getD, u2, Option.getD_some]
        rw [hsz] at s1 s2
        have HS1 := Lib.hid s1
        have HSN := Lib.hid (sayTo_succ hsay s2)
        have CR := Lib.hid (refRenamed_f A' n' c' t' wr (hI.up hB) (by omega) (by omega) (fun q hq => by have h5 := (v3 q hq).1; have h6 := (v3 q hq).2; have h7 := sigOk_len (valOk_sig hv); omega))
        obtain ⟨ct, hct⟩ : ∃ ct, canon t' = ct := ⟨_, rfl⟩
        rw [hct] at CR HS1
        have y0 : (0 : Int) ≤ (yn : Int) := by omega
        clear q1 q2 q3 q4 hB hrow hsay hcap s1 s2 h2 h4 hbg u1 u2 hI hv v1 v60 v3 v4 hl' hsz hct
        go_wp2_with (first
          | (go_at_call 62
             (with_reducible refine CR.out.mono ?_)
             rintro e w5 ⟨A5, c5, rfl, ⟨hI5, hk5⟩, hB5, b5, hA5, hb5⟩
             have HI5 := Lib.hid (show IntsBut w5 (Value.slice Av k cv).ownBlock A5 n' ct from ⟨hI5.len, hI5.max, fun h0 => by
               obtain ⟨b6, o6, e6, hb6, hc6⟩ := hI5.mem h0
               refine ⟨b6, o6, e6, hb6, fun e => ?_, hc6⟩
               rw [hA5] at e6
               cases e6
               have := (HR.out.row.lt _ e.symm).2
               omega⟩)
             have HK5 := Lib.hid (show capOk (A5, n', c5) from hk5)
             have HR5 := Lib.hid (HR.out.below hB5)
             have HB5 := Lib.hid (below_then HB.out hB5)
             clear hI5 hk5 hB5 hA5 hb5)
          | (at_builtin
             refine wpList_append_own_at _ rfl _ _ 35 rfl w.heap.size 36 i0 _ 1 24 Tryz.underlying35 hi hz0 hz1 hz2 rfl (by omega) (.slice Av k cv) k (lk.map Hd.val) rfl (row_below HR5.out.row (bel_al0 _ _)) ⟨w5.heap.size, 0, none⟩ 1 1 [Hd.val (A5, n', c5)] rfl rfl
               (World.news_of_block (cs := #[Hd.val (A5, n', c5)]) (t := 36) (fr := (0, 0)) (heap_alloc_new w5 _)) (by simp [Value.oneCell', Hd.val]) (by unfold maxLen; omega) (by omega) (by have h1 := HB5.out.size; simp only [World.size_alloc]; omega) ?_
             intro v6 w6 hown6 hg6 _ hv6
             have HB6 := Lib.hid ((bel_al HB5.out _).grown hg6 (by have h1 := HB5.out.size; simp only [World.size_alloc]; omega) (fun j e => (HR5.out.row.lt j e).1))
             have HR6 := Lib.hid ((HR5.out.below (bel_al0 _ _)).push (x := (A5, n', c5)) (HI5.out.below (bel_al0 _ _)) hown6 hg6 hv6)
             obtain ⟨g6, cap6, e6, _⟩ := hown6.form (by omega)
             subst e6
             clear hown6 hg6 hv6))
        go_roundw
        case rel => exact ⟨k + 1, lk ++ [(A5, n', c5)], some ⟨g6, 0, none⟩, cap6, by omega, by go_num, rfl, by rw [HS1.out]; exact HR6.out, HB6.out, HSN.out, fun x hx => by
          rcases List.mem_append.1 hx with h | h
          · exact HC.out x h
          · obtain rfl := List.mem_singleton.1 h
            exact HK5.out⟩
        case measure => simp [intOf]; omega
      · simp only at h1 h2 h3 h4 h5
        subst h1
        obtain ⟨yn, rfl⟩ := Int.eq_ofNat_of_zero_le h2
        obtain ⟨zn, rfl⟩ := Int.eq_ofNat_of_zero_le h4
        have hyn : yn < k := by omega
        have hzn : zn < k := by omega
        obtain ⟨Ar, cr, er, hT⟩ := hrow.terms (by omega)
        cases er
        obtain ⟨ba, oa, Ay, ny, cy, rfl, hba, u1, hIy, ky1, ky2⟩ := terms_cap hT hcap hyn
        obtain ⟨ba', oa', Az, nz, cz, ea, _, u2, hIz, kz1, kz2⟩ := terms_cap hT hcap hzn
        cases ea
        have hvy := HVAL.out k hk hsay yn hyn
        have hvz := HVAL.out k hk hsay zn hzn
        have hsz : saysZ ss gg (sayL ss gg pp k) (2, (yn : Int), (zn : Int)) = detZ ss ((sayL ss gg pp k).getD yn []) ((sayL ss gg pp k).getD zn []) := by
          unfold saysZ
          rw [if_neg (by simp)]
          simp only [Int.toNat_natCast]
        rw [hsz] at s1 s2
        have CD := Lib.hid (fun (V : World) (hb : Below wr.heap.size wr V) => refdet_all As Ay Az ns cs ny cy nz cz ss _ _ V ((HS.out.up HB.out).up hb) (hIy.up hb) (hIz.up hb) ky1 ky2 hvy hvz)
        obtain ⟨R, hR⟩ : ∃ R, detZ ss ((sayL ss gg pp k).getD yn []) ((sayL ss gg pp k).getD zn []) = R := ⟨_, rfl⟩
        rw [hR] at CD s1 s2
        obtain ⟨T, er⟩ := R
        simp only at CD s1 s2
        have HK5 := Lib.hid (fun V (h : Below wr.heap.size wr V) => show V.cell? ⟨bp, offp + k * 3 + 1, none⟩ = some (.int .i64 (yn : Int)) ∧ V.cell? ⟨bp, offp + k * 3 + 2, none⟩ = some (.int .i64 (zn : Int)) ∧ V.cell? ⟨ba, oa + yn, none⟩ = some (.slice Ay ny cy) ∧ V.cell? ⟨ba, oa + zn, none⟩ = some (.slice Az nz cz) from
          ⟨(h.cell (p := ⟨bp, offp + k * 3 + 1, none⟩) (Nat.lt_of_lt_of_le hb' HB.out.size)).trans r2, (h.cell (p := ⟨bp, offp + k * 3 + 2, none⟩) (Nat.lt_of_lt_of_le hb' HB.out.size)).trans r3, (h.cell (p := ⟨ba, oa + yn, none⟩) hba).trans u1, (h.cell (p := ⟨ba, oa + zn, none⟩) hba).trans u2⟩)
        have HT := Lib.hid hT
        have y0 : (0 : Int) ≤ (yn : Int) := by omega
        have z0 : (0 : Int) ≤ (zn : Int) := by omega
        have y1 : (yn : Int) < (k : Int) := by omega
        have z1 : (zn : Int) < (k : Int) := by omega
        by_cases her : er = 0
        · subst her
          have HS1 := Lib.hid s1
          have HSN := Lib.hid (sayTo_succ hsay s2)
          clear q1 q2 q3 q4 hB hrow hsay hcap s1 s2 h2 h3 h4 h5 hT hIy hIz ky1 ky2 kz1 kz2 hvy hvz hsz hR hba
          go_wp2_with fail
          go_region_held3 (fun w' => w'.cell? ⟨bp, offp + k * 3 + 1, none⟩ = some (.int .i64 (yn : Int)) ∧ w'.cell? ⟨bp, offp + k * 3 + 2, none⟩ = some (.int .i64 (zn : Int)) ∧ w'.cell? ⟨ba, oa + yn, none⟩ = some (.slice Ay ny cy) ∧ w'.cell? ⟨ba, oa + zn, none⟩ = some (.slice Az nz cz))
            (first | exact RK5.out | exact ⟨r2, r3, u1, u2⟩ | go_keep)
            ((go_at_call 63; refine (CD.out _ ((Below.refl _ _).drew)).mono ?_; rintro e w5 ⟨A5, n5, c5, rfl, hI5, hk5, hf5, hB5⟩; have hB6 : Below wr.heap.size wr w5 := ((Below.refl _ wr).drew).trans hB5; have RK5 := Lib.hid (HK5.out w5 hB6); have HI5 := Lib.hid hI5; have HF5 := Lib.hid hf5; have HKK := Lib.hid hk5; have HB6 := Lib.hid hB6; clear hI5 hk5 hf5 hB5 hB6))
          all_goals
            have HI6 := Lib.hid (show IntsBut w5 (Value.slice (some ⟨ba, oa, none⟩) k cv).ownBlock A5 n5 T from ⟨HI5.out.len, HI5.out.max, fun h0 => by
              obtain ⟨b6, o6, e6, hb6, hc6⟩ := HI5.out.mem h0
              refine ⟨b6, o6, e6, hb6, fun e => ?_, hc6⟩
              have h7 : wr.heap.size ≤ b6 := HF5.out _ e6
              have := (HR.out.row.lt _ e.symm).2
              omega⟩)
            have HR5 := Lib.hid (HR.out.below HB6.out)
            have HB7 := Lib.hid (below_then HB.out HB6.out)
            go_wp2_with (first
              | (at_builtin
                 refine wpList_append_own_at _ rfl _ _ 35 rfl w.heap.size 36 i0 _ 1 24 Tryz.underlying35 hi hz0 hz1 hz2 rfl (by omega) (.slice (some ⟨ba, oa, none⟩) k cv) k (lk.map Hd.val) rfl (row_below HR5.out.row (bel_al0 _ _)) ⟨w5.heap.size, 0, none⟩ 1 1 [Hd.val (A5, n5, c5)] rfl rfl
                   (World.news_of_block (cs := #[Hd.val (A5, n5, c5)]) (t := 36) (fr := (0, 0)) (heap_alloc_new w5 _)) (by simp [Value.oneCell', Hd.val]) (by unfold maxLen; omega) (by omega) (by have h1 := HB7.out.size; simp only [World.size_alloc]; omega) ?_
                 intro v6 w6 hown6 hg6 _ hv6
                 have HB8 := Lib.hid ((bel_al HB7.out _).grown hg6 (by have h1 := HB7.out.size; simp only [World.size_alloc]; omega) (fun j e => (HR5.out.row.lt j e).1))
                 have HR6 := Lib.hid ((HR5.out.below (bel_al0 _ _)).push (x := (A5, n5, c5)) (HI6.out.below (bel_al0 _ _)) hown6 hg6 hv6)
                 obtain ⟨g6, cap6, e6, _⟩ := hown6.form (by omega)
                 subst e6
                 clear hown6 hg6 hv6))
            go_roundw
            case rel => exact ⟨k + 1, lk ++ [(A5, n5, c5)], some ⟨g6, 0, none⟩, cap6, by omega, by go_num, rfl, by rw [HS1.out]; exact HR6.out, HB8.out, HSN.out, fun x hx => by
              rcases List.mem_append.1 hx with h | h
              · exact HC.out x h
              · obtain rfl := List.mem_singleton.1 h
                exact HKK.out⟩
            case measure => simp [intOf]; omega
        · have s3 : sayE ss gg pp k ≠ 0 := by rw [s2]; exact her
          have HZ := Lib.hid (show Z = (sayL ss gg pp k, (k : Int), er) from by rw [HSTOP.out k hlt hsay s3, s2])
          have her1 : (er != 0) = true := by simpa using her
          clear q1 q2 q3 q4 hB hrow hsay hcap s1 s2 s3 h2 h3 h4 h5 hT hIy hIz ky1 ky2 kz1 kz2 hvy hvz hsz hR hba her
          go_wp2_with fail
          go_region_held3 (fun w' => w'.cell? ⟨bp, offp + k * 3 + 1, none⟩ = some (.int .i64 (yn : Int)) ∧ w'.cell? ⟨bp, offp + k * 3 + 2, none⟩ = some (.int .i64 (zn : Int)) ∧ w'.cell? ⟨ba, oa + yn, none⟩ = some (.slice Ay ny cy) ∧ w'.cell? ⟨ba, oa + zn, none⟩ = some (.slice Az nz cz))
            (first | exact RK5.out | exact ⟨r2, r3, u1, u2⟩ | go_keep)
            ((go_at_call 63; refine (CD.out _ ((Below.refl _ _).drew)).mono ?_; rintro e w5 ⟨A5, n5, c5, rfl, hI5, hk5, hf5, hB5⟩; have hB6 : Below wr.heap.size wr w5 := ((Below.refl _ wr).drew).trans hB5; have RK5 := Lib.hid (HK5.out w5 hB6); have HB6 := Lib.hid hB6; clear hI5 hk5 hf5 hB5 hB6))
          all_goals
            go_wp2_with fail
            go_ret2
            have hz := HZ.out
            subst hz
            exact ⟨_, _, _, lk, rfl, HT.out.up HB6.out, below_then HB.out HB6.out, HC.out⟩
    · obtain rfl : np = k := by omega
      have hz := HEND.out hsay
      subst hz
      clear hB hrow hcap hsay
      go_wp2
      go_ret2
      obtain ⟨A', c', e', hT⟩ := HR.out.terms (by omega)
      cases e'
      exact ⟨_, _, _, lk, rfl, hT, HB.out, HC.out⟩

end Go.Proofs.YtapcdhagkbfccaaGreat

namespace Go.Proofs.YtapcdhagkbfccaaGreat
open Go.RowKit

theorem runF_idx {ss : Sg} {gg : List (List Int)} {pp : List Stp} : ∀ f k, (runF ss gg pp f k).2.2 ≠ 0 → (runF ss gg pp f k).2.1 = ((runF ss gg pp f k).1.length : Int)
  | 0, k, h => absurd rfl h
  | f + 1, k, h => by
    rw [runF] at h ⊢
    split at h
    · rename_i h0
      rw [if_pos h0]
      exact runF_idx f (k + 1) h
    · rename_i h0
      rw [if_neg h0]
      simp only
      rw [sayL_len]

set_option maxRecDepth 100000 in
set_option maxHeartbeats 1000000 in
theorem right_any (As Ag Ap : Option Addr) (ns cs ng cg np cp : Nat) (ss : Sg) (lg : List Hd) (gg : List (List Int)) (pp : List Stp) (w : World) (hs : SigAt w w.heap.size As ns ss) (hg : TermsAt w w.heap.size Ag ng lg gg) (hp : StepsAt w w.heap.size Ap np pp) (hn : ng ≤ 1000000) :
    Calls Tryz.prog 42 #[.slice As ns cs, .slice Ag ng cg, .slice Ap np cp] w fun e w' => e = .returned (.bool (givOk ss gg && proofOk (gg.length : Int) pp)) ∧ Below w.heap.size w w' := by
  have CG := Lib.hid (refValidGivens_any As Ag ns cs ng cg ss lg gg w hs hg hn)
  have CP := Lib.hid (fun (V : World) (hB : Below w.heap.size w V) => refValidProof_any (ng : Int) Ap np cp pp V (hp.up hB))
  rw [← hg.len]
  obtain ⟨q, hq⟩ : ∃ q, givOk ss gg = q := ⟨_, rfl⟩
  obtain ⟨r, hr⟩ : ∃ r, proofOk (ng : Int) pp = r := ⟨_, rfl⟩
  rw [hq] at CG ⊢
  rw [hr]
  simp only [hr] at CP
  clear hs hg hp hq hr
  cases q
  · rw [Bool.false_and]
    go_enter Tryz.func42, Tryz.ntmps42
    go_wp2_with (go_at_call 58; ((with_reducible refine CG.out.mono ?_); rintro e w1 ⟨rfl, hB1⟩; have HB1 := Lib.hid hB1; clear hB1))
    go_ret
    exact ⟨rfl, HB1.out⟩
  · rw [Bool.true_and]
    go_enter Tryz.func42, Tryz.ntmps42
    go_wp2_with (first
      | (go_at_call 58; ((with_reducible refine CG.out.mono ?_); rintro e w1 ⟨rfl, hB1⟩; have HB1 := Lib.hid hB1; clear hB1))
      | (go_at_call 8; ((with_reducible refine (CP.out _ HB1.out).mono ?_); rintro e w2 ⟨rfl, hB2⟩; have HB2 := Lib.hid (below_then HB1.out hB2); clear hB2)))
    go_ret
    exact ⟨rfl, HB2.out⟩

theorem runZ_bad {ss : Sg} {gg : List (List Int)} {pp : List Stp} (h : (givOk ss gg && proofOk (gg.length : Int) pp) = false) : runZ ss gg pp = ([], 0, 1) := by
  unfold runZ
  rw [h, if_neg (by simp)]

end Go.Proofs.YtapcdhagkbfccaaGreat
