/- The kernel's form. -/
import Derived.Test.YtojofbmpknpggaaKDg
import Derived.Deep.CutRange
import Derived.Test.YtojofbmpknpggaaB4g
import Derived.Test.YtojofbmpknpggaaY15g
/- The kernel's form: its closure. -/
namespace Go.Proofs.Ytojofbmpknpggaa
open Go.RowKit

theorem ownsRow_movedK {w w' : World} {base : Nat} {e : TypeId} {size : Nat} {v : Value} {n : Nat} {xs : List Value} (h : w.ownsRow base e size v n xs) (hk : ∀ g, v.ownBlock = some g → w'.heap[g]? = w.heap[g]?) : w'.ownsRow base e size v n xs := by
  obtain ⟨h1, h2 | ⟨g, cap, cur, rfl, h3, h4, h5⟩⟩ := h
  · exact ⟨h1, .inl h2⟩
  · exact ⟨h1, .inr ⟨g, cap, cur, rfl, h3, (hk g rfl).trans h4, h5⟩⟩
theorem row_formK {w : World} {base n : Nat} {v : Value} {e : TypeId} {size : Nat} {xs : List Value} (h : w.ownsRow base e size v n xs) : ∃ A c, v = .slice A n c := by
  obtain ⟨_, ⟨rfl, h1⟩ | ⟨g, cap, cur, rfl, _⟩⟩ := h
  · exact ⟨none, 0, by rw [h1]⟩
  · exact ⟨_, cap, rfl⟩
theorem bel_al0 (w : World) (o : Obj) : Below w.heap.size w (w.alloc o) := (Below.refl _ w).alloc (Nat.le_refl _) o
theorem cell_grown {w w' : World} {row : Option Nat} {b i : Nat} (hg : w.grownBy w' row) (hb : b < w.heap.size) (hr : row = some b → False) : w'.cell? ⟨b, i, none⟩ = w.cell? ⟨b, i, none⟩ :=
  World.cell?_of_block (hg.block b hb fun e => hr e.symm)
theorem frozen_grown {w w' : World} {row : Option Nat} {b i : Nat} (hg : w.grownBy w' row) (hb : b < w.heap.size) (hr : row = some b → False) : w'.frozen? ⟨b, i, none⟩ = w.frozen? ⟨b, i, none⟩ :=
  World.frozen?_of_block (hg.block b hb fun e => hr e.symm)
section
variable {Bf Bm Bt Bn bm fb N0 k : Nat} {v v' : Value} {w w1 w' : World} {xs seen : List Int}
/-- What lies behind an append and the store of it. -/
theorem FormAt.store (h : FormAt w Bf Bm Bt Bn bm fb N0 v xs seen k) (hb : BoxOk Bf Bm Bt Bn bm N0) (ha : Below w.heap.size w w1) {x : Int} (hown : w'.ownsRow N0 3 1 v' (xs.length + 1) (xs.map (Value.int .i64) ++ [.int .i64 x])) (hg : w1.grownBy w' v.ownBlock) (ho : v'.ownBlock = v.ownBlock ∨ v'.ownBlock = some w1.heap.size) :
    FormAt (w'.setCell ⟨Bt, 0, none⟩ v') Bf Bm Bt Bn bm fb N0 v' (xs ++ [x]) seen k ∧ FormK Bt bm v v' w (w'.setCell ⟨Bt, 0, none⟩ v') := by
  obtain ⟨l1, l2, l3, l4, l5, l6⟩ := h.lts
  have s1 := ha.size
  have h1 := h.up ha
  obtain ⟨m1, m2, m3, m4, m5, m6⟩ := h1.lts
  have hout : ∀ g, v'.ownBlock = some g → g ≠ Bf ∧ g ≠ Bm ∧ g ≠ Bt ∧ g ≠ Bn ∧ g ≠ bm := fun g e => by
    rcases ho with h2 | h2
    · exact h.out g (by rw [← h2, e])
    · rw [h2] at e
      cases e
      exact ⟨by omega, by omega, by omega, by omega, by omega⟩
  have cs : ∀ b, b ≠ Bt → b < w1.heap.size → v.ownBlock ≠ some b → (w'.setCell ⟨Bt, 0, none⟩ v').cell? ⟨b, 0, none⟩ = w1.cell? ⟨b, 0, none⟩ := fun b hne hl hr =>
    (World.cell?_setCell_other w' ⟨Bt, 0, none⟩ ⟨b, 0, none⟩ v' (fun e => hne (by cases e; rfl))).trans (cell_grown hg hl hr)
  refine ⟨⟨(cs Bf hb.nt.1 m1 fun e => (h.out _ e).1 rfl).trans h1.cf, (cs Bm hb.nt.2.1 m2 fun e => (h.out _ e).2.1 rfl).trans h1.cm, (cs Bn hb.nt.2.2.1 m3 fun e => (h.out _ e).2.2.2.1 rfl).trans h1.cn, ?_, ?_, ?_, ?_, hout⟩, ?_, ?_⟩
  · exact World.cell?_setCell_same' _ _ _ (by rw [cell_grown hg m4 fun e => (h.out _ e).2.2.1 rfl, h1.cv]; rfl)
  · rw [World.frozen?_setCell, frozen_grown hg m4 fun e => (h.out _ e).2.2.1 rfl]
    exact h1.fv
  · exact (h1.numb.grown' hg fun e => (h.out bm e.symm).2.2.2.2 rfl).setCell (a := ⟨Bt, 0, none⟩) hb.nt.2.2.2 _
  · rw [List.length_append, List.length_singleton, List.map_append]
    exact ownsRow_movedK hown fun g hg => heap_setCell_other w' ⟨Bt, 0, none⟩ g v' fun e => (hout g hg).2.2.1 e
  · have k1 : KeepE (fun b => b < w.heap.size ∧ b ≠ Bt ∧ b ≠ bm ∧ v.ownBlock ≠ some b) w w1 := KeepE.of_below ha fun _ h => h.1
    have k2 : KeepE (fun b => b < w.heap.size ∧ b ≠ Bt ∧ b ≠ bm ∧ v.ownBlock ≠ some b) w1 w' := KeepE.of_grown hg (fun b h => Nat.lt_of_lt_of_le h.1 s1) fun g e hE => hE.2.2.2 e
    exact (k1.trans k2).trans (KeepE.set (fun h => h.2.1 rfl) _)
  · intro g e
    rcases ho with h2 | h2
    · exact .inl (by rw [← h2, e])
    · rw [h2] at e
      cases e
      exact .inr s1
theorem FormAt.fin (h : FormAt w Bf Bm Bt Bn bm fb N0 v xs seen k) {raw : List Int} (h1 : xs = canon raw) (h2 : seen = seenA raw) (h3 : k ≤ raw.length) : FormAt w Bf Bm Bt Bn bm fb N0 v (canon raw) (seenA raw) raw.length := by
  subst h1 h2
  exact ⟨h.cf, h.cm, h.cn, h.cv, h.fv, h.numb.mono h3, h.row, h.out⟩
theorem FormAt.met (h : FormAt w Bf Bm Bt Bn bm fb N0 v xs seen k) (hb : BoxOk Bf Bm Bt Bn bm N0) {seen' : List Int} {k' : Nat} (hn : Numb w' bm k' seen') (hg : w.grownBy w' (some bm)) : FormAt w' Bf Bm Bt Bn bm fb N0 v xs seen' k' ∧ FormK Bt bm v v w w' := by
  obtain ⟨l1, l2, l3, l4, l5, l6⟩ := h.lts
  have c : ∀ b, b < w.heap.size → b ≠ bm → w'.cell? ⟨b, 0, none⟩ = w.cell? ⟨b, 0, none⟩ := fun b hl hne => cell_grown hg hl fun e => hne (Option.some.inj e).symm
  refine ⟨⟨(c Bf l1 hb.nm.1).trans h.cf, (c Bm l2 hb.nm.2.1).trans h.cm, (c Bn l3 hb.nm.2.2).trans h.cn, (c Bt l4 hb.nt.2.2.2.symm).trans h.cv, (frozen_grown hg l4 fun e => hb.nt.2.2.2 (Option.some.inj e)).trans h.fv, hn, h.row.kept hg ?_, h.out⟩, KeepE.of_grown hg (fun b h => h.1) fun g e hE => hE.2.2.1 (Option.some.inj e).symm, fun g e => .inl e⟩
  cases e : v.ownBlock with
  | none => exact .inl rfl
  | some g => exact .inr fun e2 => (h.out g e).2.2.2.2 (Option.some.inj e2)
end
set_option maxRecDepth 100000 in
set_option maxHeartbeats 8000000 in
theorem kwrite_any (w0 : World) (fb gn gb gp : Nat) (As : Option Addr) (ns cs cn cb cp : Nat) (ss : Sg) (nums : List Int) (kb kp : List Nat) (h0 : FitAt w0 fb gn gb gp As ns cs cn cb cp ss nums kb kp) (ho : KOk ss nums kb) (Bf Bm Bt Bn bm N0 : Nat) (hN0 : w0.heap.size = N0) (hbox : BoxOk Bf Bm Bt Bn bm N0) :
    ∀ (f p : Nat) (raw : List Int) (ok : Bool) (raw' : List Int) (v : Value) (w : World), wrK ss nums kb kp f p raw = some (ok, raw') → Below N0 w0 w → FormAt w Bf Bm Bt Bn bm fb N0 v (canon raw) (seenA raw) raw.length → RawOk raw →
    Calls Try.prog 91 #[.int .i64 (p : Int), .pointer (some ⟨Bf, 0, none⟩), .pointer (some ⟨Bm, 0, none⟩), .pointer (some ⟨Bt, 0, none⟩), .pointer (some ⟨Bn, 0, none⟩)] w fun e w' =>
      e = .returned (.bool ok) ∧ ∃ v', FormAt w' Bf Bm Bt Bn bm fb N0 v' (canon raw') (seenA raw') raw'.length ∧ FormK Bt bm v v' w w' := by
  obtain ⟨i0, hi, hz0, hz1, hz2⟩ := info_parts info_int
  intro f
  induction f with
  | zero => intro p raw ok raw' v w h; cases h
  | succ f ih =>
    intro p raw ok raw' v w hw hb hM hok
    unfold wrK at hw
    cases hr : rootS kp f p with
    | none => rw [hr] at hw; cases hw
    | some r =>
    rw [hr] at hw
    simp only at hw
    have hF : FitAt w fb gn gb gp As ns cs cn cb cp ss nums kb kp := h0.up (by rw [hN0]; exact hb)
    have CR := Lib.hid (kroot_any fb gn gb gp As ns cs cn cb cp ss nums kb kp f p r w hF hr)
    have hrn : r < nums.length := by have := (rootS_lt hr).2.1; rw [hF.pl] at this; exact this
    have gx : nums[r]? = some (nums.getD r 0) := by rw [List.getD_eq_getElem?_getD, List.getElem?_eq_getElem hrn]; rfl
    have cx := hF.num r _ gx
    have hxlow := ho.low _ (List.mem_of_getElem? gx)
    have hxsym := ho.sym _ (List.mem_of_getElem? gx)
    have hfew := ho.few
    obtain ⟨x, hx⟩ : ∃ x, nums.getD r 0 = x := ⟨_, rfl⟩
    rw [hx] at hw cx hxlow hxsym
    have c1 := hF.c.2.1
    have hN1000 := hF.max
    have hrN : r < nums.length := hrn
    have hns := hF.sign.max
    have hxs2 : x < (ns : Int) := by rw [hF.sign.len]; exact hxsym
    obtain ⟨n, hn⟩ : ∃ n, raw.length = n := ⟨_, rfl⟩
    have hcl : (canon raw).length = n := by rw [canon_length, hn]
    have h60 : n ≤ 60 := by have := hok.1; omega
    have HXS0 := canon_add raw x
    have HSN0 := seenA_add raw x
    obtain ⟨A, c, rfl⟩ : ∃ A c, v = .slice A n c := by obtain ⟨A, c, h⟩ := row_formK hM.row; exact ⟨A, c, by rw [h, hcl]⟩
    have HRX0 := Lib.hid hM.row
    have HOUT := Lib.hid hM.out
    have HOWN := Lib.hid (show ∀ g, (Value.slice A n c).ownBlock = some g → N0 ≤ g from fun g e => (hM.row.lt g e).1)
    have hwN0 : N0 ≤ w.heap.size := by have := hM.lts; have := hbox.lf; omega
    have HN0 := Lib.hid hwN0
    have cf := hM.cf
    have cm := hM.cm
    have hlook := fun hc => hM.numb.look x (wf_small (by omega) (by omega)) hc
    have hlok := hM.numb.look_ok x (wf_small (by omega) (by omega))
    have hlen := hM.numb.len
    have hM0 := hM
    obtain ⟨xs, hxs⟩ : ∃ xs, canon raw = xs := ⟨_, rfl⟩
    obtain ⟨seen, hseen⟩ : ∃ seen, seenA raw = seen := ⟨_, rfl⟩
    rw [hxs] at hM0 HXS0 hcl HRX0
    rw [hseen] at hM0 HXS0 HSN0 hlook hlok hlen hw
    rw [hn] at hM0
    have hsl12 : seen.length ≤ 12 := by rw [← hseen]; exact hok.2
    have HNL := Lib.hid hn
    have hF0 := hF
    have HF := Lib.hid hF
    clear hF
    have HO := Lib.hid ho
    have H0 := Lib.hid h0
    have HNN := Lib.hid hN0
    have HBOX := Lib.hid hbox
    have HB0 := Lib.hid hb
    have HIH := Lib.hid ih
    rw [hcl] at HRX0
    have HCL := Lib.hid hcl
    by_cases hneg : x < 0
    · cases hcon : seen.contains x
      · skip
        rw [hcon] at hlok
        obtain ⟨c9, hlok⟩ := hlok
        have hadd : addSeen seen x = seen ++ [x] := by simp [addSeen, show ¬ 0 ≤ x from by omega]; simpa using hcon
        obtain ⟨W1, hup, hM3, hg3⟩ := hM0.numb.update x (wf_small (by omega) (by omega)) hcon (by unfold maxLen; omega) (-(seen.length : Int) - 1) rfl (wf_small (by omega) (by omega))
        obtain ⟨hM1, hK1⟩ := hM0.met hbox hM3 hg3
        have hlk3 := hM3.look x (wf_small (by omega) (by omega)) (by simp)
        have hcn : cnum (seen ++ [x]) x = -(seen.length : Int) - 1 := by
          unfold cnum
          rw [List.idxOf_append, if_neg (by simpa using hcon)]
          simp
        have hren : ren1 seen x = -(seen.length : Int) - 1 := by unfold ren1; rw [if_neg (by omega), hadd, hcn]
        rw [hcn] at hlk3
        obtain ⟨seen2, hs2⟩ : ∃ seen2, seen ++ [x] = seen2 := ⟨_, rfl⟩
        rw [hs2] at hM1 hadd
        obtain ⟨q, hq⟩ : ∃ q, seen.length = q := ⟨_, rfl⟩
        rw [hq] at hlen hup hren hlk3 hsl12
        have HKW := Lib.hid hK1
        have HKL := Lib.hid (show n + 1 ≤ (raw ++ [x]).length by rw [List.length_append, hn]; exact Nat.le_refl _)
        clear hM3 hg3 hK1 hcn hq
        have hRX1 : W1.ownsRow N0 3 1 (.slice A n c) n (xs.map (Value.int .i64)) := by have := hM1.row; rw [HCL.out] at this; exact this
        rw [hren] at HXS0
        rw [hadd] at HSN0 hw
        have HM := Lib.hid hM1
        have HRX := Lib.hid hRX1
        have HXS := Lib.hid HXS0.symm
        have HSEEN := Lib.hid HSN0.symm
        have HW := Lib.hid hw
        have cm1 := hM1.cm
        clear hren hadd
        clear h0 ho hbox ih hw hb hM hok hr hF0 gx hxs hseen hM0 hn hcl hM1 hRX1 HXS0 HSN0 hlook hN0 hs2 hxlow hxsym hcon
        go_enter Try.func91, Try.ntmps91
        have hcons := HM.out
        have cv1 := hcons.cv
        have fv1 := hcons.fv
        have HROW := Lib.hid (show (W1.alloc (.cells #[.int .i64 (-(q : Int) - 1)] 3)).ownsRow N0 3 1 (.slice A n c) n (xs.map (Value.int .i64)) from World.ownsRow.alloc HRX.out _)
        have cvA := fun o => (alloc_keep W1 o ⟨Bt, 0, none⟩ hcons.lts.2.2.2.1).trans cv1
        have hsz1 := hcons.lts.2.2.2.1
        have HN1 := Lib.hid (show N0 ≤ (W1.alloc (.cells #[.int .i64 (-(q : Int) - 1)] 3)).heap.size from by rw [World.size_alloc]; have := HBOX.out.lf; omega)
        clear hcons
        go_upto_region 9 with (first
          | (go_at_call 92; refine CR.out.mono ?_; rintro e V ⟨rfl, rfl⟩)
          | (at_builtin
             refine wpList_append_own_at _ rfl _ _ 45 rfl N0 3 i0 _ 1 8 Try.underlying45 hi hz0 hz1 hz2 rfl (by omega) (.slice A n c) n (xs.map (Value.int .i64)) rfl HROW.out ⟨W1.heap.size, 0, none⟩ 1 1 [.int .i64 (-(q : Int) - 1)] rfl rfl
               (World.news_of_block (cs := #[.int .i64 (-(q : Int) - 1)]) (t := 3) (fr := (0, 0)) (heap_alloc_new W1 _)) (by simp [Value.oneCell']) (by unfold maxLen; omega) (by omega) HN1.out ?_
             intro v5 w5 hown5 hg5 _ hob5
             obtain ⟨g5, cap5, rfl, _⟩ := hown5.form (by omega)
             have hw15 : Below W1.heap.size W1 (W1.alloc (.cells #[.int .i64 (-(q : Int) - 1)] 3)) := bel_al0 W1 _
             have cbt5 : w5.cell? ⟨Bt, 0, none⟩ = some (.slice A n c) := (cell_grown hg5 (by rw [World.size_alloc]; omega) (fun e => (HOUT.out Bt e).2.2.1 rfl)).trans (cvA _)
             have fbt5 : w5.frozen? ⟨Bt, 0, none⟩ = false := (frozen_grown hg5 (by rw [World.size_alloc]; omega) (fun e => (HOUT.out Bt e).2.2.1 rfl)).trans ((World.frozen?_of_block (hw15.block _ hsz1)).trans fv1)
             have HM6 := Lib.hid (HM.out.store HBOX.out hw15 (by rw [HCL.out]; exact hown5) hg5 hob5)
             clear hown5 hg5 hob5 hw15))
        obtain ⟨W6, hW6⟩ : ∃ W6, w5.setCell ⟨Bt, 0, none⟩ (.slice (some ⟨g5, 0, none⟩) (n + 1) cap5) = W6 := ⟨_, rfl⟩
        rw [hW6] at HM6 ⊢
        obtain ⟨HM6, HK6⟩ := HM6.out
        have HM6 := Lib.hid HM6
        have HK06 := Lib.hid (HKW.out.next HK6)
        clear hW6 cbt5 fbt5 cvA HROW HK6
        have cv6 := HM6.out.cv
        have cm6 := HM6.out.cm
        have hln6 := HM6.out.numb.len
        obtain ⟨s, hs⟩ : ∃ s, seen2.length = s := ⟨_, rfl⟩
        rw [hs] at hln6
        have HS := Lib.hid hs
        have hw := HW.out
        by_cases h60 : 60 < n + 1
        · rw [if_pos (by rw [HNL.out]; exact h60)] at hw
          have hi60 : (60 : Int) < (n : Int) + 1 := by omega
          have HE := Lib.hid (Option.some.inj hw)
          clear hs hw h60
          go_wp2
          go_ret
          have he := HE.out
          simp only [Prod.mk.injEq] at he
          exact ⟨by rw [← he.1]; rfl, _, by rw [← he.2]; exact HM6.out.fin HXS.out HSEEN.out HKL.out, HK06.out⟩
        · rw [if_neg (by rw [HNL.out]; exact h60)] at hw
          have hi60 : ¬ (60 : Int) < (n : Int) + 1 := by omega
          by_cases h12 : 12 < s
          · rw [if_pos (by rw [hs]; exact h12)] at hw
            have hi12 : (12 : Int) < (s : Int) := by omega
            have HE := Lib.hid (Option.some.inj hw)
            clear hs hw h60 h12
            go_wp2
            go_ret
            have he := HE.out
            simp only [Prod.mk.injEq] at he
            exact ⟨by rw [← he.1]; rfl, _, by rw [← he.2]; exact HM6.out.fin HXS.out HSEEN.out HKL.out, HK06.out⟩
          · rw [if_neg (by rw [hs]; exact h12)] at hw
            have hi12 : ¬ (12 : Int) < (s : Int) := by omega
            have hF6 := H0.out.up (show Below w0.heap.size w0 W6 from by rw [HNN.out]; exact HB0.out.trans (HK06.out.below HBOX.out HN0.out HOWN.out))
            have CA := Lib.hid (kargs_any fb gn gb gp As ns cs cn cb cp ss nums kb kp r W6 hF6 HO.out hrn)
            obtain ⟨L, hL⟩ : ∃ L, argsK ss nums kb r = L := ⟨_, rfl⟩
            rw [hL] at CA hw
            have hl3 : L.length ≤ 3 := by rw [← hL]; unfold argsK; rw [argK_len]; exact arOf_le HO.out.ar _
            obtain ⟨d, hd⟩ : ∃ d, L.length = d := ⟨_, rfl⟩
            have HD := Lib.hid hd
            have hd3 : d ≤ 3 := by omega
            have HWL := Lib.hid hw
            have cf6 := HM6.out.cf
            have HOK6 := Lib.hid (show RawOk (raw ++ [x]) from ⟨by rw [List.length_append, List.length_singleton, HNL.out]; omega, by rw [← HSEEN.out, hs]; omega⟩)
            clear hs hw h60 h12 hF6 hL hl3 hd
            go_wp2_with (go_at_call 93; refine CA.out.mono ?_; rintro e w7 ⟨gA, rfl, hGA, hgA, hB7⟩; have HM7 := Lib.hid ((HM6.out.fin HXS.out HSEEN.out HKL.out).up hB7); have HGA := Lib.hid hGA; have HgA := Lib.hid (show gA ≠ Bt ∧ gA ≠ bm ∧ gA ≠ g5 from by have h1 := HM6.out.lts; have h2 := (h1.2.2.2.2.2 g5 rfl).2; omega); have HK7 := Lib.hid (HK06.out.next (FormK.of_below (v := .slice (some ⟨g5, 0, none⟩) (n + 1) cap5) hB7)); clear hGA hgA hB7 cf6 cv6 cm6 hln6; rw [HD.out])
            go_loopw [57] (fun kv wr => ∃ (j : Nat) (raw1 : List Int) (v1 : Value), j ≤ d ∧ kv = .int .i64 j ∧ Hid (wrL (wrK ss nums kb kp f) (L.drop j) raw1 = some (ok, raw')) ∧ Hid (FormAt wr Bf Bm Bt Bn bm fb N0 v1 (canon raw1) (seenA raw1) raw1.length) ∧ Hid (RawOk raw1) ∧ Hid (FormK Bt bm (.slice (some ⟨g5, 0, none⟩) (n + 1) cap5) v1 w7 wr)) (fun kv _ => d - (intOf kv).toNat)
            case atStart => exact ⟨0, raw ++ [x], _, Nat.zero_le _, rfl, Lib.hid (by rw [List.drop_zero]; exact HWL.out), HM7, HOK6, Lib.hid (FormK.refl _ _ _ _)⟩
            case round =>
              obtain ⟨j, raw1, v1, hj, rfl, hL1, hM1, hO1, hK1⟩ := hrel
              have HK01 := Lib.hid (HK7.out.next hK1.out)
              by_cases hlt : j < d
              · have hjl : j < L.length := by have := HD.out; omega
                have hl := hL1.out
                rw [List.drop_eq_getElem_cons hjl] at hl
                unfold wrL at hl
                have a0 : wr.cell? ⟨gA, j, none⟩ = some (.int .i64 (L[j] : Int)) := by
                  rw [KeepE.cell hK1.out.keep (p := ⟨gA, j, none⟩) ⟨HGA.out.lt, HgA.out.1, HgA.out.2.1, fun e => HgA.out.2.2 (Option.some.inj e).symm⟩, HGA.out.cell, List.getElem?_toArray, natV_get (List.getElem?_eq_getElem hjl)]
                obtain ⟨p1, hp1⟩ : ∃ p1, L[j] = p1 := ⟨_, rfl⟩
                rw [hp1] at hl a0
                cases hr : wrK ss nums kb kp f p1 raw1 with
                | none => rw [hr] at hl; cases hl
                | some y =>
                  obtain ⟨b2, raw2⟩ := y
                  rw [hr] at hl
                  have CW := Lib.hid (HIH.out p1 raw1 b2 raw2 v1 wr hr (HB0.out.trans (HK01.out.below HBOX.out HN0.out HOWN.out)) hM1.out hO1.out)
                  have cn1 := hM1.out.cn
                  have hj0 : (0 : Int) ≤ (j : Int) := by omega
                  have hj1 : (j : Int) < (d : Int) := by omega
                  cases b2 with
                  | false =>
                    have HE := Lib.hid (Option.some.inj hl)
                    clear hl hr hp1 hjl hL1 CA
                    go_wp2_with (go_at_call 91; refine CW.out.mono ?_; rintro e w8 ⟨rfl, v8, hM8, hK8⟩; have HM8 := Lib.hid hM8; have HK8 := Lib.hid (HK01.out.next hK8); clear hM8 hK8)
                    go_ret
                    have he := HE.out
                    simp only [Prod.mk.injEq] at he
                    exact ⟨by rw [← he.1]; rfl, v8, by rw [← he.2]; exact HM8.out, HK8.out⟩
                  | true =>
                    have HL' := Lib.hid hl
                    have HO2 := Lib.hid (wrK_ok f p1 raw1 raw2 hr hO1.out)
                    clear hl hr hp1 hjl hL1 CA
                    go_wp2_with (go_at_call 91; refine CW.out.mono ?_; rintro e w8 ⟨rfl, v8, hM8, hK8⟩; have HM8 := Lib.hid hM8; have HK8 := Lib.hid (hK1.out.next hK8); clear hM8 hK8)
                    go_roundw
                    case rel => exact ⟨j + 1, raw2, v8, by omega, by go_num, HL', HM8, HO2, HK8⟩
                    case measure => simp [intOf]; omega
              · obtain rfl : j = d := by omega
                have hl := hL1.out
                rw [List.drop_eq_nil_of_le (by have := HD.out; omega)] at hl
                unfold wrL at hl
                have HE := Lib.hid (Option.some.inj hl)
                clear hl hL1 CA
                go_wp2
                go_ret
                have he := HE.out
                simp only [Prod.mk.injEq] at he
                exact ⟨by rw [← he.1]; rfl, v1, by rw [← he.2]; exact hM1.out, HK01.out⟩
      · skip
        rw [hcon] at hlok
        obtain ⟨c9, hlok⟩ := hlok
        have hlk3 := hlook hcon
        have hadd : addSeen seen x = seen := by simp [addSeen, show ¬ 0 ≤ x from by omega]; simpa using hcon
        obtain ⟨x2, hx2⟩ : ∃ x2, cnum seen x = x2 := ⟨_, rfl⟩
        have hren : ren1 seen x = x2 := by unfold ren1; rw [if_neg (by omega), hadd, hx2]
        rw [hx2] at hlk3
        obtain ⟨seen2, hs2⟩ : ∃ seen2, seen = seen2 := ⟨_, rfl⟩
        have hM1 := hM0
        rw [hs2] at hM1
        have hadd := hadd.trans hs2
        have HKW := Lib.hid (FormK.refl Bt bm (.slice A n c) w)
        have HKL := Lib.hid (show n ≤ (raw ++ [x]).length by rw [List.length_append, hn]; omega)
        clear hx2 hlen
        have hRX1 : w.ownsRow N0 3 1 (.slice A n c) n (xs.map (Value.int .i64)) := by have := hM1.row; rw [HCL.out] at this; exact this
        rw [hren] at HXS0
        rw [hadd] at HSN0 hw
        have HM := Lib.hid hM1
        have HRX := Lib.hid hRX1
        have HXS := Lib.hid HXS0.symm
        have HSEEN := Lib.hid HSN0.symm
        have HW := Lib.hid hw
        have cm1 := hM1.cm
        clear hren hadd
        clear h0 ho hbox ih hw hb hM hok hr hF0 gx hxs hseen hM0 hn hcl hM1 hRX1 HXS0 HSN0 hlook hN0 hs2 hxlow hxsym hcon
        go_enter Try.func91, Try.ntmps91
        have hcons := HM.out
        have cv1 := hcons.cv
        have fv1 := hcons.fv
        have HROW := Lib.hid (show (w.alloc (.cells #[.int .i64 x2] 3)).ownsRow N0 3 1 (.slice A n c) n (xs.map (Value.int .i64)) from World.ownsRow.alloc HRX.out _)
        have cvA := fun o => (alloc_keep w o ⟨Bt, 0, none⟩ hcons.lts.2.2.2.1).trans cv1
        have hsz1 := hcons.lts.2.2.2.1
        have HN1 := Lib.hid (show N0 ≤ (w.alloc (.cells #[.int .i64 x2] 3)).heap.size from by rw [World.size_alloc]; have := HBOX.out.lf; omega)
        clear hcons
        go_upto_region 9 with (first
          | (go_at_call 92; refine CR.out.mono ?_; rintro e V ⟨rfl, rfl⟩)
          | (at_builtin
             refine wpList_append_own_at _ rfl _ _ 45 rfl N0 3 i0 _ 1 8 Try.underlying45 hi hz0 hz1 hz2 rfl (by omega) (.slice A n c) n (xs.map (Value.int .i64)) rfl HROW.out ⟨w.heap.size, 0, none⟩ 1 1 [.int .i64 x2] rfl rfl
               (World.news_of_block (cs := #[.int .i64 x2]) (t := 3) (fr := (0, 0)) (heap_alloc_new w _)) (by simp [Value.oneCell']) (by unfold maxLen; omega) (by omega) HN1.out ?_
             intro v5 w5 hown5 hg5 _ hob5
             obtain ⟨g5, cap5, rfl, _⟩ := hown5.form (by omega)
             have hw15 : Below w.heap.size w (w.alloc (.cells #[.int .i64 x2] 3)) := bel_al0 w _
             have cbt5 : w5.cell? ⟨Bt, 0, none⟩ = some (.slice A n c) := (cell_grown hg5 (by rw [World.size_alloc]; omega) (fun e => (HOUT.out Bt e).2.2.1 rfl)).trans (cvA _)
             have fbt5 : w5.frozen? ⟨Bt, 0, none⟩ = false := (frozen_grown hg5 (by rw [World.size_alloc]; omega) (fun e => (HOUT.out Bt e).2.2.1 rfl)).trans ((World.frozen?_of_block (hw15.block _ hsz1)).trans fv1)
             have HM6 := Lib.hid (HM.out.store HBOX.out hw15 (by rw [HCL.out]; exact hown5) hg5 hob5)
             clear hown5 hg5 hob5 hw15))
        obtain ⟨W6, hW6⟩ : ∃ W6, w5.setCell ⟨Bt, 0, none⟩ (.slice (some ⟨g5, 0, none⟩) (n + 1) cap5) = W6 := ⟨_, rfl⟩
        rw [hW6] at HM6 ⊢
        obtain ⟨HM6, HK6⟩ := HM6.out
        have HM6 := Lib.hid HM6
        have HK06 := Lib.hid (HKW.out.next HK6)
        clear hW6 cbt5 fbt5 cvA HROW HK6
        have cv6 := HM6.out.cv
        have cm6 := HM6.out.cm
        have hln6 := HM6.out.numb.len
        obtain ⟨s, hs⟩ : ∃ s, seen2.length = s := ⟨_, rfl⟩
        rw [hs] at hln6
        have HS := Lib.hid hs
        have hw := HW.out
        by_cases h60 : 60 < n + 1
        · rw [if_pos (by rw [HNL.out]; exact h60)] at hw
          have hi60 : (60 : Int) < (n : Int) + 1 := by omega
          have HE := Lib.hid (Option.some.inj hw)
          clear hs hw h60
          go_wp2
          go_ret
          have he := HE.out
          simp only [Prod.mk.injEq] at he
          exact ⟨by rw [← he.1]; rfl, _, by rw [← he.2]; exact HM6.out.fin HXS.out HSEEN.out HKL.out, HK06.out⟩
        · rw [if_neg (by rw [HNL.out]; exact h60)] at hw
          have hi60 : ¬ (60 : Int) < (n : Int) + 1 := by omega
          by_cases h12 : 12 < s
          · rw [if_pos (by rw [hs]; exact h12)] at hw
            have hi12 : (12 : Int) < (s : Int) := by omega
            have HE := Lib.hid (Option.some.inj hw)
            clear hs hw h60 h12
            go_wp2
            go_ret
            have he := HE.out
            simp only [Prod.mk.injEq] at he
            exact ⟨by rw [← he.1]; rfl, _, by rw [← he.2]; exact HM6.out.fin HXS.out HSEEN.out HKL.out, HK06.out⟩
          · rw [if_neg (by rw [hs]; exact h12)] at hw
            have hi12 : ¬ (12 : Int) < (s : Int) := by omega
            have hF6 := H0.out.up (show Below w0.heap.size w0 W6 from by rw [HNN.out]; exact HB0.out.trans (HK06.out.below HBOX.out HN0.out HOWN.out))
            have CA := Lib.hid (kargs_any fb gn gb gp As ns cs cn cb cp ss nums kb kp r W6 hF6 HO.out hrn)
            obtain ⟨L, hL⟩ : ∃ L, argsK ss nums kb r = L := ⟨_, rfl⟩
            rw [hL] at CA hw
            have hl3 : L.length ≤ 3 := by rw [← hL]; unfold argsK; rw [argK_len]; exact arOf_le HO.out.ar _
            obtain ⟨d, hd⟩ : ∃ d, L.length = d := ⟨_, rfl⟩
            have HD := Lib.hid hd
            have hd3 : d ≤ 3 := by omega
            have HWL := Lib.hid hw
            have cf6 := HM6.out.cf
            have HOK6 := Lib.hid (show RawOk (raw ++ [x]) from ⟨by rw [List.length_append, List.length_singleton, HNL.out]; omega, by rw [← HSEEN.out, hs]; omega⟩)
            clear hs hw h60 h12 hF6 hL hl3 hd
            go_wp2_with (go_at_call 93; refine CA.out.mono ?_; rintro e w7 ⟨gA, rfl, hGA, hgA, hB7⟩; have HM7 := Lib.hid ((HM6.out.fin HXS.out HSEEN.out HKL.out).up hB7); have HGA := Lib.hid hGA; have HgA := Lib.hid (show gA ≠ Bt ∧ gA ≠ bm ∧ gA ≠ g5 from by have h1 := HM6.out.lts; have h2 := (h1.2.2.2.2.2 g5 rfl).2; omega); have HK7 := Lib.hid (HK06.out.next (FormK.of_below (v := .slice (some ⟨g5, 0, none⟩) (n + 1) cap5) hB7)); clear hGA hgA hB7 cf6 cv6 cm6 hln6; rw [HD.out])
            go_loopw [57] (fun kv wr => ∃ (j : Nat) (raw1 : List Int) (v1 : Value), j ≤ d ∧ kv = .int .i64 j ∧ Hid (wrL (wrK ss nums kb kp f) (L.drop j) raw1 = some (ok, raw')) ∧ Hid (FormAt wr Bf Bm Bt Bn bm fb N0 v1 (canon raw1) (seenA raw1) raw1.length) ∧ Hid (RawOk raw1) ∧ Hid (FormK Bt bm (.slice (some ⟨g5, 0, none⟩) (n + 1) cap5) v1 w7 wr)) (fun kv _ => d - (intOf kv).toNat)
            case atStart => exact ⟨0, raw ++ [x], _, Nat.zero_le _, rfl, Lib.hid (by rw [List.drop_zero]; exact HWL.out), HM7, HOK6, Lib.hid (FormK.refl _ _ _ _)⟩
            case round =>
              obtain ⟨j, raw1, v1, hj, rfl, hL1, hM1, hO1, hK1⟩ := hrel
              have HK01 := Lib.hid (HK7.out.next hK1.out)
              by_cases hlt : j < d
              · have hjl : j < L.length := by have := HD.out; omega
                have hl := hL1.out
                rw [List.drop_eq_getElem_cons hjl] at hl
                unfold wrL at hl
                have a0 : wr.cell? ⟨gA, j, none⟩ = some (.int .i64 (L[j] : Int)) := by
                  rw [KeepE.cell hK1.out.keep (p := ⟨gA, j, none⟩) ⟨HGA.out.lt, HgA.out.1, HgA.out.2.1, fun e => HgA.out.2.2 (Option.some.inj e).symm⟩, HGA.out.cell, List.getElem?_toArray, natV_get (List.getElem?_eq_getElem hjl)]
                obtain ⟨p1, hp1⟩ : ∃ p1, L[j] = p1 := ⟨_, rfl⟩
                rw [hp1] at hl a0
                cases hr : wrK ss nums kb kp f p1 raw1 with
                | none => rw [hr] at hl; cases hl
                | some y =>
                  obtain ⟨b2, raw2⟩ := y
                  rw [hr] at hl
                  have CW := Lib.hid (HIH.out p1 raw1 b2 raw2 v1 wr hr (HB0.out.trans (HK01.out.below HBOX.out HN0.out HOWN.out)) hM1.out hO1.out)
                  have cn1 := hM1.out.cn
                  have hj0 : (0 : Int) ≤ (j : Int) := by omega
                  have hj1 : (j : Int) < (d : Int) := by omega
                  cases b2 with
                  | false =>
                    have HE := Lib.hid (Option.some.inj hl)
                    clear hl hr hp1 hjl hL1 CA
                    go_wp2_with (go_at_call 91; refine CW.out.mono ?_; rintro e w8 ⟨rfl, v8, hM8, hK8⟩; have HM8 := Lib.hid hM8; have HK8 := Lib.hid (HK01.out.next hK8); clear hM8 hK8)
                    go_ret
                    have he := HE.out
                    simp only [Prod.mk.injEq] at he
                    exact ⟨by rw [← he.1]; rfl, v8, by rw [← he.2]; exact HM8.out, HK8.out⟩
                  | true =>
                    have HL' := Lib.hid hl
                    have HO2 := Lib.hid (wrK_ok f p1 raw1 raw2 hr hO1.out)
                    clear hl hr hp1 hjl hL1 CA
                    go_wp2_with (go_at_call 91; refine CW.out.mono ?_; rintro e w8 ⟨rfl, v8, hM8, hK8⟩; have HM8 := Lib.hid hM8; have HK8 := Lib.hid (hK1.out.next hK8); clear hM8 hK8)
                    go_roundw
                    case rel => exact ⟨j + 1, raw2, v8, by omega, by go_num, HL', HM8, HO2, HK8⟩
                    case measure => simp [intOf]; omega
              · obtain rfl : j = d := by omega
                have hl := hL1.out
                rw [List.drop_eq_nil_of_le (by have := HD.out; omega)] at hl
                unfold wrL at hl
                have HE := Lib.hid (Option.some.inj hl)
                clear hl hL1 CA
                go_wp2
                go_ret
                have he := HE.out
                simp only [Prod.mk.injEq] at he
                exact ⟨by rw [← he.1]; rfl, v1, by rw [← he.2]; exact hM1.out, HK01.out⟩
    · skip
      have hadd : addSeen seen x = seen := by simp [addSeen, show 0 ≤ x from by omega]
      have hren : ren1 seen x = x := by unfold ren1; rw [if_pos (by omega)]
      obtain ⟨seen2, hs2⟩ : ∃ seen2, seen = seen2 := ⟨_, rfl⟩
      have hM1 := hM0
      rw [hs2] at hM1
      have hadd := hadd.trans hs2
      have HKW := Lib.hid (FormK.refl Bt bm (.slice A n c) w)
      have HKL := Lib.hid (show n ≤ (raw ++ [x]).length by rw [List.length_append, hn]; omega)
      have hcon := hneg
      clear hlok hlen
      have hRX1 : w.ownsRow N0 3 1 (.slice A n c) n (xs.map (Value.int .i64)) := by have := hM1.row; rw [HCL.out] at this; exact this
      rw [hren] at HXS0
      rw [hadd] at HSN0 hw
      have HM := Lib.hid hM1
      have HRX := Lib.hid hRX1
      have HXS := Lib.hid HXS0.symm
      have HSEEN := Lib.hid HSN0.symm
      have HW := Lib.hid hw
      have cm1 := hM1.cm
      clear hren hadd
      clear h0 ho hbox ih hw hb hM hok hr hF0 gx hxs hseen hM0 hn hcl hM1 hRX1 HXS0 HSN0 hlook hN0 hs2 hxlow hxsym hcon
      go_enter Try.func91, Try.ntmps91
      have hcons := HM.out
      have cv1 := hcons.cv
      have fv1 := hcons.fv
      have HROW := Lib.hid (show (w.alloc (.cells #[.int .i64 x] 3)).ownsRow N0 3 1 (.slice A n c) n (xs.map (Value.int .i64)) from World.ownsRow.alloc HRX.out _)
      have cvA := fun o => (alloc_keep w o ⟨Bt, 0, none⟩ hcons.lts.2.2.2.1).trans cv1
      have hsz1 := hcons.lts.2.2.2.1
      have HN1 := Lib.hid (show N0 ≤ (w.alloc (.cells #[.int .i64 x] 3)).heap.size from by rw [World.size_alloc]; have := HBOX.out.lf; omega)
      clear hcons
      go_upto_region 9 with (first
        | (go_at_call 92; refine CR.out.mono ?_; rintro e V ⟨rfl, rfl⟩)
        | (at_builtin
           refine wpList_append_own_at _ rfl _ _ 45 rfl N0 3 i0 _ 1 8 Try.underlying45 hi hz0 hz1 hz2 rfl (by omega) (.slice A n c) n (xs.map (Value.int .i64)) rfl HROW.out ⟨w.heap.size, 0, none⟩ 1 1 [.int .i64 x] rfl rfl
             (World.news_of_block (cs := #[.int .i64 x]) (t := 3) (fr := (0, 0)) (heap_alloc_new w _)) (by simp [Value.oneCell']) (by unfold maxLen; omega) (by omega) HN1.out ?_
           intro v5 w5 hown5 hg5 _ hob5
           obtain ⟨g5, cap5, rfl, _⟩ := hown5.form (by omega)
           have hw15 : Below w.heap.size w (w.alloc (.cells #[.int .i64 x] 3)) := bel_al0 w _
           have cbt5 : w5.cell? ⟨Bt, 0, none⟩ = some (.slice A n c) := (cell_grown hg5 (by rw [World.size_alloc]; omega) (fun e => (HOUT.out Bt e).2.2.1 rfl)).trans (cvA _)
           have fbt5 : w5.frozen? ⟨Bt, 0, none⟩ = false := (frozen_grown hg5 (by rw [World.size_alloc]; omega) (fun e => (HOUT.out Bt e).2.2.1 rfl)).trans ((World.frozen?_of_block (hw15.block _ hsz1)).trans fv1)
           have HM6 := Lib.hid (HM.out.store HBOX.out hw15 (by rw [HCL.out]; exact hown5) hg5 hob5)
           clear hown5 hg5 hob5 hw15))
      obtain ⟨W6, hW6⟩ : ∃ W6, w5.setCell ⟨Bt, 0, none⟩ (.slice (some ⟨g5, 0, none⟩) (n + 1) cap5) = W6 := ⟨_, rfl⟩
      rw [hW6] at HM6 ⊢
      obtain ⟨HM6, HK6⟩ := HM6.out
      have HM6 := Lib.hid HM6
      have HK06 := Lib.hid (HKW.out.next HK6)
      clear hW6 cbt5 fbt5 cvA HROW HK6
      have cv6 := HM6.out.cv
      have cm6 := HM6.out.cm
      have hln6 := HM6.out.numb.len
      obtain ⟨s, hs⟩ : ∃ s, seen2.length = s := ⟨_, rfl⟩
      rw [hs] at hln6
      have HS := Lib.hid hs
      have hw := HW.out
      by_cases h60 : 60 < n + 1
      · rw [if_pos (by rw [HNL.out]; exact h60)] at hw
        have hi60 : (60 : Int) < (n : Int) + 1 := by omega
        have HE := Lib.hid (Option.some.inj hw)
        clear hs hw h60
        go_wp2
        go_ret
        have he := HE.out
        simp only [Prod.mk.injEq] at he
        exact ⟨by rw [← he.1]; rfl, _, by rw [← he.2]; exact HM6.out.fin HXS.out HSEEN.out HKL.out, HK06.out⟩
      · rw [if_neg (by rw [HNL.out]; exact h60)] at hw
        have hi60 : ¬ (60 : Int) < (n : Int) + 1 := by omega
        by_cases h12 : 12 < s
        · rw [if_pos (by rw [hs]; exact h12)] at hw
          have hi12 : (12 : Int) < (s : Int) := by omega
          have HE := Lib.hid (Option.some.inj hw)
          clear hs hw h60 h12
          go_wp2
          go_ret
          have he := HE.out
          simp only [Prod.mk.injEq] at he
          exact ⟨by rw [← he.1]; rfl, _, by rw [← he.2]; exact HM6.out.fin HXS.out HSEEN.out HKL.out, HK06.out⟩
        · rw [if_neg (by rw [hs]; exact h12)] at hw
          have hi12 : ¬ (12 : Int) < (s : Int) := by omega
          have hF6 := H0.out.up (show Below w0.heap.size w0 W6 from by rw [HNN.out]; exact HB0.out.trans (HK06.out.below HBOX.out HN0.out HOWN.out))
          have CA := Lib.hid (kargs_any fb gn gb gp As ns cs cn cb cp ss nums kb kp r W6 hF6 HO.out hrn)
          obtain ⟨L, hL⟩ : ∃ L, argsK ss nums kb r = L := ⟨_, rfl⟩
          rw [hL] at CA hw
          have hl3 : L.length ≤ 3 := by rw [← hL]; unfold argsK; rw [argK_len]; exact arOf_le HO.out.ar _
          obtain ⟨d, hd⟩ : ∃ d, L.length = d := ⟨_, rfl⟩
          have HD := Lib.hid hd
          have hd3 : d ≤ 3 := by omega
          have HWL := Lib.hid hw
          have cf6 := HM6.out.cf
          have HOK6 := Lib.hid (show RawOk (raw ++ [x]) from ⟨by rw [List.length_append, List.length_singleton, HNL.out]; omega, by rw [← HSEEN.out, hs]; omega⟩)
          clear hs hw h60 h12 hF6 hL hl3 hd
          go_wp2_with (go_at_call 93; refine CA.out.mono ?_; rintro e w7 ⟨gA, rfl, hGA, hgA, hB7⟩; have HM7 := Lib.hid ((HM6.out.fin HXS.out HSEEN.out HKL.out).up hB7); have HGA := Lib.hid hGA; have HgA := Lib.hid (show gA ≠ Bt ∧ gA ≠ bm ∧ gA ≠ g5 from by have h1 := HM6.out.lts; have h2 := (h1.2.2.2.2.2 g5 rfl).2; omega); have HK7 := Lib.hid (HK06.out.next (FormK.of_below (v := .slice (some ⟨g5, 0, none⟩) (n + 1) cap5) hB7)); clear hGA hgA hB7 cf6 cv6 cm6 hln6; rw [HD.out])
          go_loopw [57] (fun kv wr => ∃ (j : Nat) (raw1 : List Int) (v1 : Value), j ≤ d ∧ kv = .int .i64 j ∧ Hid (wrL (wrK ss nums kb kp f) (L.drop j) raw1 = some (ok, raw')) ∧ Hid (FormAt wr Bf Bm Bt Bn bm fb N0 v1 (canon raw1) (seenA raw1) raw1.length) ∧ Hid (RawOk raw1) ∧ Hid (FormK Bt bm (.slice (some ⟨g5, 0, none⟩) (n + 1) cap5) v1 w7 wr)) (fun kv _ => d - (intOf kv).toNat)
          case atStart => exact ⟨0, raw ++ [x], _, Nat.zero_le _, rfl, Lib.hid (by rw [List.drop_zero]; exact HWL.out), HM7, HOK6, Lib.hid (FormK.refl _ _ _ _)⟩
          case round =>
            obtain ⟨j, raw1, v1, hj, rfl, hL1, hM1, hO1, hK1⟩ := hrel
            have HK01 := Lib.hid (HK7.out.next hK1.out)
            by_cases hlt : j < d
            · have hjl : j < L.length := by have := HD.out; omega
              have hl := hL1.out
              rw [List.drop_eq_getElem_cons hjl] at hl
              unfold wrL at hl
              have a0 : wr.cell? ⟨gA, j, none⟩ = some (.int .i64 (L[j] : Int)) := by
                rw [KeepE.cell hK1.out.keep (p := ⟨gA, j, none⟩) ⟨HGA.out.lt, HgA.out.1, HgA.out.2.1, fun e => HgA.out.2.2 (Option.some.inj e).symm⟩, HGA.out.cell, List.getElem?_toArray, natV_get (List.getElem?_eq_getElem hjl)]
              obtain ⟨p1, hp1⟩ : ∃ p1, L[j] = p1 := ⟨_, rfl⟩
              rw [hp1] at hl a0
              cases hr : wrK ss nums kb kp f p1 raw1 with
              | none => rw [hr] at hl; cases hl
              | some y =>
                obtain ⟨b2, raw2⟩ := y
                rw [hr] at hl
                have CW := Lib.hid (HIH.out p1 raw1 b2 raw2 v1 wr hr (HB0.out.trans (HK01.out.below HBOX.out HN0.out HOWN.out)) hM1.out hO1.out)
                have cn1 := hM1.out.cn
                have hj0 : (0 : Int) ≤ (j : Int) := by omega
                have hj1 : (j : Int) < (d : Int) := by omega
                cases b2 with
                | false =>
                  have HE := Lib.hid (Option.some.inj hl)
                  clear hl hr hp1 hjl hL1 CA
                  go_wp2_with (go_at_call 91; refine CW.out.mono ?_; rintro e w8 ⟨rfl, v8, hM8, hK8⟩; have HM8 := Lib.hid hM8; have HK8 := Lib.hid (HK01.out.next hK8); clear hM8 hK8)
                  go_ret
                  have he := HE.out
                  simp only [Prod.mk.injEq] at he
                  exact ⟨by rw [← he.1]; rfl, v8, by rw [← he.2]; exact HM8.out, HK8.out⟩
                | true =>
                  have HL' := Lib.hid hl
                  have HO2 := Lib.hid (wrK_ok f p1 raw1 raw2 hr hO1.out)
                  clear hl hr hp1 hjl hL1 CA
                  go_wp2_with (go_at_call 91; refine CW.out.mono ?_; rintro e w8 ⟨rfl, v8, hM8, hK8⟩; have HM8 := Lib.hid hM8; have HK8 := Lib.hid (hK1.out.next hK8); clear hM8 hK8)
                  go_roundw
                  case rel => exact ⟨j + 1, raw2, v8, by omega, by go_num, HL', HM8, HO2, HK8⟩
                  case measure => simp [intOf]; omega
            · obtain rfl : j = d := by omega
              have hl := hL1.out
              rw [List.drop_eq_nil_of_le (by have := HD.out; omega)] at hl
              unfold wrL at hl
              have HE := Lib.hid (Option.some.inj hl)
              clear hl hL1 CA
              go_wp2
              go_ret
              have he := HE.out
              simp only [Prod.mk.injEq] at he
              exact ⟨by rw [← he.1]; rfl, v1, by rw [← he.2]; exact hM1.out, HK01.out⟩

end Go.Proofs.Ytojofbmpknpggaa

namespace Go.Proofs.Ytojofbmpknpggaa
open Go.RowKit

/-- What a call returns that returns a list of ints, in new memory, and an error. -/
def RetF (w : World) (zs : List Int) (er : Int) (e : Ending) (w' : World) : Prop :=
  ∃ A n c, e = .returned (.tuple #[.slice A n c, .int .i64 er]) ∧ IntsAt w' w'.heap.size A n zs ∧ (n ≤ c ∧ c ≤ 9223372036854775807) ∧ (∀ g : Addr, A = some g → w.heap.size ≤ g.block) ∧ Below w.heap.size w w'
set_option maxRecDepth 100000 in
set_option maxHeartbeats 2000000 in
theorem kform_new (fb gn gb gp : Nat) (As : Option Addr) (ns cs cn cb cp : Nat) (ss : Sg) (nums : List Int) (kb kp : List Nat) (ho : KOk ss nums kb) (f p : Nat) (ok : Bool) (raw' : List Int) (w : World) (h : FitAt w fb gn gb gp As ns cs cn cb cp ss nums kb kp) (hw : wrK ss nums kb kp f p [] = some (ok, raw')) :
    Calls Try.prog 82 #[.pointer (some ⟨fb, 0, none⟩), .int .i64 (p : Int)] w (RetF w (if ok = true then canon raw' else []) (if ok = true then 0 else 4)) := by
  obtain ⟨N, hN0⟩ : ∃ N, w.heap.size = N := ⟨_, rfl⟩
  let cl : Value := .func (.func 91) #[] #[.pointer (some ⟨N, 0, none⟩), .pointer (some ⟨N + 4, 0, none⟩), .pointer (some ⟨N + 2, 0, none⟩), .pointer (some ⟨N + 5, 0, none⟩)]
  let W1 := w.alloc (.cells #[.pointer (some ⟨fb, 0, none⟩)] 107)
  let W2 := W1.alloc (.cells #[] 3)
  let W3 := W2.alloc (.cells #[.slice (some ⟨N + 1, 0, none⟩) 0 0] 45)
  let W4 := W3.alloc (.map #[] 0)
  let W5 := W4.alloc (.cells #[.map (some (N + 3))] 114)
  let W6 := W5.alloc (.cells #[cl] 60)
  have z1 : W1.heap.size = N + 1 := by simp [W1, hN0]
  have z2 : W2.heap.size = N + 2 := by simp [W2, z1]
  have z3 : W3.heap.size = N + 3 := by simp [W3, z2]
  have z4 : W4.heap.size = N + 4 := by simp [W4, z3]
  have z5 : W5.heap.size = N + 5 := by simp [W5, z4]
  have z6 : W6.heap.size = N + 6 := by simp [W6, z5]
  have b1 : Blk W1 N 107 #[.pointer (some ⟨fb, 0, none⟩)] := by have := Blk.new w 107 #[.pointer (some ⟨fb, 0, none⟩)]; rw [hN0] at this; exact this
  have b2 : Blk W2 (N + 1) 3 #[] := by have := Blk.new W1 3 #[]; rw [z1] at this; exact this
  have b3 : Blk W3 (N + 2) 45 #[.slice (some ⟨N + 1, 0, none⟩) 0 0] := by have := Blk.new W2 45 #[.slice (some ⟨N + 1, 0, none⟩) 0 0]; rw [z2] at this; exact this
  have b5 : Blk W5 (N + 4) 114 #[.map (some (N + 3))] := by have := Blk.new W4 114 #[.map (some (N + 3))]; rw [z4] at this; exact this
  have b6 : Blk W6 (N + 5) 60 #[cl] := by have := Blk.new W5 60 #[cl]; rw [z5] at this; exact this
  have m4 : Numb W4 (N + 3) 0 [] := by have := Numb.made W3; rw [z3] at this; exact this
  have u2 : Below W1.heap.size W1 W2 := bel_al0 _ _
  have u3 : Below W2.heap.size W2 W3 := bel_al0 _ _
  have u4 : Below W3.heap.size W3 W4 := bel_al0 _ _
  have u5 : Below W4.heap.size W4 W5 := bel_al0 _ _
  have u6 : Below W5.heap.size W5 W6 := bel_al0 _ _
  have u36 : Below W3.heap.size W3 W6 := below_then (below_then u4 u5) u6
  have u46 : Below W4.heap.size W4 W6 := below_then u5 u6
  have uw : Below w.heap.size w W6 := below_then (below_then (below_then (bel_al0 w _) u2) u3) u36
  have k1 : Blk W6 N _ _ := b1.below (below_then (below_then u2 u3) u36) (by omega)
  have k2 : Blk W6 (N + 1) _ _ := b2.below (below_then u3 u36) (by omega)
  have k3 : Blk W6 (N + 2) _ _ := b3.below u36 (by omega)
  have k5 : Blk W6 (N + 4) _ _ := b5.below u6 (by omega)
  have hbox : BoxOk N (N + 4) (N + 2) (N + 5) (N + 3) N := ⟨by omega, by omega, by omega⟩
  have hM : FormAt W6 N (N + 4) (N + 2) (N + 5) (N + 3) fb N (.slice (some ⟨N + 1, 0, none⟩) 0 0) (canon []) (seenA []) ([] : List Int).length :=
    ⟨k1.cell 0, k5.cell 0, b6.cell 0, k3.cell 0, k3.frozen 0, m4.grown' (grown_none u46) (by simp), ⟨rfl, .inr ⟨N + 1, 0, #[], rfl, by omega, k2, Nat.le_refl _, by unfold maxLen; omega, rfl, rfl⟩⟩, fun g e => by have e2 : N + 1 = g := Option.some.inj e; omega⟩
  have hcall := kwrite_any w fb gn gb gp As ns cs cn cb cp ss nums kb kp h ho N (N + 4) (N + 2) (N + 5) (N + 3) N hN0 hbox f p [] ok raw' (.slice (some ⟨N + 1, 0, none⟩) 0 0) W6 hw (by rw [← hN0]; exact uw) hM ⟨by simp, by simp [seenA]⟩
  have HC : Hid (Calls Try.prog 91 #[.int .i64 (p : Int), .pointer (some ⟨N, 0, none⟩), .pointer (some ⟨N + 1 + 1 + 1 + 1, 0, none⟩), .pointer (some ⟨N + 1 + 1, 0, none⟩), .pointer (some ⟨N + 1 + 1 + 1 + 1 + 1, 0, none⟩)] W6
      (fun e w' => e = .returned (.bool ok) ∧ ∃ v', w'.cell? ⟨N + 1 + 1, 0, none⟩ = some v' ∧ Hid (w'.ownsRow N 3 1 v' (canon raw').length ((canon raw').map (Value.int .i64)) ∧ Below w.heap.size w w'))) :=
    Lib.hid (hcall.mono (R' := fun e w' => e = .returned (.bool ok) ∧ ∃ v', w'.cell? ⟨N + 1 + 1, 0, none⟩ = some v' ∧ Hid (w'.ownsRow N 3 1 v' (canon raw').length ((canon raw').map (Value.int .i64)) ∧ Below w.heap.size w w')) (fun e w' ⟨q1, v', q2, q3⟩ => ⟨q1, v', q2.cv, Lib.hid ⟨q2.row, by rw [hN0]; exact Below.trans (by rw [← hN0]; exact uw) (q3.below hbox (by omega) (fun g e => by have e2 : N + 1 = g := Option.some.inj e; omega))⟩⟩))
  have HCN : Hid (W6.cell? ⟨N + 1 + 1 + 1 + 1 + 1, 0, none⟩ = some (.func (.func 91) #[] #[.pointer (some ⟨N, 0, none⟩), .pointer (some ⟨N + 1 + 1 + 1 + 1, 0, none⟩), .pointer (some ⟨N + 1 + 1, 0, none⟩), .pointer (some ⟨N + 1 + 1 + 1 + 1 + 1, 0, none⟩)])) := Lib.hid (b6.cell 0)
  have HNB := Lib.hid hN0
  have hmm := @run_makeMap Try.prog
  have HLEN : Hid (ok = true → (canon raw').length ≤ 60) := Lib.hid fun e => by
    subst e
    rw [canon_length]
    exact (wrK_ok f p [] raw' hw ⟨by simp, by simp [seenA]⟩).1
  obtain ⟨WX, hWX⟩ : ∃ WX, W6 = WX := ⟨_, rfl⟩
  have HWX := Lib.hid hWX
  rw [hWX] at HC HCN
  clear hcall uw u46 u36 u6 u5 u4 u3 u2 k1 k2 k3 k5 b1 b2 b3 b5 b6 m4 hM hbox z1 z2 z3 z4 z5 z6 h ho hw hWX
  obtain ⟨xs, hxs⟩ : ∃ xs, canon raw' = xs := ⟨_, rfl⟩
  rw [hxs] at HC HLEN ⊢
  clear hxs
  obtain ⟨n, hn⟩ : ∃ n, xs.length = n := ⟨_, rfl⟩
  rw [hn] at HC HLEN
  have HN := Lib.hid hn
  clear hn
  cases ok with
  | true =>
    go_enter Try.func82, Try.ntmps82
    go_upto_region 5 with fail
    change Code.wp _ _ _ _ W6
    rw [HWX.out]
    clear HWX
    have hcn := HCN.out
    go_wp2_with (go_at_call 91; refine HC.out.mono ?_; rintro e w9 ⟨rfl, v9, c9, H9⟩; obtain ⟨A9, cp9, rfl⟩ := row_formK H9.out.1)
    go_ret2
    have hfr : ∀ g : Addr, A9 = some g → w.heap.size ≤ g.block := fun g e => by rw [HNB.out]; exact (H9.out.1.lt g.block (by rw [e]; rfl)).1
    obtain ⟨A8, c8, e8, hI, hk⟩ := row_ints_c H9.out.1 (by have := HLEN.out trivial; omega)
    cases e8
    exact ⟨_, _, _, rfl, by simpa using hI, hk, hfr, H9.out.2⟩
  | false =>
    go_enter Try.func82, Try.ntmps82
    go_upto_region 5 with fail
    change Code.wp _ _ _ _ W6
    rw [HWX.out]
    clear HWX
    have hcn := HCN.out
    go_wp2_with (go_at_call 91; refine HC.out.mono ?_; rintro e w9 ⟨rfl, v9, c9, H9⟩)
    go_ret2
    exact ⟨none, 0, 0, rfl, IntsAt.nil _ _ 0, by omega, fun g e => (by cases e), H9.out.2⟩

end Go.Proofs.Ytojofbmpknpggaa
