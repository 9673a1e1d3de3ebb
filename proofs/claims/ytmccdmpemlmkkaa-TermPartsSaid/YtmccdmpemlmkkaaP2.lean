/- The iterator over the parts of a term: the recursive closure. -/
import Derived.Test.YtmccdmpemlmkkaaP1
import Derived.Deep.RegionHeld3
import Derived.Deep.AppendLies
namespace Go.Proofs.Ytmccdmpemlmkkaa
open Go.RowKit Go.Shelf
attribute [local go_sem] Oper.semAt_some

theorem room_any {F : Fence} (hd : F.depth = none) (k : Nat) : F.room k := fun d h => by rw [hd] at h; cases h
theorem YieldAt.any {F : Fence} (hd : F.depth = none) {m : Nat} (m' : Nat) {P : Program} {l : Nat} {args : Array Value} {W : World} {R : Ending → World → Prop} (h : YieldAt F m P l args W R) : YieldAt F m' P l args W R := by
  obtain ⟨fn, tmps, assign, body, hy, hR⟩ := h
  exact ⟨fn, tmps, assign, body, hy, ⟨hR.1, fun c cs _ => hR.2 c cs (room_any hd _)⟩⟩

def WPost (n₀ : Nat) (X : Nat → Obj → Prop) (J : List Pt → World → Prop) (pre : List Pt) (W : World) (its : List It) (e : Ending) (W' : World) : Prop :=
  e = .returned (.bool true) ∧ ∃ xs, xs.map Pt.it = its ∧ J (pre ++ xs) W' ∧ KP n₀ X W W'

theorem acells_into (ss : Sg) (zs : List Int) (bt o r : Nat) : ∀ v ∈ (acells ss zs bt o r r).toList, Into bt v := by
  intro v hv
  unfold acells at hv
  rw [Nat.sub_self, List.replicate_zero, List.append_nil] at hv
  obtain ⟨i, _, rfl⟩ := List.mem_map.1 hv
  exact ⟨_, _, _, rfl⟩

set_option maxRecDepth 100000 in
set_option maxHeartbeats 2000000 in
theorem tour_in (n₀ m₀ l bt By Bs Bw N : Nat) (X : Nat → Obj → Prop) (As : Option Addr) (ns cs : Nat) (ss : Sg) (J : List Pt → World → Prop) (hnm : n₀ ≤ m₀) (hbt : bt < n₀) (har : ArOk ss) (hns : 1 ≤ ns) (hns2 : ns ≤ 12)
    (hX3 : ∀ b cs z, m₀ ≤ b → ¬ X b (.cells cs 3 z)) (hX25 : ∀ b cs z, m₀ ≤ b → (∀ v ∈ cs.toList, Into bt v) → ¬ X b (.cells cs 25 z)) (hfix : Fix n₀ X By Bs Bw)
    (hJ : ∀ pre W W', J pre W → m₀ ≤ W.heap.size → Below W.heap.size W W' → J pre W')
    (hY : ∀ m pre x W, J pre W → PtIn m₀ X ss bt W x → pre.length < N → YieldAt Fence.wide m Try.prog l (x.encs bt) W fun e W' =>
      e = .returned (.bool true) ∧ J (pre ++ [x]) W' ∧ KP n₀ X W W') :
    ∀ (f : Nat) (zs : List Int) (p : List Nat) (o n : Nat) (A : Option Addr) (c cp : Nat) (pre : List Pt) (W : World), zs.length ≤ f → 1 ≤ zs.length → zs.length ≤ 60 → zs.length ≤ cp → cp ≤ 9223372036854775807 → p.length + f ≤ 1000 → HeadsOk ss zs → scan ss 1 zs = some [] →
      Ctx n₀ l By Bs Bw As ns cs ss W → m₀ ≤ W.heap.size → PathIn m₀ X W A c p → PartIn W bt o zs → J pre W → pre.length + (walkL ss f p o zs).length ≤ N →
      CallsIn Fence.wide n Try.prog 70 #[.slice A p.length c, .slice (some ⟨bt, o, none⟩) zs.length cp, .pointer (some ⟨By, 0, none⟩), .pointer (some ⟨Bs, 0, none⟩), .pointer (some ⟨Bw, 0, none⟩)] W
        (WPost n₀ X J pre W (walkL ss f p o zs)) := by
  intro f
  induction f with
  | zero => intro zs p o n A c cp pre W h1 h2; omega
  | succ f ih =>
    intro zs p o n A c cp pre W hf h1 h60 hcp hcp2 hpl hh hscan hctx hm hpath hpart hJ0 hN
    have hN1 : pre.length < N := by
      have : 1 ≤ (walkL ss (f + 1) p o zs).length := by simp [walkL]
      omega
    obtain ⟨fn, tmps, assign, body, hy, hR⟩ := hY (n - 1) pre ⟨A, c, cp, (p, o, zs)⟩ W hJ0 ⟨hpath, by show p.length ≤ 1000; omega, hpart, ⟨h1, h60, hcp, hcp2⟩, hh, hscan⟩ hN1
    have cy := hctx.y.cell 0
    have hy' : (Instr.yield l #[.slice A p.length c, .slice (some ⟨bt, o, none⟩) zs.length cp]).run Try.prog W = .ok (.round l fn tmps assign body) W := hy
    have HCTX := Lib.hid hctx
    have HIH := Lib.hid ih
    have HSC := Lib.hid hscan
    have HHH := Lib.hid hh
    have HJ := Lib.hid hJ
    have HY := Lib.hid hY
    have HPATH := Lib.hid hpath
    have HPART := Lib.hid hpart
    have HX3 := Lib.hid hX3
    have HX25 := Lib.hid hX25
    have HRR := Lib.hid (hR.mono (R' := fun e W1 => e = .returned (.bool true) ∧ J (pre ++ [⟨A, c, cp, (p, o, zs)⟩]) W1 ∧ KP n₀ X W W1 ∧ W1.cell? ⟨Bs, 0, none⟩ = some (.slice As ns cs))
      (fun e W1 ⟨a1, a2, a3⟩ => ⟨a1, a2, a3, (hctx.keep hfix a3).s.cell 0⟩))
    have HAR := Lib.hid har
    clear hctx ih hscan hh hJ hY hpath hpart hX3 hX25 hy hR hJ0 har
    have hl0 : 0 < zs.length := by omega
    have hsign := HCTX.out.sig
    have hhd : zs.headD 0 = zs[0] := by cases zs with
      | nil => simp at hl0
      | cons z r => rfl
    have hpre : ∀ (xs : List Pt), pre ++ (⟨A, c, cp, (p, o, zs)⟩ :: xs) = (pre ++ [⟨A, c, cp, (p, o, zs)⟩]) ++ xs := fun xs => by simp
    by_cases hneg : zs[0] < 0
    · have hw : walkL ss (f + 1) p o zs = [(p, o, zs)] := by
        simp only [walkL, hhd, arOf, hneg, if_true, List.range_zero, List.flatMap_nil]
      have HW := Lib.hid hw
      have HC0 := Lib.hid (fun W1 (hK : KP n₀ X W W1) => (HPART.out.keep hbt hK) 0 hl0)
      obtain ⟨z, hz⟩ : ∃ z, zs[0] = z := ⟨_, rfl⟩
      rw [hz] at hneg HC0
      clear hw hhd hsign hN hpre hz
      refine callsIn_of_wp Try.func70 rfl trivial ?_ rfl
      simp only [Try.ntmps70, List.size_toArray, List.length_cons, List.length_nil, Nat.reduceAdd, Nat.reduceSub, Array.replicate_succ, Array.replicate_zero, List.push_toArray, List.append_toArray, List.nil_append, List.cons_append]
      gi_wp2_with (first
        | (refine ⟨trivial, fun h => (by cases h), ?_⟩; gi_at_call 49; refine (callsIn_wide.2 (arguments_var As ns cs bt o zs.length cp z W1 h1 (HC0.out W1 hK1) hneg)).mono ?_; rintro e W2 ⟨rfl, rfl⟩)
        | ((try refine ⟨fun h => (by cases h), ?_⟩); refine HRR.out.mono ?_; rintro e W1 ⟨rfl, hJ1, hK1, hcs1⟩))
      gi_loop [19] (fun i => i = .int .i64 0) (fun _ => 0)
      case atStart => rfl
      case round =>
        subst hrel
        gi_wp2
        go_ret
        exact ⟨rfl, [⟨A, c, cp, (p, o, zs)⟩], by rw [HW.out]; rfl, hJ1, hK1⟩
    · have hin := List.getElem_mem hl0
      have hzl := HHH.out _ hin
      obtain ⟨q, hq⟩ : ∃ q : Nat, zs[0] = (q : Int) := ⟨zs[0].toNat, by omega⟩
      rw [hq] at hzl
      have hqs : q < ss.length := by omega
      obtain ⟨ha0, ha3⟩ := HAR.out _ (List.getElem_mem hqs)
      obtain ⟨r, hr⟩ : ∃ r : Nat, ss[q].2 = (r : Int) := ⟨ss[q].2.toNat, by omega⟩
      rw [hr] at ha3
      have hr3 : r ≤ 3 := by omega
      have har1 : arOf ss zs[0] = r := by rw [hq, arOf_at hqs, hr, Int.toNat_natCast]
      have hrest : scan ss r (zs.drop 1) = some [] := by rw [← har1]; exact scan_head HSC.out hl0
      have hw : walkL ss (f + 1) p o zs = (p, o, zs) :: (List.range r).flatMap fun k => walkL ss f (p ++ [k]) (o + pos ss zs k) (argL ss zs k) := by
        simp only [walkL, hhd, har1]
      have HC := Lib.hid (fun W1 (hK : KP n₀ X W W1) => arguments_sym As ns cs bt o zs.length cp q r ss zs W1 ((HCTX.out.keep hfix hK).sig.more (HCTX.out.keep hfix hK).size) ((HPART.out.keep hbt hK).ints (by have := (HCTX.out.keep hfix hK).size; omega) (by omega)) HAR.out hns hns2 h1 h60 hcp hcp2 HHH.out HSC.out (by rw [List.getElem?_eq_getElem hl0, hq]) (by rw [List.getElem?_eq_getElem hqs]; simp [hr]))
      have HW := Lib.hid hw
      have HREST := Lib.hid hrest
      clear hw hhd hsign hpre hq hr har1 hrest hzl hin ha0 ha3 hneg
      refine callsIn_of_wp Try.func70 rfl trivial ?_ rfl
      simp only [Try.ntmps70, List.size_toArray, List.length_cons, List.length_nil, Nat.reduceAdd, Nat.reduceSub, Array.replicate_succ, Array.replicate_zero, List.push_toArray, List.append_toArray, List.nil_append, List.cons_append]
      gi_wp2_with (first
        | (refine ⟨trivial, fun h => (by cases h), ?_⟩; gi_at_call 49; refine (callsIn_wide.2 (HC.out W1 hK1)).mono ?_; rintro e W2 ⟨rfl, hB2, hF2⟩)
        | ((try refine ⟨fun h => (by cases h), ?_⟩); refine HRR.out.mono ?_; rintro e W1 ⟨rfl, hJ1, hK1, hcs1⟩))
      · refine wpIn_wide.2 ?_
        have hm1 : m₀ ≤ W1.heap.size := Nat.le_trans hm hK1.below.size
        have hJ2 := HJ.out _ _ _ hJ1 hm1 hB2
        have hK2 := hK1.trans (KP.of_below (X := X) hB2 (by omega))
        have HJ2 := Lib.hid hJ2
        have HK2 := Lib.hid hK2
        have HF2 := Lib.hid hF2
        obtain ⟨Na, hNa⟩ : ∃ Na, W1.heap.size = Na := ⟨_, rfl⟩
        rw [hNa] at hm1 HF2
        rw [hNa]
        clear hJ1 hK1 hB2 hF2 hJ2 hK2 hcs1 hNa
        go_loopw [19] (fun i wr => ∃ (k : Nat) (xs : List Pt), k ≤ r ∧ i = .int .i64 k ∧ xs.map Pt.it = (List.range k).flatMap (fun k => walkL ss f (p ++ [k]) (o + pos ss zs k) (argL ss zs k)) ∧ J (pre ++ [⟨A, c, cp, (p, o, zs)⟩] ++ xs) wr ∧ KP n₀ X W2 wr) (fun i _ => r - (intOf i).toNat)
        case atStart => exact ⟨0, [], Nat.zero_le _, rfl, rfl, by simpa using HJ2.out, KP.refl _⟩
        case round =>
          obtain ⟨k, xs, hk, rfl, hxs, hJr, hKr⟩ := hrel
          by_cases hlt : k < r
          · obtain ⟨hs1, hs2, hs3⟩ := pos_step HREST.out h1 hlt
            obtain ⟨_, hs4, _⟩ := pos_scan HREST.out h1 (Nat.le_of_lt hlt)
            obtain ⟨_, _, hs5⟩ := pos_scan HREST.out h1 (show k + 1 ≤ r from hlt)
            obtain ⟨ha1, ha2⟩ := argL_ok HREST.out h1 hlt
            have hKW := HK2.out.trans hKr
            have hctx := HCTX.out.keep hfix hKW
            have hpath := HPATH.out.keep hnm hKW
            have hpart := (HPART.out.keep hbt hKW).arg (ss := ss) (k := k)
            have hFr := hKr.blk HF2.out (by omega) (HX25.out _ _ _ hm1 (acells_into ss zs bt o r))
            have cw := hctx.w.cell 0
            have hBwlt := hctx.w.lt
            have cA := (hFr.cell k).trans (acells_all ss zs bt o r hlt)
            unfold argV at cA
            rw [← ha2] at cA
            have hmr : m₀ ≤ wr.heap.size := Nat.le_trans hm hKW.below.size
            have HS1 := Lib.hid ha1
            have HL := Lib.hid ha2
            have HPA := Lib.hid hpath
            have HPP := Lib.hid hpart
            have HCT := Lib.hid hctx
            have HJR := Lib.hid hJr
            have HKR := Lib.hid hKr
            have HXS := Lib.hid hxs
            obtain ⟨q', hq'⟩ : ∃ q', pos ss zs k = q' := ⟨_, rfl⟩
            obtain ⟨L, hL⟩ : ∃ L, argL ss zs k = L := ⟨_, rfl⟩
            rw [hq', hL] at cA
            clear hs1 hs3 ha1 ha2 hKW hctx hpath hpart hFr hJr hKr hxs
            have CALL := Lib.hid (fun (V : World) (g cap : Nat) (hb : Below wr.heap.size wr V) (hp : PathIn m₀ X V (some ⟨g, 0, none⟩) cap (p ++ [k])) =>
              callsIn_wide.1 (HIH.out (argL ss zs k) (p ++ [k]) (o + pos ss zs k) n (some ⟨g, 0, none⟩) cap (argL ss zs k).length (pre ++ [⟨A, c, cp, (p, o, zs)⟩] ++ xs) V
                (by have := HL.out; omega) (by have := HL.out; omega) (by have := HL.out; omega) (Nat.le_refl _) (by have := HL.out; omega) (by simp; omega) (fun z hz => HHH.out z (List.mem_of_mem_drop (List.mem_of_mem_take hz))) HS1.out
                (HCT.out.keep hfix (KP.of_below hb HCT.out.size)) (Nat.le_trans hmr hb.size) hp (HPP.out.keep hbt (KP.of_below (X := X) hb HCT.out.size)) (HJ.out _ _ _ HJR.out hmr hb) (by
                  have e1 := HW.out
                  have e2 : xs.length = ((List.range k).flatMap (fun k => walkL ss f (p ++ [k]) (o + pos ss zs k) (argL ss zs k))).length := by rw [← HXS.out, List.length_map]
                  have e3 : List.range r = List.range k ++ ([k] ++ (List.range (r - (k + 1))).map (k + 1 + ·)) := by
                    rw [← List.append_assoc, ← List.range_succ, ← List.range_add]
                    congr 1; omega
                  rw [e1, e3, List.flatMap_append, List.flatMap_append] at hN
                  simp only [List.length_cons, List.length_append, List.flatMap_cons, List.flatMap_nil, List.append_nil, List.length_nil] at hN ⊢
                  omega)))
            rw [hq', hL] at CALL
            have CALLB := Lib.hid (fun (V : World) (g cap : Nat) (hb : Below wr.heap.size wr V) (hp : PathIn m₀ X V (some ⟨g, 0, none⟩) cap (p ++ [k])) => (CALL.out V g cap hb hp).mono (R' := fun e W' => e = .returned (.bool true) ∧ W'.cell? ⟨Bw, 0, none⟩ = some (.func (.func 70) #[] #[.pointer (some ⟨By, 0, none⟩), .pointer (some ⟨Bs, 0, none⟩), .pointer (some ⟨Bw, 0, none⟩)]) ∧ ∃ ys, ys.map Pt.it = walkL ss f (p ++ [k]) (o + q') L ∧ J (pre ++ [⟨A, c, cp, (p, o, zs)⟩] ++ xs ++ ys) W' ∧ KP n₀ X wr W') (fun e W' ⟨h1, ys, h2, h3, h4⟩ =>
              ⟨h1, ((HCT.out.keep hfix ((KP.of_below (X := X) hb HCT.out.size).trans h4)).w.cell 0), ys, h2, h3, (KP.of_below (X := X) hb HCT.out.size).trans h4⟩))
            simp only [List.length_append, List.length_cons, List.length_nil] at CALLB
            clear CALL
            obtain ⟨i0, hi, hz0, hz1, hz2⟩ := info_parts info_int
            have hbw := hBwlt
            have HQ := Lib.hid (show walkL ss f (p ++ [k]) (o + q') L = walkL ss f (p ++ [k]) (o + pos ss zs k) (argL ss zs k) by rw [hq', hL])
            have HIH0 := hq'
            have HPD : Hid (PathIn m₀ X wr.drew A c p) := HPA.out
            have HPB : Hid (PathIn m₀ X (wr.drew.alloc (.cells #[.int .i64 (k : Int)] 3)) A c p) := Lib.hid (HPA.out.keep hnm (KP.of_below (X := X) (((Below.refl _ wr).drew).alloc (Nat.le_refl _) _) HCT.out.size))
            have hp1 : p.length ≤ 1000 := by omega
            clear HIH HSC HHH HJ HY HRR HAR HREST HC HS1 hq' hL hfix HIH0
            go_wp2_with fail
            go_region_held3 (fun w' => w'.cell? ⟨Bw, 0, none⟩ = some (.func (.func 70) #[] #[.pointer (some ⟨By, 0, none⟩), .pointer (some ⟨Bs, 0, none⟩), .pointer (some ⟨Bw, 0, none⟩)]))
              (first | go_keep | assumption)
              (first
                | (go_at_call 71; refine (cloneP (X := X) (m₀ := m₀) (p := p) HPD.out hp1).mono ?_; rintro e W3 ⟨v, rfl, hrow, hB3⟩; have HROW := Lib.hid hrow; have cw3 := (hB3.cell (p := ⟨Bw, 0, none⟩) hbw).trans cw; clear hrow)
                | (go_at_call 71; refine (cloneP (X := X) (m₀ := m₀) (p := p) HPB.out hp1).mono ?_; rintro e W3 ⟨v, rfl, hrow, hB3⟩
                   have HROWB := Lib.hid hrow
                   have hB3' := hB3
                   have hb3 : Below wr.heap.size wr W3 := (((Below.refl _ wr).drew).alloc (Nat.le_refl _) _).trans (hB3.mono (by simp))
                   have cw3 := (hb3.cell (p := ⟨Bw, 0, none⟩) hbw).trans cw
                   have HBLK := Lib.hid (show W3.heap[wr.heap.size]? = some (.cells #[pv k] 3 (0, 0)) from (hB3.block wr.heap.size (by simp)).trans (heap_alloc_new wr.drew _))
                   have HB3 := Lib.hid hb3
                   clear hrow hb3)
                | (refine step_append_lies _ (by rfl) _ _ _ (by rfl) _ 3 i0 _ 1 8 Try.underlying24 hi hz0 hz1 hz2 rfl (by omega) v p.length (p.map pv) (by rfl) HROWB.out ⟨wr.heap.size, 0, none⟩ 1 1 [pv k] (by rfl) (by rfl) (World.news_of_block (cs := #[pv k]) (t := 3) (fr := (0, 0)) HBLK.out) (by simp [Value.oneCell', pv]) (by omega) (by unfold maxLen; omega) (by omega) hB3'.size _ rfl ?_
                   intro gg cap4 W4 hrow4 hgrow _ _
                   have hb4 : Below wr.heap.size wr W4 := HB3.out.grown hgrow HB3.out.size (fun j e => by have := (HROWB.out.lt j e).1; simp at this; omega)
                   have hp4 := path_of_row (m₀ := m₀) (X := X) hrow4 (by simp; omega) HX3.out
                   have cw4 := (hb4.cell (p := ⟨Bw, 0, none⟩) hbw).trans cw
                   have HB4 := Lib.hid hb4
                   have HP4 := Lib.hid hp4
                   clear hrow4 hgrow hb4 hp4)
                | (refine step_append_lies _ (by rfl) _ _ _ (by rfl) _ 3 i0 _ 1 8 Try.underlying24 hi hz0 hz1 hz2 rfl (by omega) v p.length (p.map pv) (by rfl) (HROW.out.alloc _) ⟨W3.heap.size, 0, none⟩ 1 1 [pv k] (by rfl) (by rfl) (World.news_of_block (cs := #[pv k]) (t := 3) (fr := (0, 0)) (heap_alloc_new W3 _)) (by simp [Value.oneCell', pv]) (by omega) (by unfold maxLen; omega) (by omega) (by have := hB3.size; simp at this ⊢; omega) _ rfl ?_
                   intro gg cap4 W4 hrow4 hgrow _ _
                   have hb4 : Below wr.heap.size wr W4 := ((((Below.refl _ wr).drew).trans hB3).alloc hB3.size _).grown hgrow (by have := hB3.size; simp at this ⊢; omega) (fun j e => (HROW.out.lt j e).1)
                   have hp4 := path_of_row (m₀ := m₀) (X := X) hrow4 hmr HX3.out
                   have cw4 := (hb4.cell (p := ⟨Bw, 0, none⟩) hbw).trans cw
                   have HB4 := Lib.hid hb4
                   have HP4 := Lib.hid hp4
                   clear hrow4 hgrow hb4 hp4)
                | (go_at_call 70; refine (CALLB.out _ _ _ HB4.out HP4.out).mono ?_; rintro e W5 ⟨rfl, cw5, h5⟩; have H5 := Lib.hid h5; clear h5))
            all_goals
              go_wp2
              obtain ⟨ys, hy1, hy2, hy3⟩ := H5.out
              go_roundw
              case rel => exact ⟨k + 1, xs ++ ys, by omega, by go_num, by rw [List.map_append, HXS.out, hy1, List.range_succ, List.flatMap_append, HQ.out]; simp, by simpa using hy2, HKR.out.trans hy3⟩
              case measure => simp [intOf]; omega
          · obtain rfl : k = r := by omega
            have HXS := Lib.hid hxs
            clear hxs
            go_wp2
            gi_wp2
            go_ret
            exact ⟨rfl, ⟨A, c, cp, (p, o, zs)⟩ :: xs, by rw [HW.out, List.map_cons, HXS.out], by simpa using hJr, HK2.out.trans hKr⟩

end Go.Proofs.Ytmccdmpemlmkkaa
