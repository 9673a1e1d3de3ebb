/- Contracts: common, Meet. -/
import Derived.Test.YtgbfccbnbgbknaaY15g
import Derived.Test.YtgbfccbnbgbknaaN1g
/- Contracts: search, unite. -/
namespace Go.Proofs.Ytgbfccbnbgbknaa
open Go.RowKit

set_option maxHeartbeats 1000000 in
theorem search_any (As : Option Addr) (ns cs : Nat) (w : World) :
    Calls Try.prog 180 #[.slice As ns cs] w fun e w' =>
      e = .returned (.pointer (some ⟨w.heap.size + 1, 0, none⟩)) ∧ FAt w' (fun b => b < w.heap.size) (w.heap.size + 1) (.slice As ns cs) Fd.none ∧ Below w.heap.size w w' := by
  have hmm := @run_makeMap Try.prog
  go_enter Try.func180, Try.ntmps180
  go_wp2
  go_ret
  have hb1 : Below w.heap.size w (w.alloc (.map #[] 0)) := (Below.refl _ w).alloc (Nat.le_refl _) _
  have h2 : Blk ((w.alloc (.map #[] 0)).alloc (.cells #[.slice As ns cs, .slice none 0 0, .slice none 0 0, .slice none 0 0, .map (some w.heap.size)] 188)) (w.heap.size + 1) 188 #[.slice As ns cs, .slice none 0 0, .slice none 0 0, .slice none 0 0, .map (some w.heap.size)] := by
    have := Blk.new (w.alloc (.map #[] 0)) 188 #[.slice As ns cs, .slice none 0 0, .slice none 0 0, .slice none 0 0, .map (some w.heap.size)]
    rw [World.size_alloc] at this
    exact this
  refine ⟨rfl, ⟨w.heap.size, .slice none 0 0, .slice none 0 0, .slice none 0 0, [], ⟨h2, by omega, by omega, (fun g e => by cases e), ⟨fun j v us e => ?_, fun i j v us v' us' _ e _ => ?_, fun j v us e g hg => ?_⟩, ⟨rfl, .inl ⟨rfl, rfl⟩⟩, ?_⟩, rfl⟩, hb1.alloc (by simp) _⟩
  · match j, e with
    | 0, e => cases e; exact ⟨rfl, .inl ⟨rfl, rfl⟩⟩
    | 1, e => cases e; exact ⟨rfl, .inl ⟨rfl, rfl⟩⟩
    | j + 2, e => cases e
  · match i, e with
    | 0, e => cases e; exact .inl rfl
    | 1, e => cases e; exact .inl rfl
    | i + 2, e => cases e
  · match j, e with
    | 0, e => cases e; cases hg
    | 1, e => cases e; cases hg
    | j + 2, e => cases e
  · exact (VarMap.made w).grown (row := none) (grown_none ((Below.refl _ _).alloc (Nat.le_refl _) _)) (by simp)

/-- Two terms, the second one shifted: their nodes, and what has been found of them. -/
def uniteF (ss : Sg) (sh : Int) (m : Nat) (za zb : List Int) (F : Fd) : Option (Nat × Bool × Fd) :=
  match solveF m [((addT ss 0 za F).1, (addT ss sh zb (addT ss 0 za F).2.2).1)] (addT ss sh zb (addT ss 0 za F).2.2).2.2 with
  | .none => .none
  | some (false, G) => some ((addT ss 0 za F).1, false, G)
  | some (true, G) => match endlessF G m (addT ss 0 za F).1 with
    | .none => .none
    | some en => some ((addT ss 0 za F).1, !en, G)

set_option maxRecDepth 100000 in
set_option maxHeartbeats 1000000 in
theorem unite_any (E : Nat → Prop) (B fb na ca nb cb ns cs : Nat) (As Aa Ab : Option Addr) (sh : Int) (ss : Sg) (za zb : List Int) (F G : Fd) (m k : Nat) (ok : Bool) (w : World) (hva : valOk ss za = true) (hvb : valOk ss zb = true) (hsh : 0 ≤ sh ∧ sh ≤ 1000) (hlow : ∀ b, b < B → E b) (hE : ∀ b, E b → b < w.heap.size)
    (hs : SigAt w B As ns ss) (ha : IntsAt w B Aa na za) (hb : IntsAt w B Ab nb zb) (hB : B ≤ w.heap.size) (hA : FAt w E fb (.slice As ns cs) F) (hF : F.Ok) (hN : F.tops.length ≤ 1000) (hm : m ≤ 1000000)
    (har : ∀ l ∈ (addT ss sh zb (addT ss 0 za F).2.2).2.2.args, l.length ≤ 3) (hu : uniteF ss sh m za zb F = some (k, ok, G)) :
    Calls Try.prog 181 #[.pointer (some ⟨fb, 0, none⟩), .slice Aa na ca, .slice Ab nb cb, .int .i64 sh] w fun e w' => e = .returned (.tuple #[.int .i64 (k : Int), .bool ok]) ∧ FAt w' E fb (.slice As ns cs) G ∧ KeepE E w w' := by
  obtain ⟨a1, a60, _, hsca⟩ := valOk_term hva
  obtain ⟨b1, b60, _, hscb⟩ := valOk_term hvb
  have A1 := addF_ok ss 0 (za.length + 1) za [] F (by omega) hsca hF
  have A2 := addF_ok ss sh (zb.length + 1) zb [] (addT ss 0 za F).2.2 (by omega) hscb A1.ok
  have l1 := A1.le
  have l2 := A2.le
  unfold uniteF at hu
  obtain ⟨k1, hk1⟩ : ∃ k1, (addT ss 0 za F).1 = k1 := ⟨_, rfl⟩
  obtain ⟨F1, hF1⟩ : ∃ F1, (addT ss 0 za F).2.2 = F1 := ⟨_, rfl⟩
  have o1 : F1.Ok := by rw [← hF1]; exact A1.ok
  have n1 : F1.tops.length ≤ 2000 := by rw [← hF1]; simp at l1; show (addF _ _ _ _ _).2.2.tops.length ≤ _; omega
  have C1 := Lib.hid (add_any E B fb na ca ns cs As Aa 0 ss za F w hva (by omega) hlow hE hs ha hB hA hF (by omega))
  rw [hk1, hF1] at C1 hu
  rw [hF1] at har A2 l2
  obtain ⟨k2, hk2⟩ : ∃ k2, (addT ss sh zb F1).1 = k2 := ⟨_, rfl⟩
  obtain ⟨F2, hF2⟩ : ∃ F2, (addT ss sh zb F1).2.2 = F2 := ⟨_, rfl⟩
  have o2 : F2.Ok := by rw [← hF2]; exact A2.ok
  have n2 : F2.tops.length ≤ 3000 := by rw [← hF2]; simp at l2; show (addF _ _ _ _ _).2.2.tops.length ≤ _; omega
  have C2 := Lib.hid (fun w1 (hA1 : FAt w1 E fb (.slice As ns cs) F1) (hk : KeepE E w w1) => add_any E B fb nb cb ns cs As Ab sh ss zb F1 w1 hvb hsh hlow (hk.lt hE) (hs.below (hk.below hlow)) (hb.below (hk.below hlow)) (Nat.le_trans hB hk.size) hA1 o1 (by omega))
  rw [hk2, hF2] at C2 hu
  rw [hF2] at har
  obtain ⟨okS, G', hsol⟩ : ∃ okS G', solveF m [(k1, k2)] F2 = some (okS, G') := by
    cases e : solveF m [(k1, k2)] F2 with
    | none => rw [e] at hu; cases hu
    | some x => exact ⟨x.1, x.2, rfl⟩
  rw [hsol] at hu
  obtain ⟨en, hen, hre⟩ : ∃ en, (okS = true → endlessF G' m k1 = some en) ∧ k = k1 ∧ ok = (okS && !en) ∧ G = G' := by
    cases okS with
    | false =>
      simp only at hu
      have := Option.some.inj hu
      simp only [Prod.mk.injEq] at this
      exact ⟨true, fun e => (by cases e), this.1.symm, this.2.1.symm, this.2.2.symm⟩
    | true =>
      simp only at hu
      cases e : endlessF G' m k1 with
      | none => rw [e] at hu; cases hu
      | some en =>
        rw [e] at hu
        have := Option.some.inj hu
        simp only [Prod.mk.injEq] at this
        exact ⟨en, fun _ => rfl, this.1.symm, this.2.1.symm, this.2.2.symm⟩
  obtain ⟨rfl, rfl, rfl⟩ := hre
  have C3 := Lib.hid (fun w2 (hA2 : FAt w2 E fb (.slice As ns cs) F2) (hk : KeepE E w w2) => solve_any E fb (.slice As ns cs) F2 G m k k2 okS m en w2 hA2 o2 (hk.lt hE) (by omega) har hm hsol hen)
  clear A1 A2 l1 l2 hu hsol hen har hva hvb hlow hE hs ha hb hA hF hsca hscb hk1 hF1 hk2 hF2 o1 o2 n1 n2
  go_enter Try.func181, Try.ntmps181
  go_wp2_with (first
    | (go_at_call 213; refine C1.out.mono ?_; rintro e w1 ⟨rfl, hA1, hK1⟩; have HA1 := Lib.hid hA1; have HK1 := Lib.hid hK1; have C2' := Lib.hid (C2.out w1 hA1 hK1); clear hA1 hK1 C1)
    | (go_at_call 213; refine C2'.out.mono ?_; rintro e w2 ⟨rfl, hA2, hK2⟩; have HK2 := Lib.hid (HK1.out.trans hK2); have C3' := Lib.hid (C3.out w2 hA2 HK2.out); clear hA2 hK2)
    | (go_at_call 214; refine C3'.out.mono ?_; rintro e w3 ⟨rfl, hA3, hK3⟩))
  go_ret2
  exact ⟨rfl, hA3, HK2.out.trans hK3⟩

end Go.Proofs.Ytgbfccbnbgbknaa

namespace Go.Proofs.Ytgbfccbnbgbknaa
open Go.RowKit

theorem solveF_ok : ∀ (m : Nat) (st : List (Nat × Nat)) (F : Fd) (b : Bool) (G : Fd), solveF m st F = some (b, G) → F.Ok → G.Ok ∧ G.tops = F.tops ∧ G.args = F.args
  | 0, st, F, b, G, h, _ => by cases h
  | m + 1, st, F, b, G, h, hF => by
    unfold solveF at h
    cases hl : st.getLast? with
    | none => rw [hl] at h; cases h; exact ⟨hF, rfl, rfl⟩
    | some p =>
      obtain ⟨l, r⟩ := p
      rw [hl] at h
      simp only at h
      cases hx : rootS F.prox m l with
      | none => rw [hx] at h; cases h
      | some x =>
      cases hy : rootS F.prox m r with
      | none => rw [hx, hy] at h; cases h
      | some y =>
      rw [hx, hy] at h
      simp only at h
      have hxl : x < F.tops.length := by rw [← hF.pl]; exact (rootS_lt hx).2.1
      have hyl : y < F.tops.length := by rw [← hF.pl]; exact (rootS_lt hy).2.1
      by_cases hxy : x = y
      · rw [if_pos hxy] at h
        exact solveF_ok m _ _ _ _ h hF
      · rw [if_neg hxy] at h
        rw [List.getElem?_eq_getElem hxl, List.getElem?_eq_getElem hyl] at h
        simp only at h
        by_cases hty : F.tops[y] < 0
        · simp only [if_pos hty] at h
          exact solveF_ok m st.dropLast (F.setP y x) b G h (hF.setP hxl)
        · simp only [if_neg hty] at h
          split at h
          · exact solveF_ok m _ (F.setP x y) b G h (hF.setP hyl)
          · split at h
            · split at h
              · split at h
                · exact solveF_ok m _ (F.setP x y) b G h (hF.setP hyl)
                · cases h
              · cases h
            · cases h
              exact ⟨hF.setP hyl, rfl, rfl⟩
theorem uniteF_ok {ss : Sg} {sh : Int} {m : Nat} {za zb : List Int} {F : Fd} {k : Nat} {ok : Bool} {G : Fd} (h : uniteF ss sh m za zb F = some (k, ok, G)) (hF : F.Ok) (ha : scan ss 1 za = some []) (hb : scan ss 1 zb = some []) : G.Ok ∧ G.tops.length ≤ F.tops.length + za.length + zb.length := by
  have A1 := addF_ok ss 0 (za.length + 1) za [] F (by omega) ha hF
  have A2 := addF_ok ss sh (zb.length + 1) zb [] (addT ss 0 za F).2.2 (by omega) hb A1.ok
  have l1 := A1.le
  have l2 := A2.le
  simp only [List.length_nil, Nat.add_zero] at l1 l2
  have key : ∀ b G', solveF m [((addT ss 0 za F).1, (addT ss sh zb (addT ss 0 za F).2.2).1)] (addT ss sh zb (addT ss 0 za F).2.2).2.2 = some (b, G') → G'.Ok ∧ G'.tops.length ≤ F.tops.length + za.length + zb.length := by
    intro b G' e
    obtain ⟨h1, h2, _⟩ := solveF_ok _ _ _ _ _ e A2.ok
    refine ⟨h1, ?_⟩
    rw [h2]
    show (addF _ _ _ _ _).2.2.tops.length ≤ _
    have : (addT ss 0 za F).2.2.tops.length = (addF ss 0 (za.length + 1) za F).2.2.tops.length := rfl
    omega
  unfold uniteF at h
  split at h
  · cases h
  · rename_i e
    cases h
    exact key _ _ e
  · rename_i e
    split at h
    · cases h
    · cases h
      exact key _ _ e

def inB (t : List Int) : Bool := t.all fun z => decide (-1000000 ≤ z) && decide (z ≤ 1000000)
theorem inB_all {t : List Int} (h : inB t = true) : ∀ z ∈ t, -1000000 ≤ z ∧ z ≤ 1000000 := by
  simpa [inB, List.all_eq_true, Bool.and_eq_true, decide_eq_true_eq] using h
/-- The form of what two terms, the second one shifted, both become, and the error; 'none' where m rounds are too few. -/
def commonF (ss : Sg) (sh : Int) (m : Nat) (za zb : List Int) : Option (List Int × Int) :=
  if ((addT ss sh zb (addT ss 0 za Fd.none).2.2).2.2.args.all fun l => decide (l.length ≤ 3)) = true then
    match uniteF ss sh m za zb Fd.none with
    | .none => .none
    | some (_, false, _) => some ([], 8)
    | some (k, true, G) => match writeF G m k [] with
      | .none => .none
      | some (ok, t) => if inB t = true then some (formZ ok t) else .none
  else .none

theorem TermsAt.two {w : World} {Aa Ab : Option Addr} {na nb ca cb : Nat} {za zb : List Int} (ha : IntsAt w w.heap.size Aa na za) (hb : IntsAt w w.heap.size Ab nb zb) :
    TermsAt (w.alloc (.cells #[.slice Aa na ca, .slice Ab nb cb] 25)) (w.alloc (.cells #[.slice Aa na ca, .slice Ab nb cb] 25)).heap.size (some ⟨w.heap.size, 0, none⟩) 2 [(Aa, na, ca), (Ab, nb, cb)] [za, zb] := by
  have hB := Blk.new w 25 #[.slice Aa na ca, .slice Ab nb cb]
  refine ⟨⟨rfl, by omega, fun _ => ⟨w.heap.size, 0, rfl, hB.lt, ?_⟩⟩, rfl, ?_⟩
  · intro j hj
    rw [hB.cell]
    match j, hj with
    | 0, _ => rfl
    | 1, _ => rfl
  · intro j h1 h2
    match j, h1, h2 with
    | 0, _, _ => exact ha.alloc _
    | 1, _, _ => exact hb.alloc _

set_option maxRecDepth 100000 in
set_option maxHeartbeats 1000000 in
theorem commonk_any (As Aa Ab : Option Addr) (ns cs na ca nb cb : Nat) (sh : Int) (ss : Sg) (za zb : List Int) (m : Nat) (r : List Int × Int) (w : World) (hs : SigAt w w.heap.size As ns ss) (ha : IntsAt w w.heap.size Aa na za) (hb : IntsAt w w.heap.size Ab nb zb)
    (hsh : 0 ≤ sh ∧ sh ≤ 1000) (hva : valOk ss za = true) (hvb : valOk ss zb = true) (hm : m ≤ 1000000) (hr : commonF ss sh m za zb = some r) :
    Calls Try.prog 120 #[.slice As ns cs, .slice Aa na ca, .slice Ab nb cb, .int .i64 sh] w (RetK w r.1 r.2) := by
  have hso : sigOk ss = true := by
    have := hva
    simp only [valOk, Bool.and_eq_true] at this
    exact this.1
  have CV := Lib.hid (uvalid_any As (some ⟨w.heap.size, 0, none⟩) ns cs 2 2 ss _ [za, zb] (w.alloc (.cells #[.slice Aa na ca, .slice Ab nb cb] 25)) (hs.alloc _) (TermsAt.two (ca := ca) (cb := cb) ha hb) (by omega))
  rw [show ([za, zb].all (valOk ss) && sigOk ss) = true by simp [hva, hvb, hso]] at CV
  obtain ⟨_, a60, _, hsca⟩ := valOk_term hva
  obtain ⟨_, b60, _, hscb⟩ := valOk_term hvb
  unfold commonF at hr
  split at hr
  · rename_i har
    have har' : ∀ l ∈ (addT ss sh zb (addT ss 0 za Fd.none).2.2).2.2.args, l.length ≤ 3 := by simpa [List.all_eq_true] using har
    cases hu : uniteF ss sh m za zb Fd.none with
    | none => rw [hu] at hr; cases hr
    | some x =>
    obtain ⟨k, ok, G⟩ := x
    rw [hu] at hr
    obtain ⟨hG, hGn⟩ := uniteF_ok hu Fd.none_ok hsca hscb
    have hGl : G.tops.length ≤ 100000 := by
      have : Fd.none.tops.length = 0 := rfl
      omega
    have CU : Hid (∀ W1 W2 : World, Below w.heap.size w W1 → FAt W2 (fun b => b < W1.heap.size) (W1.heap.size + 1) (.slice As ns cs) Fd.none → Below W1.heap.size W1 W2 →
        Calls Try.prog 181 #[.pointer (some ⟨W1.heap.size + 1, 0, none⟩), .slice Aa na ca, .slice Ab nb cb, .int .i64 sh] W2 fun e w' => e = .returned (.tuple #[.int .i64 (k : Int), .bool ok]) ∧ FAt w' (fun b => b < W1.heap.size) (W1.heap.size + 1) (.slice As ns cs) G ∧ KeepE (fun b => b < W1.heap.size) W2 w') :=
      Lib.hid fun W1 W2 h1 hA h2 => unite_any _ W1.heap.size _ na ca nb cb ns cs As Aa Ab sh ss za zb Fd.none G m k ok W2 hva hvb hsh (fun b hb => hb) (fun b hb => Nat.lt_of_lt_of_le hb h2.size) ((hs.up h1).below h2) ((ha.up h1).below h2) ((hb.up h1).below h2) h2.size hA Fd.none_ok (by decide) hm har' hu
    cases ok with
    | false =>
      simp only at hr
      cases hr
      clear hs ha hb hva hvb har har' hu hsca hscb
      go_enter Try.func120, Try.ntmps120
      go_wp2_with (first
        | (go_at_call 106; refine CV.out.mono ?_; rintro e w1 ⟨rfl, hB1⟩; have HB1 := Lib.hid (((Below.refl _ w).alloc (Nat.le_refl _) _).trans (hB1.mono (by simp))); clear hB1)
        | (go_at_call 180; refine (search_any As ns cs w1).mono ?_; rintro e w2 ⟨rfl, hA2, hB2⟩; have HA2 := Lib.hid hA2; have HB2 := Lib.hid hB2; clear hA2 hB2)
        | (go_at_call 181; refine (CU.out w1 w2 HB1.out HA2.out HB2.out).mono ?_; rintro e w3 ⟨rfl, hA3, hK3⟩; have HK3 := Lib.hid hK3; clear hA3 hK3))
      go_ret2
      exact ⟨none, 0, 0, rfl, IntsAt.nil _ _ 0, by omega, (HB1.out.trans (HB2.out.mono HB1.out.size)).trans (HK3.out.below (fun b hb => Nat.lt_of_lt_of_le hb HB1.out.size))⟩
    | true =>
      simp only at hr
      cases hw : writeF G m k [] with
      | none => rw [hw] at hr; cases hr
      | some y =>
      obtain ⟨ok2, t⟩ := y
      rw [hw] at hr
      simp only at hr
      split at hr
      · rename_i hin
        cases hr
        have CF : Hid (∀ W1 W3 : World, FAt W3 (fun b => b < W1.heap.size) (W1.heap.size + 1) (.slice As ns cs) G → Calls Try.prog 182 #[.pointer (some ⟨W1.heap.size + 1, 0, none⟩), .int .i64 (k : Int)] W3 (RetK W3 (formZ ok2 t).1 (formZ ok2 t).2)) :=
          Lib.hid fun W1 W3 hA => formk_any _ _ _ G m k ok2 t W3 hA hG hGl hw (inB_all hin)
        obtain ⟨r1, hr1⟩ : ∃ r1, formZ ok2 t = r1 := ⟨_, rfl⟩
        rw [hr1] at CF ⊢
        clear hs ha hb hva hvb har har' hu hsca hscb hw hin hr1 hG hGl hGn
        go_enter Try.func120, Try.ntmps120
        go_wp2_with (first
          | (go_at_call 106; refine CV.out.mono ?_; rintro e w1 ⟨rfl, hB1⟩; have HB1 := Lib.hid (((Below.refl _ w).alloc (Nat.le_refl _) _).trans (hB1.mono (by simp))); clear hB1)
          | (go_at_call 180; refine (search_any As ns cs w1).mono ?_; rintro e w2 ⟨rfl, hA2, hB2⟩; have HA2 := Lib.hid hA2; have HB2 := Lib.hid hB2; clear hA2 hB2)
          | (go_at_call 181; refine (CU.out w1 w2 HB1.out HA2.out HB2.out).mono ?_; rintro e w3 ⟨rfl, hA3, hK3⟩; have HK3 := Lib.hid ((HB1.out.trans (HB2.out.mono HB1.out.size)).trans (hK3.below (fun b hb => Nat.lt_of_lt_of_le hb HB1.out.size))); have CF' := Lib.hid (CF.out w1 w3 hA3); clear hA3 hK3)
          | (go_at_call 182; refine CF'.out.mono ?_; rintro e w4 ⟨A, n, c, rfl, hI, hk, hB4⟩; have HK := Lib.hid hk; clear hk; have HI := Lib.hid hI; have HB4 := Lib.hid hB4; clear hI hB4))
        go_ret2
        exact ⟨A, n, c, rfl, HI.out, HK.out, below_then HK3.out HB4.out⟩
      · cases hr
  · cases hr

set_option maxRecDepth 100000 in
set_option maxHeartbeats 400000 in
theorem meetk_any (As Aa Ab : Option Addr) (ns cs na ca nb cb : Nat) (ss : Sg) (za zb : List Int) (m : Nat) (r : List Int × Int) (w : World) (hs : SigAt w w.heap.size As ns ss) (ha : IntsAt w w.heap.size Aa na za) (hb : IntsAt w w.heap.size Ab nb zb)
    (hva : valOk ss za = true) (hvb : valOk ss zb = true) (hm : m ≤ 1000000) (hr : commonF ss 12 m za zb = some r) :
    Calls Try.prog 48 #[.slice As ns cs, .slice Aa na ca, .slice Ab nb cb] w (RetK w r.1 r.2) := by
  have C := Lib.hid (commonk_any As Aa Ab ns cs na ca nb cb 12 ss za zb m r w hs ha hb (by omega) hva hvb hm hr)
  clear hs ha hb hva hvb hr
  go_enter Try.func48, Try.ntmps48
  go_wp2_with (go_at_call 120; refine C.out.mono ?_; rintro e w4 ⟨A, n, c, rfl, hI, hk, hB4⟩; have HK := Lib.hid hk; clear hk; have HI := Lib.hid hI; have HB4 := Lib.hid hB4; clear hI hB4)
  go_ret2
  exact ⟨A, n, c, rfl, HI.out, HK.out, HB4.out⟩

theorem meet_any (As Aa Ab : Option Addr) (ns cs na ca nb cb : Nat) (ss : Sg) (za zb : List Int) (m : Nat) (r : List Int × Int) (w : World) (hs : SigAt w w.heap.size As ns ss) (ha : IntsAt w w.heap.size Aa na za) (hb : IntsAt w w.heap.size Ab nb zb)
    (hva : valOk ss za = true) (hvb : valOk ss zb = true) (hm : m ≤ 1000000) (hr : commonF ss 12 m za zb = some r) :
    Calls Try.prog 48 #[.slice As ns cs, .slice Aa na ca, .slice Ab nb cb] w (RetT w r.1 r.2) :=
  (meetk_any As Aa Ab ns cs na ca nb cb ss za zb m r w hs ha hb hva hvb hm hr).mono fun _ _ h => h.ret

end Go.Proofs.Ytgbfccbnbgbknaa
