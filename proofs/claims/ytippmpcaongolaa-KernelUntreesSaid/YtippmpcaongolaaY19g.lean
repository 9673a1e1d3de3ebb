/- Words for join: a window of a list in memory; the common form of two terms; a map from pairs of texts. -/
import Derived.Test.YtippmpcaongolaaY17g
import Derived.Test.YtippmpcaongolaaG2g
import Derived.Laws.BytesArg
import Derived.Test.YtippmpcaongolaaB0g
import Derived.DeepKeys4
/- Contracts: behind, text. -/
namespace Go.Proofs.Ytippmpcaongolaa
open Go.RowKit

theorem i64_wrap (n : Int) (h1 : -9223372036854775808 ≤ n) (h2 : n ≤ 9223372036854775807) : IntKind.i64.wrap n = n := by
  rw [IntKind.wrap_i64]; omega

set_option maxRecDepth 100000 in
set_option maxHeartbeats 1000000 in
theorem ubehind_any (As At : Option Addr) (ns cs nt ct : Nat) (ss : Sg) (zs r : List Int) (a : Nat) (w : World) (hs : SigAt w w.heap.size As ns ss) (ht : IntsAt w w.heap.size At nt zs) (har : ArOk ss) (hh : HeadsOk ss zs) (hn : nt ≤ 1000) (ha : a ≤ nt) (hsc : scan ss 1 (zs.drop a) = some r) :
    Calls Try.prog 115 #[.agg #[.slice As ns cs], .slice At nt ct, .int .i64 a] w fun e w' => e = .returned (.int .i64 (zs.length - r.length : Nat)) ∧ Below w.heap.size w w' := by
  have HLS := Lib.hid hs.len
  have HLT := Lib.hid ht.len
  have HS := Lib.hid hs
  have HT := Lib.hid ht
  have HAR := Lib.hid har
  have HH := Lib.hid hh
  have HSC := Lib.hid hsc
  have HZ := Lib.hid (fun (p : Nat) (hp : p ≤ nt) (h : scan ss 0 (zs.drop p) = some r) => scan_end h (by rw [← HLT.out]; exact hp))
  obtain ⟨q, hq⟩ : ∃ q, zs.length - r.length = q := ⟨_, rfl⟩
  rw [hq] at HZ ⊢
  obtain ⟨N, hN⟩ : ∃ N, w.heap.size = N := ⟨_, rfl⟩
  have HN := Lib.hid hN
  have hbox : (w.alloc (.cells #[.slice As ns cs] 84)).cell? ⟨N, 0, none⟩ = some (.slice As ns cs) := by rw [← hN]; exact cell_new0 _ _ _
  have HBOX := Lib.hid hbox
  clear hs ht har hh hsc hq hbox
  go_enter Try.func115, Try.ntmps115
  go_wp2
  go_loopw [7, 8] (fun p nd wr => ∃ k N' : Nat, k ≤ nt ∧ p = .int .i64 k ∧ nd = .int .i64 N' ∧ N' ≤ 1 + 3 * k ∧ Hid (scan ss N' (zs.drop k) = some r) ∧ Below (N + 1) (w.alloc (.cells #[.slice As ns cs] 84)) wr) (fun p _ _ => nt - (intOf p).toNat)
  case atStart => exact ⟨a, 1, ha, rfl, rfl, by omega, HSC, Below.refl _ _⟩
  case round =>
    obtain ⟨k, N', hk, rfl, rfl, hN3, hNd, hB⟩ := hrel
    have hBw : Below w.heap.size w wr := ((Below.refl w.heap.size w).alloc (Nat.le_refl _) _).trans (hB.mono (by have := HN.out; omega))
    have HBW := Lib.hid hBw
    cases N' with
    | zero =>
      obtain rfl := HZ.out k hk hNd.out
      clear hBw hB
      go_wp2
      go_ret
      exact ⟨rfl, HBW.out⟩
    | succ N' =>
      obtain ⟨k1, hnx⟩ := scan_step hNd.out
      obtain ⟨b, off, z, rfl, c1, k1', e1⟩ := HT.out.cellAt (by rw [HLT.out]; exact k1)
      rw [e1] at hnx
      have hk1n : k < nt := by rw [HLT.out]; exact k1
      have hzl : z < (ns : Int) := by
        rw [HLS.out, ← e1]
        exact HH.out _ (List.getElem_mem k1)
      have ha3 := arOf_le HAR.out z
      have cz : wr.cell? ⟨b, off + k, none⟩ = some (.int .i64 z) := (hBw.cell (p := ⟨b, off + k, none⟩) (cell_lt c1)).trans c1
      have cb : wr.cell? ⟨N, 0, none⟩ = some (.slice As ns cs) := (hB.cell (p := ⟨N, 0, none⟩) (Nat.lt_succ_self N)).trans HBOX.out
      have hNl : N < wr.heap.size := cell_lt cb
      have hbl : b < wr.heap.size := cell_lt cz
      have HA := Lib.hid (fun (V : World) (hV : Below wr.heap.size wr V) => uarity_any As ns cs ss z V V.heap.size ((HS.out.up hBw).up hV) hzl HAR.out (Nat.le_refl _))
      obtain ⟨av, hav⟩ : ∃ av, arOf ss z = av := ⟨_, rfl⟩
      rw [hav] at hnx ha3
      simp only [hav] at HA
      have HNX := Lib.hid hnx
      have HB := Lib.hid hB
      have hN0 : (0 : Int) < (N' : Int) + 1 := by omega
      have hN0' : (0 : Int) < ((N' + 1 : Nat) : Int) := by omega
      have hk0 : (0 : Int) ≤ (k : Int) := by omega
      have hk1 : (k : Int) < (nt : Int) := by omega
      clear hNd hnx hav e1 k1 k1' hzl hBw hB c1
      go_wp2_with fail
      go_region_held3 (fun w' => w'.cell? ⟨N, 0, none⟩ = some (.slice As ns cs) ∧ w'.cell? ⟨b, off + k, none⟩ = some (.int .i64 z))
        (first | go_keep | assumption | (exact ⟨by assumption, by assumption⟩))
        ((go_at_call 155; refine (HA.out _ ((Below.refl _ _).drew)).mono ?_; rintro e V3 ⟨rfl, hB3⟩; have hB4 : Below wr.heap.size wr V3 := ((Below.refl _ wr).drew).trans hB3; have cb3 := (hB4.cell (p := ⟨N, 0, none⟩) hNl).trans cb; have cz3 := (hB4.cell (p := ⟨b, off + k, none⟩) hbl).trans cz; have HB4 := Lib.hid hB4; clear hB3 hB4))
      all_goals
        go_wp2
        go_roundw
        case rel => exact ⟨k + 1, N' + av, by omega, by go_num, by (rw [i64_wrap ((av : Int) - 1) (by omega) (by omega), i64_wrap _ (by omega) (by omega)]; go_num), by omega, HNX, HB.out.trans (HB4.out.mono (by omega))⟩
        case measure => simp [intOf]; omega

/-- The text of a term: a byte for each number. -/
def txt (zs : List Int) : ByteArray := strOfNums (zs.map (· + 12))
theorem txt_size (zs : List Int) : (txt zs).size = zs.length := by rw [txt, strOfNums_size, List.length_map]
theorem txt_inj : ∀ {xs ys : List Int}, (∀ z ∈ xs, -12 ≤ z ∧ z < 200) → (∀ z ∈ ys, -12 ≤ z ∧ z < 200) → (txt xs).data.toList = (txt ys).data.toList → xs = ys
  | [], [], _, _, _ => rfl
  | [], y :: ys, _, _, h => by simp [txt, strOfNums] at h
  | x :: xs, [], _, _, h => by simp [txt, strOfNums] at h
  | x :: xs, y :: ys, hx, hy, h => by
    have h' : UInt8.ofNat (x + 12).toNat = UInt8.ofNat (y + 12).toNat ∧ (txt xs).data.toList = (txt ys).data.toList := by
      simpa [txt, strOfNums] using h
    obtain ⟨x1, x2⟩ := hx x (by simp)
    obtain ⟨y1, y2⟩ := hy y (by simp)
    have e := congrArg UInt8.toNat h'.1
    rw [UInt8.toNat_ofNat', UInt8.toNat_ofNat', Nat.mod_eq_of_lt (by omega), Nat.mod_eq_of_lt (by omega)] at e
    rw [show x = y by omega, txt_inj (fun z hz => hx z (by simp [hz])) (fun z hz => hy z (by simp [hz])) h'.2]

end Go.Proofs.Ytippmpcaongolaa

namespace Go.Proofs.Ytippmpcaongolaa
open Go.RowKit Go.WideMaps

/-- A term that has a text. -/
def GoodT (zs : List Int) : Prop := (∀ z ∈ zs, -12 ≤ z ∧ z < 200) ∧ zs.length ≤ 1000
abbrev Two := List Int × List Int
def meet1 (met : List Two) (x : Two) : List Two := if met.contains x then met else met ++ [x]
/-- The common form of two terms that stand side by side, and the pairs that it tells by variables. -/
def comF (ss : Sg) : Nat → List Int → List Int → List Two → List Int × List Two
  | 0, _, _, met => ([], met)
  | _ + 1, [], _, met => ([], met)
  | f + 1, x :: a, b, met =>
    if 0 ≤ x ∧ b.head? = some x then (x :: (comF ss f a b.tail met).1, (comF ss f a b.tail met).2)
    else
      ((-(((meet1 met (prt ss (x :: a) 0, prt ss b 0)).idxOf (prt ss (x :: a) 0, prt ss b 0) : Nat) : Int) - 1) :: (comF ss f ((x :: a).drop (prt ss (x :: a) 0).length) (b.drop (prt ss b 0).length) (meet1 met (prt ss (x :: a) 0, prt ss b 0))).1,
        (comF ss f ((x :: a).drop (prt ss (x :: a) 0).length) (b.drop (prt ss b 0).length) (meet1 met (prt ss (x :: a) 0, prt ss b 0))).2)
theorem prt_at (ss : Sg) (zs : List Int) (a : Nat) : prt ss (zs.drop a) 0 = prt ss zs a := by unfold prt; rw [List.drop_zero]
/-- What is made when i and k numbers are read: t, and the pairs met. -/
def ComGoes (ss : Sg) (f : Nat) (za zb : List Int) (i k : Nat) (t : List Int) (met : List Two) (R : List Int × List Two) : Prop :=
  za.length - i ≤ f ∧ (t ++ (comF ss f (za.drop i) (zb.drop k) met).1, (comF ss f (za.drop i) (zb.drop k) met).2) = R
/-- Both are read as far. -/
def Side (ss : Sg) (za zb : List Int) (i k : Nat) : Prop := ∃ c, scan ss c (za.drop i) = some [] ∧ scan ss c (zb.drop k) = some []
section
variable {ss : Sg} {f i k : Nat} {za zb t : List Int} {met : List Two} {R : List Int × List Two}
theorem ComGoes.done (h : ComGoes ss f za zb i k t met R) (hi : za.length ≤ i) : (t, met) = R := by
  obtain ⟨_, h⟩ := h
  rw [List.drop_of_length_le hi] at h
  cases f with
  | zero => simpa [comF] using h
  | succ f => simpa [comF] using h
theorem ComGoes.same (h : ComGoes ss f za zb i k t met R) (hi : i < za.length) (hk : k < zb.length) (h0 : 0 ≤ za[i]) (he : za[i] = zb[k]) : ∃ f', ComGoes ss f' za zb (i + 1) (k + 1) (t ++ [za[i]]) met R := by
  obtain ⟨h1, h⟩ := h
  cases f with
  | zero => omega
  | succ f =>
    refine ⟨f, by omega, ?_⟩
    rw [List.drop_eq_getElem_cons hi, List.drop_eq_getElem_cons hk, comF, if_pos ⟨h0, by rw [he]; rfl⟩] at h
    rw [← h]
    simp
theorem ComGoes.part (h : ComGoes ss f za zb i k t met R) (hi : i < za.length) (hk : k < zb.length) (hne : ¬ (0 ≤ za[i] ∧ za[i] = zb[k])) (h1 : 1 ≤ (prt ss za i).length) :
    ∃ f', ComGoes ss f' za zb (i + (prt ss za i).length) (k + (prt ss zb k).length) (t ++ [-(((meet1 met (prt ss za i, prt ss zb k)).idxOf (prt ss za i, prt ss zb k) : Nat) : Int) - 1]) (meet1 met (prt ss za i, prt ss zb k)) R := by
  obtain ⟨hf, h⟩ := h
  cases f with
  | zero => omega
  | succ f =>
    refine ⟨f, by omega, ?_⟩
    have e1 := List.drop_eq_getElem_cons hi
    have e2 := List.drop_eq_getElem_cons hk
    have hne' : ¬ (0 ≤ za[i] ∧ (zb.drop k).head? = some za[i]) := by
      rw [e2]
      simp only [List.head?_cons, Option.some.injEq]
      exact fun hh => hne ⟨hh.1, hh.2.symm⟩
    rw [e1, comF, if_neg hne', ← e1, prt_at, prt_at] at h
    rw [← h, List.drop_drop, List.drop_drop]
    simp
theorem Side.step (h : Side ss za zb i k) (hi : i < za.length) : ∃ hk : k < zb.length, (za[i] = zb[k] → Side ss za zb (i + 1) (k + 1)) ∧
    PrtIs ss za i (prt ss za i) ∧ PrtIs ss zb k (prt ss zb k) ∧ Side ss za zb (i + (prt ss za i).length) (k + (prt ss zb k).length) := by
  obtain ⟨c, h1, h2⟩ := h
  cases c with
  | zero =>
    rw [scan_zero] at h1
    have := congrArg List.length (Option.some.inj h1)
    rw [List.length_drop] at this
    simp at this
    omega
  | succ c =>
    obtain ⟨_, s1⟩ := scan_step h1
    obtain ⟨hk, s2⟩ := scan_step h2
    rw [Nat.add_comm c 1, scan_add] at h1 h2
    cases ea : scan ss 1 (za.drop i) with
    | none => rw [ea] at h1; cases h1
    | some ra =>
    cases eb : scan ss 1 (zb.drop k) with
    | none => rw [eb] at h2; cases h2
    | some rb =>
    have p1 := prt_is ea
    have p2 := prt_is eb
    refine ⟨hk, fun e => ⟨c + arOf ss za[i], s1, by rw [e]; exact s2⟩, p1, p2, c, ?_, ?_⟩
    · have := h1
      rw [p1.whole] at this
      exact this
    · have := h2
      rw [p2.whole] at this
      exact this
theorem Side.first (ha : scan ss 1 za = some []) (hb : scan ss 1 zb = some []) : Side ss za zb 0 0 := ⟨1, ha, hb⟩
end
theorem parts_law : KeyLaw Try.prog 192 := by
  refine deep_law_laid (by kernel_rfl) (m := 3) (by omega) ?_ ?_ ?_
  · exact of_decide_eq_true (by kernel_rfl)
  · kernel_rfl
  · rw [Try.underlying192]
theorem parts_keyed : Maps.Keyed Try.prog 192 := Maps.Keyed.of_law parts_law
/-- The key of a pair of terms. -/
def pkey (x : Two) : Lit := .string (keyBytes [.string (txt x.1).data.toList, .string (txt x.2).data.toList])
/-- Its value in memory. -/
def pval (x : Two) : Value := .agg #[.string (txt x.1), .string (txt x.2)]
theorem keyOf_parts (x : Two) (h1 : x.1.length ≤ 1000) (h2 : x.2.length ≤ 1000) : keyOf Try.prog 192 (pval x) = some (pkey x) := by
  have hkt : Try.prog.keyType 192 = true := by kernel_rfl
  have hc : Try.prog.cellsOf 192 = 2 := by kernel_rfl
  have hc1 : Try.prog.cellsOf 9 = 1 := by kernel_rfl
  obtain ⟨m, hm⟩ : ∃ m, Try.prog.types.size = m + 1 := by
    have : decide (0 < Try.prog.types.size) = true := by kernel_rfl
    exact ⟨Try.prog.types.size - 1, by have := of_decide_eq_true this; omega⟩
  have hu := Try.underlying192
  have hs := Try.underlying9
  have z1 : (txt x.1).size ≤ maxLen := by rw [txt_size]; unfold maxLen; omega
  have z2 : (txt x.2).size ≤ maxLen := by rw [txt_size]; unfold maxLen; omega
  unfold keyOf pval pkey
  rw [hu]
  simp only
  rw [if_pos (by rw [hkt]; simp [Value.formed, hu, hc]), hm]
  unfold Program.keyLits
  rw [hu]
  simp only [Value.cells]
  simp [hc, hc1, Program.keyLits, hs, z1, z2]
theorem pkey_inj {x y : Two} (hx : GoodT x.1 ∧ GoodT x.2) (hy : GoodT y.1 ∧ GoodT y.2) (h : pkey x = pkey y) : x = y := by
  have h1 := keyOf_parts x hx.1.2 hx.2.2
  have h2 := keyOf_parts y hy.1.2 hy.2.2
  rw [← h] at h2
  have e := parts_law.inj h1 h2
  unfold pval at e
  have e' := Array.toList_inj.2 (Value.agg.inj e)
  simp only [List.cons.injEq, Value.string.injEq, and_true] at e'
  have a1 := txt_inj hx.1.1 hy.1.1 (by rw [e'.1])
  have a2 := txt_inj hx.2.1 hy.2.1 (by rw [e'.2])
  exact Prod.ext a1 a2

/-- Block bm is the map of the pairs met. -/
def PairMap (w : World) (bm : Nat) (met : List Two) : Prop :=
  (∀ x ∈ met, GoodT x.1 ∧ GoodT x.2) ∧ ∃ D : DataW Unit, w.ownsMap Try.prog 192 (plainElem Try.prog 3) bm met.length D ∧ (Maps.Tidy D ∧ Maps.size D = met.length) ∧ (∀ x : Two, GoodT x.1 ∧ GoodT x.2 → Maps.has D (pkey x) = met.contains x) ∧ ∀ x : Two, GoodT x.1 ∧ GoodT x.2 → met.contains x = true → D.atKey (pkey x) (.lit (.int .i64 0)) = .lit (.int .i64 (-(met.idxOf x : Int) - 1))
section
variable {w w' : World} {bm : Nat} {met : List Two} {row : Option Nat}
theorem PairMap.made (w : World) : PairMap (w.alloc (.map #[] 0)) w.heap.size [] := ⟨by simp, .map [], World.ownsMap_made _ _ _ _, ⟨Maps.tidy_empty, rfl⟩, fun _ _ => rfl, fun x _ h => by simp at h⟩
theorem PairMap.lt (h : PairMap w bm met) : bm < w.heap.size := by obtain ⟨_, D, h1, _⟩ := h; exact h1.lt
theorem PairMap.isMap (h : PairMap w bm met) : ∃ es c, w.heap[bm]? = some (.map es c) := by obtain ⟨_, D, ⟨es, c, h1, _⟩, _⟩ := h; exact ⟨es, c, h1⟩
theorem PairMap.grown (h : PairMap w bm met) (hg : w.grownBy w' row) (hr : some bm ≠ row) : PairMap w' bm met := by
  obtain ⟨hg0, D, h1, h2⟩ := h
  exact ⟨hg0, D, h1.kept hg hr, h2⟩
theorem PairMap.look (h : PairMap w bm met) (x : Two) (hx : GoodT x.1 ∧ GoodT x.2) :
    ∃ c : Int, (Instr.lookup 189 (.map (some bm)) (pval x) true).run Try.prog w = .ok (.tuple #[.int .i64 c, .bool (met.contains x)]) w ∧ (met.contains x = true → c = -(met.idxOf x : Int) - 1) := by
  obtain ⟨_, D, h1, h2, h3, h4⟩ := h
  obtain ⟨v, ps, hrun, hv⟩ := h1.look_ok parts_keyed Try.underlying189 (zeroInt w) (plainElem_int Try.underlying3 (by decide)) (key := pval x) (keyOf_parts x hx.1.2 hx.2.2)
  obtain ⟨c, rfl, hc, _⟩ := plainElem_int_inv Try.underlying3 hv
  refine ⟨c, by rw [hrun, h3 x hx], fun hk => ?_⟩
  rw [h4 x hx hk] at hc
  have hc' := hc.symm
  simp at hc'
  exact hc'.1
theorem PairMap.len (h : PairMap w bm met) (ty : TypeId) : (Builtin.len_ #[189] ty #[.map (some bm)]).run Try.prog w = .ok (.int .i64 met.length) w := by
  obtain ⟨_, D, h1, ⟨_, h3⟩, _⟩ := h
  have := h1.len Try.underlying189 ty
  rw [h3] at this
  exact this
theorem PairMap.put (h : PairMap w bm met) (x : Two) (hx : GoodT x.1 ∧ GoodT x.2) (hc : met.contains x = false) (hn : met.length < 1000) :
    ∃ w', (Instr.mapUpdate 189 (.map (some bm)) (pval x) (.int .i64 (-(met.length : Int) - 1))).run Try.prog w = .ok () w' ∧ PairMap w' bm (met ++ [x]) ∧ w.grownBy w' (some bm) := by
  obtain ⟨hg0, D, h1, ⟨h2, h2s⟩, h3, h4⟩ := h
  obtain ⟨w', hrun, hown, hg⟩ := h1.update parts_keyed Try.underlying189 (by unfold maxLen; omega) (key := pval x) (val := .int .i64 (-(met.length : Int) - 1)) (keyOf_parts x hx.1.2 hx.2.2) (plainElem_int Try.underlying3 (WalkArith.wf_i64 (by omega)))
  have hkl : WideAt.IsKeyLit (pkey x) := by trivial
  have hmem : x ∉ met := by
    intro hm
    have := List.contains_iff_mem.2 hm
    rw [hc] at this
    cases this
  refine ⟨w', hrun, ⟨fun y hy => ?_, _, by simpa using hown, ⟨h2.put hkl _, by rw [Maps.size_put h2, h3 x hx, hc]; simp [h2s]⟩, fun y hy => ?_, fun y hy hyc => ?_⟩, hg⟩
  · rcases List.mem_append.1 hy with hy | hy
    · exact hg0 y hy
    · obtain rfl := List.mem_singleton.1 hy
      exact hx
  · by_cases e : y = x
    · subst e
      rw [Maps.has_put_same h2.isMap hkl]
      simp
    · rw [Maps.has_put_other (fun e2 => e (pkey_inj hy hx e2)), h3 y hy]
      simp [e]
  · by_cases e : y = x
    · subst e
      rw [Maps.atKey_put_same h2.isMap hkl, List.idxOf_append, if_neg hmem]
      simp
    · have hy1 : met.contains y = true := by
        have := List.contains_iff_mem.1 hyc
        rcases List.mem_append.1 this with hm | hm
        · exact List.contains_iff_mem.2 hm
        · exact absurd (List.mem_singleton.1 hm) e
      rw [Maps.atKey_put_other (fun e2 => e (pkey_inj hy hx e2)), h4 y hy hy1, List.idxOf_append, if_pos (List.contains_iff_mem.1 hy1)]
end

end Go.Proofs.Ytippmpcaongolaa
