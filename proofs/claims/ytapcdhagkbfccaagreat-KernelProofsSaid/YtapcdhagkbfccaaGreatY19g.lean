/- Words for join: a window of a list in memory; the common form of two terms; a map from pairs of texts. -/
import Derived.Test.YtapcdhagkbfccaaGreatY17g
import Derived.Test.YtapcdhagkbfccaaGreatG2g
import Derived.Laws.BytesArg
import Derived.Test.YtapcdhagkbfccaaGreatB0g
import Derived.DeepKeys4
/- Contracts: behind, text. -/
namespace Go.Proofs.YtapcdhagkbfccaaGreat
open Go.RowKit

theorem i64_wrap (n : Int) (h1 : -9223372036854775808 ≤ n) (h2 : n ≤ 9223372036854775807) : IntKind.i64.wrap n = n := by
  rw [IntKind.wrap_i64]; omega

set_option maxRecDepth 100000 in
set_option maxHeartbeats 1000000 in
theorem ubehind_any (As At : Option Addr) (ns cs nt ct : Nat) (ss : Sg) (zs r : List Int) (a : Nat) (w : World) (hs : SigAt w w.heap.size As ns ss) (ht : IntsAt w w.heap.size At nt zs) (har : ArOk ss) (hh : HeadsOk ss zs) (hn : nt ≤ 1000) (ha : a ≤ nt) (hsc : scan ss 1 (zs.drop a) = some r) :
    Calls Tryz.prog 86 #[.agg #[.slice As ns cs], .slice At nt ct, .int .i64 a] w fun e w' => e = .returned (.int .i64 (zs.length - r.length : Nat)) ∧ Below w.heap.size w w' := by
  have HLS := Lib.hid hs.len
  have HLT := Lib.hid ht.len
  have HS := Lib.hid hs
  have HT := Lib.hid ht
  have HAR := Lib.hid har
  have HH := Lib.hid hh
  have HSC := Lib.hid hsc
  have HZ := Lib.hid (fun (p : Nat) (hp : p ≤ nt) (h : scan ss 0 (zs.drop p) = some r) => scan_end h (by rw [← HLT.out]; exact hp))
  obtain ⟨q, hq⟩ : ∃ q, zs.length - r.length = q := ⟨_, rfl⟩
  rw [hq] at HZ ⊢
  obtain ⟨N, hN⟩ : ∃ N, w.heap.size = N := ⟨_, rfl⟩
  have HN := Lib.hid hN
  have hbox : (w.alloc (.cells #[.slice As ns cs] 89)).cell? ⟨N, 0, none⟩ = some (.slice As ns cs) := by rw [← hN]; exact cell_new0 _ _ _
  have HBOX := Lib.hid hbox
  clear hs ht har hh hsc hq hbox
  go_enter Tryz.func86, Tryz.ntmps86
  go_wp2
  go_loopw [7, 8] (fun p nd wr => ∃ k N' : Nat, k ≤ nt ∧ p = .int .i64 k ∧ nd = .int .i64 N' ∧ N' ≤ 1 + 3 * k ∧ Hid (scan ss N' (zs.drop k) = some r) ∧ Below (N + 1) (w.alloc (.cells #[.slice As ns cs] 89)) wr) (fun p _ _ => nt - (intOf p).toNat)
  case atStart => exact ⟨a, 1, ha, rfl, rfl, by omega, HSC, Below.refl _ _⟩
  case round =>
    obtain ⟨k, N', hk, rfl, rfl, hN3, hNd, hB⟩ := hrel
    have hBw : Below w.heap.size w wr := ((Below.refl w.heap.size w).alloc (Nat.le_refl _) _).trans (hB.mono (by have := HN.out; omega))
    have HBW := Lib.hid hBw
    cases N' with
    | zero =>
      obtain rfl := HZ.out k hk hNd.out
      clear hBw hB
      go_wp2
      go_ret
      exact ⟨rfl, HBW.out⟩
    | succ N' =>
      obtain ⟨k1, hnx⟩ := scan_step hNd.out
      obtain ⟨b, off, z, rfl, c1, k1', e1⟩ := HT.out.cellAt (by rw [HLT.out]; exact k1)
      rw [e1] at hnx
      have hk1n : k < nt := by rw [HLT.out]; exact k1
      have hzl : z < (ns : Int) := by
        rw [HLS.out, ← e1]
        exact HH.out _ (List.getElem_mem k1)
      have ha3 := arOf_le HAR.out z
      have cz : wr.cell? ⟨b, off + k, none⟩ = some (.int .i64 z) := (hBw.cell (p := ⟨b, off + k, none⟩) (cell_lt c1)).trans c1
      have cb : wr.cell? ⟨N, 0, none⟩ = some (.slice As ns cs) := (hB.cell (p := ⟨N, 0, none⟩) (Nat.lt_succ_self N)).trans HBOX.out
      have hNl : N < wr.heap.size := cell_lt cb
      have hbl : b < wr.heap.size := cell_lt cz
      have HA := Lib.hid (fun (V : World) (hV : Below wr.heap.size wr V) => uarity_any As ns cs ss z V V.heap.size ((HS.out.up hBw).up hV) hzl HAR.out (Nat.le_refl _))
      obtain ⟨av, hav⟩ : ∃ av, arOf ss z = av := ⟨_, rfl⟩
      rw [hav] at hnx ha3
      simp only [hav] at HA
      have HNX := Lib.hid hnx
      have HB := Lib.hid hB
      have hN0 : (0 : Int) < (N' : Int) + 1 := by omega
      have hN0' : (0 : Int) < ((N' + 1 : Nat) : Int) := by omega
      have hk0 : (0 : Int) ≤ (k : Int) := by omega
      have hk1 : (k : Int) < (nt : Int) := by omega
      clear hNd hnx hav e1 k1 k1' hzl hBw hB c1
      go_wp2_with fail
      go_region_held3 (fun w' => w'.cell? ⟨N, 0, none⟩ = some (.slice As ns cs) ∧ w'.cell? ⟨b, off + k, none⟩ = some (.int .i64 z))
        (first | go_keep | assumption | (exact ⟨by assumption, by assumption⟩))
        ((go_at_call 114; refine (HA.out _ ((Below.refl _ _).drew)).mono ?_; rintro e V3 ⟨rfl, hB3⟩; have hB4 : Below wr.heap.size wr V3 := ((Below.refl _ wr).drew).trans hB3; have cb3 := (hB4.cell (p := ⟨N, 0, none⟩) hNl).trans cb; have cz3 := (hB4.cell (p := ⟨b, off + k, none⟩) hbl).trans cz; have HB4 := Lib.hid hB4; clear hB3 hB4))
      all_goals
        go_wp2
        go_roundw
        case rel => exact ⟨k + 1, N' + av, by omega, by go_num, by (rw [i64_wrap ((av : Int) - 1) (by omega) (by omega), i64_wrap _ (by omega) (by omega)]; go_num), by omega, HNX, HB.out.trans (HB4.out.mono (by omega))⟩
        case measure => simp [intOf]; omega

end Go.Proofs.YtapcdhagkbfccaaGreat

namespace Go.Proofs.YtapcdhagkbfccaaGreat
open Go.RowKit Go.WideMaps

abbrev Two := List Int × List Int
def meet1 (met : List Two) (x : Two) : List Two := if met.contains x then met else met ++ [x]
/-- The common form of two terms that stand side by side, and the pairs that it tells by variables. -/
def comF (ss : Sg) : Nat → List Int → List Int → List Two → List Int × List Two
  | 0, _, _, met => ([], met)
  | _ + 1, [], _, met => ([], met)
  | f + 1, x :: a, b, met =>
    if 0 ≤ x ∧ b.head? = some x then (x :: (comF ss f a b.tail met).1, (comF ss f a b.tail met).2)
    else
      ((-(((meet1 met (prt ss (x :: a) 0, prt ss b 0)).idxOf (prt ss (x :: a) 0, prt ss b 0) : Nat) : Int) - 1) :: (comF ss f ((x :: a).drop (prt ss (x :: a) 0).length) (b.drop (prt ss b 0).length) (meet1 met (prt ss (x :: a) 0, prt ss b 0))).1,
        (comF ss f ((x :: a).drop (prt ss (x :: a) 0).length) (b.drop (prt ss b 0).length) (meet1 met (prt ss (x :: a) 0, prt ss b 0))).2)
theorem prt_at (ss : Sg) (zs : List Int) (a : Nat) : prt ss (zs.drop a) 0 = prt ss zs a := by unfold prt; rw [List.drop_zero]
/-- What is made when i and k numbers are read: t, and the pairs met. -/
def ComGoes (ss : Sg) (f : Nat) (za zb : List Int) (i k : Nat) (t : List Int) (met : List Two) (R : List Int × List Two) : Prop :=
  za.length - i ≤ f ∧ (t ++ (comF ss f (za.drop i) (zb.drop k) met).1, (comF ss f (za.drop i) (zb.drop k) met).2) = R
/-- Both are read as far. -/
def Side (ss : Sg) (za zb : List Int) (i k : Nat) : Prop := ∃ c, scan ss c (za.drop i) = some [] ∧ scan ss c (zb.drop k) = some []
section
variable {ss : Sg} {f i k : Nat} {za zb t : List Int} {met : List Two} {R : List Int × List Two}
theorem ComGoes.done (h : ComGoes ss f za zb i k t met R) (hi : za.length ≤ i) : (t, met) = R := by
  obtain ⟨_, h⟩ := h
  rw [List.drop_of_length_le hi] at h
  cases f with
  | zero => simpa [comF] using h
  | succ f => simpa [comF] using h
theorem ComGoes.same (h : ComGoes ss f za zb i k t met R) (hi : i < za.length) (hk : k < zb.length) (h0 : 0 ≤ za[i]) (he : za[i] = zb[k]) : ∃ f', ComGoes ss f' za zb (i + 1) (k + 1) (t ++ [za[i]]) met R := by
  obtain ⟨h1, h⟩ := h
  cases f with
  | zero => omega
  | succ f =>
    refine ⟨f, by omega, ?_⟩
    rw [List.drop_eq_getElem_cons hi, List.drop_eq_getElem_cons hk, comF, if_pos ⟨h0, by rw [he]; rfl⟩] at h
    rw [← h]
    simp
theorem ComGoes.part (h : ComGoes ss f za zb i k t met R) (hi : i < za.length) (hk : k < zb.length) (hne : ¬ (0 ≤ za[i] ∧ za[i] = zb[k])) (h1 : 1 ≤ (prt ss za i).length) :
    ∃ f', ComGoes ss f' za zb (i + (prt ss za i).length) (k + (prt ss zb k).length) (t ++ [-(((meet1 met (prt ss za i, prt ss zb k)).idxOf (prt ss za i, prt ss zb k) : Nat) : Int) - 1]) (meet1 met (prt ss za i, prt ss zb k)) R := by
  obtain ⟨hf, h⟩ := h
  cases f with
  | zero => omega
  | succ f =>
    refine ⟨f, by omega, ?_⟩
    have e1 := List.drop_eq_getElem_cons hi
    have e2 := List.drop_eq_getElem_cons hk
    have hne' : ¬ (0 ≤ za[i] ∧ (zb.drop k).head? = some za[i]) := by
      rw [e2]
      simp only [List.head?_cons, Option.some.injEq]
      exact fun hh => hne ⟨hh.1, hh.2.symm⟩
    rw [e1, comF, if_neg hne', ← e1, prt_at, prt_at] at h
    rw [← h, List.drop_drop, List.drop_drop]
    simp
theorem Side.step (h : Side ss za zb i k) (hi : i < za.length) : ∃ hk : k < zb.length, (za[i] = zb[k] → Side ss za zb (i + 1) (k + 1)) ∧
    PrtIs ss za i (prt ss za i) ∧ PrtIs ss zb k (prt ss zb k) ∧ Side ss za zb (i + (prt ss za i).length) (k + (prt ss zb k).length) := by
  obtain ⟨c, h1, h2⟩ := h
  cases c with
  | zero =>
    rw [scan_zero] at h1
    have := congrArg List.length (Option.some.inj h1)
    rw [List.length_drop] at this
    simp at this
    omega
  | succ c =>
    obtain ⟨_, s1⟩ := scan_step h1
    obtain ⟨hk, s2⟩ := scan_step h2
    rw [Nat.add_comm c 1, scan_add] at h1 h2
    cases ea : scan ss 1 (za.drop i) with
    | none => rw [ea] at h1; cases h1
    | some ra =>
    cases eb : scan ss 1 (zb.drop k) with
    | none => rw [eb] at h2; cases h2
    | some rb =>
    have p1 := prt_is ea
    have p2 := prt_is eb
    refine ⟨hk, fun e => ⟨c + arOf ss za[i], s1, by rw [e]; exact s2⟩, p1, p2, c, ?_, ?_⟩
    · have := h1
      rw [p1.whole] at this
      exact this
    · have := h2
      rw [p2.whole] at this
      exact this
theorem Side.first (ha : scan ss 1 za = some []) (hb : scan ss 1 zb = some []) : Side ss za zb 0 0 := ⟨1, ha, hb⟩
end
section
variable {w w' : World} {bm : Nat} {met : List Two} {row : Option Nat}
end

end Go.Proofs.YtapcdhagkbfccaaGreat
