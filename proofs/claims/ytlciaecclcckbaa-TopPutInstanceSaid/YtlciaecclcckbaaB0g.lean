/- Contract: the reference's Part. -/
import Derived.Test.YtlciaecclcckbaaB4g
import Derived.Test.YtlciaecclcckbaaH2g
namespace Go.Proofs.Ytlciaecclcckbaa
open Go.RowKit

set_option maxRecDepth 100000 in
set_option maxHeartbeats 1000000 in
theorem refPart_any (As At : Option Addr) (ns cs nt ct : Nat) (ss : Sg) (zs r0 : List Int) (a : Nat) (w : World) (hs : SigAt w w.heap.size As ns ss) (ht : IntsAt w w.heap.size At nt zs) (har : ArOk ss) (hh : HeadsOk ss zs) (hn : nt ≤ 1000) (hct : nt ≤ ct) (hct2 : ct ≤ 9223372036854775807) (ha : a < zs.length) (hsc : scan ss 1 (zs.drop a) = some r0) :
    Calls Try.prog 60 #[.slice As ns cs, .slice At nt ct, .int .i64 a] w fun e w' => ∃ v, e = .returned v ∧ w'.ownsRow w.heap.size 3 1 v (prt ss zs a).length ((prt ss zs a).map (Value.int .i64)) ∧ Below w.heap.size w w' := by
  obtain ⟨i0, hi, hz0, hz1, hz2⟩ := info_parts info_int
  have hP := prt_is hsc
  have hlt := ht.len
  obtain ⟨bt, offt, rfl, hbt, htc⟩ := ht.mem (by omega)
  obtain ⟨P, hPP⟩ : ∃ P, prt ss zs a = P := ⟨_, rfl⟩
  rw [hPP] at hP ⊢
  have hl1 := hP.len
  have hl2 := hP.le
  have HE := Lib.hid (fun W (hb : Below w.heap.size w W) => by
    have := refEnd_any As (some ⟨bt, offt, none⟩) ns cs nt ct ss zs _ a W w.heap.size (hs.below hb) (ht.below hb) har hh hn (by omega) hP.whole
    rw [show zs.length - (zs.drop (a + P.length)).length = a + P.length from by rw [List.length_drop]; omega] at this
    exact this)
  have HN1 : Hid (∀ W, Below w.heap.size w W → ∀ j u, (P.map (Value.int .i64))[j]? = some u → W.cell? ((⟨bt, offt + a, none⟩ : Addr).add j) = some u) := by
    refine Lib.hid (fun W hb j u hu => ?_)
    rw [add0, hb.cell (p := ⟨bt, offt + a + j, none⟩) hbt]
    simp only [List.getElem?_map, Option.map_eq_some_iff] at hu
    obtain ⟨z, hz, rfl⟩ := hu
    have h1 : (zs.drop a)[j]? = some z := by
      rw [hP.split, List.getElem?_append_left (List.getElem?_eq_some_iff.1 hz).1]; exact hz
    rw [List.getElem?_drop] at h1
    obtain ⟨hj, rfl⟩ := List.getElem?_eq_some_iff.1 h1
    rw [Nat.add_assoc]
    exact htc (a + j) hj
  obtain ⟨m, hm⟩ : ∃ m, P.length = m := ⟨_, rfl⟩
  rw [hm] at hl1 hl2 HE ⊢
  have HN0 := Lib.hid (show (P.map (Value.int .i64)).length = m * 1 by simp [hm])
  have HN2 := Lib.hid (ints_one P)
  obtain ⟨e, he⟩ : ∃ e, a + m = e := ⟨_, rfl⟩
  have hea : e - a = m := by omega
  rw [he] at HE hl2
  have h1 : a ≤ e := by omega
  have h2 : e ≤ ct := by omega
  have h3 : a ≠ ct := by omega
  have h4 : (0 : Int) ≤ (a : Int) := by omega
  have h5 : m ≤ 1000 := by omega
  have h6 : a ≤ 1000 := by omega
  have h7 : e ≤ 1000 := by omega
  have HO' : Hid ((w.alloc (.cells #[] 3)).ownsRow w.heap.size 3 1 (.slice (some ⟨w.heap.size, 0, none⟩) 0 0) 0 []) :=
    Lib.hid ⟨rfl, .inr ⟨w.heap.size, 0, #[], rfl, Nat.le_refl _, heap_alloc_new w _, Nat.le_refl _, by unfold maxLen; omega, rfl, rfl⟩⟩
  have HB0 : Hid (Below w.heap.size w (w.alloc (.cells #[] 3))) := Lib.hid ((Below.refl _ _).alloc (Nat.le_refl _) _)
  clear hs ht har hh hsc hP hlt htc hPP hm he hn ha hct
  go_enter Try.func60, Try.ntmps60
  go_wp2_with (first
    | (go_at_call 63; refine (HE.out _ HB0.out).mono ?_; rintro e' w1 ⟨rfl, j1, rfl⟩)
    | (at_builtin
       refine wpList_append_own_at _ rfl _ _ 25 rfl w.heap.size 3 i0 _ 1 8 Try.underlying25 hi hz0 hz1 hz2 rfl (by omega) (.slice (some ⟨w.heap.size, 0, none⟩) 0 0) 0 [] rfl HO'.out ⟨bt, offt + a, none⟩ m _ (P.map (Value.int .i64)) rfl HN0.out (HN1.out _ (below_drewN HB0.out j1)) HN2.out (by unfold maxLen; omega) (by omega) (by simp) ?_
       intro v' w2 hown hg _ _
       have HW := Lib.hid hown
       have HG := Lib.hid ((below_drewN HB0.out j1).grown hg (by simp) (fun k e => by cases e; exact Nat.le_refl _))
       clear hown hg))
  go_ret
  refine ⟨_, rfl, ?_, HG.out⟩
  have := HW.out
  simpa using this

end Go.Proofs.Ytlciaecclcckbaa
