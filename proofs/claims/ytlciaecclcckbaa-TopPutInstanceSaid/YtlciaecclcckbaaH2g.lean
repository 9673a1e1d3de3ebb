/- Contract: the reference's Arguments. -/
import Derived.Test.YtlciaecclcckbaaH0g
import Derived.Test.YtlciaecclcckbaaG2g
import Derived.Test.YtlciaecclcckbaaQ2g
namespace Go.Proofs.Ytlciaecclcckbaa
open Go.RowKit

/-- Where the first arguments of the part at an index begin. -/
def begs (ss : Sg) (zs : List Int) (a k : Nat) : List Int := (List.range k).map fun j => ((psA ss zs a j : Nat) : Int)
theorem begs_len (ss : Sg) (zs : List Int) (a k : Nat) : (begs ss zs a k).length = k := by simp [begs]
theorem begs_succ (ss : Sg) (zs : List Int) (a k : Nat) : begs ss zs a (k + 1) = begs ss zs a k ++ [((psA ss zs a k : Nat) : Int)] := by simp [begs, List.range_succ]

set_option maxRecDepth 100000 in
set_option maxHeartbeats 1000000 in
theorem refArgs_any (As At : Option Addr) (ns cs nt ct : Nat) (ss : Sg) (zs r0 : List Int) (a : Nat) (w : World) (hs : SigAt w w.heap.size As ns ss) (ht : IntsAt w w.heap.size At nt zs) (har : ArOk ss) (hh : HeadsOk ss zs) (hn : nt ≤ 1000) (ha : a < zs.length) (hsc : scan ss 1 (zs.drop a) = some r0) :
    Calls Try.prog 93 #[.slice As ns cs, .slice At nt ct, .int .i64 a] w fun e w' => ∃ v, e = .returned v ∧ w'.ownsRow w.heap.size 3 1 v (arOf ss zs[a]) ((begs ss zs a (arOf ss zs[a])).map (Value.int .i64)) ∧ Below w.heap.size w w' := by
  obtain ⟨i0, hi, hz0, hz1, hz2⟩ := info_parts info_int
  have hP := prt_is hsc
  have hlt := ht.len
  have hls := hs.len
  have hr3 := arOf_le har zs[a]
  have hzl : zs[a] < (ns : Int) := by
    rw [hls]; exact hh _ (List.getElem_mem ha)
  obtain ⟨bt, offt, rfl, hbt, htc⟩ := ht.mem (by omega)
  have hc0 := htc a ha
  have h0 := psA_zero (ss := ss) ha
  obtain ⟨z, hz⟩ : ∃ z, zs[a] = z := ⟨_, rfl⟩
  obtain ⟨r, hr⟩ : ∃ r, arOf ss z = r := ⟨_, rfl⟩
  have hk1 : ∀ k, k < r → scan ss 1 (zs.drop (psA ss zs a k)) = some (zs.drop (psA ss zs a (k + 1))) ∧ psA ss zs a k < psA ss zs a (k + 1) ∧ psA ss zs a (k + 1) ≤ zs.length := by
    intro k hk
    have := prt_step hP ha (k := k) (by rw [hz, hr]; exact hk)
    exact ⟨this.1, this.2.1, this.2.2.1⟩
  have HA := Lib.hid (fun W (hb : Below w.heap.size w W) => by
    have := arity_any As ns cs ss z W w.heap.size (hs.below hb) har (by rw [← hz]; exact hzl)
    rw [hr] at this
    exact this)
  have HE := Lib.hid (fun W (hb : Below w.heap.size w W) k (hk : k < r) => by
    have := refEnd_any As (some ⟨bt, offt, none⟩) ns cs nt ct ss zs _ (psA ss zs a k) W w.heap.size (hs.below hb) (ht.below hb) har hh hn (by have := (hk1 k hk).2; omega) (hk1 k hk).1
    rw [show zs.length - (zs.drop (psA ss zs a (k + 1))).length = psA ss zs a (k + 1) from by have := (hk1 k hk).2; rw [List.length_drop]; omega] at this
    exact this)
  have HB0 : Hid (∀ j, j ≤ r → psA ss zs a j ≤ 1000) := Lib.hid (fun j hj => by
    rcases Nat.eq_zero_or_pos j with rfl | hpos
    · omega
    · have := (hk1 (j - 1) (by omega)).2.2
      rw [show j - 1 + 1 = j from by omega] at this
      omega)
  have HBG := Lib.hid (begs_succ ss zs a)
  have HBL := Lib.hid (begs_len ss zs a)
  have hB0 : begs ss zs a 0 = [] := rfl
  rw [hz] at hr3 hc0 ⊢
  rw [hr] at hr3 ⊢
  have hcw : ∀ W, Below w.heap.size w W → W.cell? ⟨bt, offt + a, none⟩ = some (.int .i64 z) := fun W hb => (hb.cell (p := ⟨bt, offt + a, none⟩) hbt).trans hc0
  have HCW := Lib.hid hcw
  have ha0 : (0 : Int) ≤ (a : Int) := by omega
  have ha1 : (a : Int) < (nt : Int) := by omega
  have ha2 : a ≤ 1000 := by omega
  obtain ⟨ps, hps⟩ : ∃ ps : Nat → Nat, psA ss zs a = ps := ⟨_, rfl⟩
  obtain ⟨bg, hbg⟩ : ∃ bg : Nat → List Int, begs ss zs a = bg := ⟨_, rfl⟩
  simp only [hps, hbg] at *
  clear hs ht har hh hsc hP hlt hls hzl htc hc0 hz hr hk1 hps hbg hcw ha
  go_enter Try.func93, Try.ntmps93
  go_wp2
  go_loopw [7, 8, 9] (fun v f i wr => ∃ (k : Nat) (Av : Option Addr) (cv : Nat), k ≤ r ∧ i = .int .i64 k ∧ f = .int .i64 (ps k : Nat) ∧ v = .slice Av k cv ∧ wr.ownsRow w.heap.size 3 1 (.slice Av k cv) k ((bg k).map (Value.int .i64)) ∧ Below w.heap.size w wr) (fun _ _ i _ => r - (intOf i).toNat)
  case atStart => exact ⟨0, none, 0, Nat.zero_le _, rfl, by rw [h0]; go_num, rfl, by rw [hB0]; exact World.ownsRow_nil _ _ _ _, Below.refl _ _⟩
  case round =>
    obtain ⟨k, Av, cv, hk, rfl, rfl, rfl, hown, hB⟩ := hrel
    have c1 := HCW.out wr hB
    have HOWN := Lib.hid hown
    have HB := Lib.hid hB
    have HL := Lib.hid (HBL.out k)
    clear hown hB
    by_cases hlt : k < r
    · have H := Lib.hid (HBG.out k)
      have hp1 := HB0.out k hk
      have hp2 := HB0.out (k + 1) hlt
      obtain ⟨p, hp⟩ : ∃ p, ps k = p := ⟨_, rfl⟩
      have HP := Lib.hid hp
      rw [hp] at hp1 H
      rw [hp]
      have HE1 := Lib.hid (fun W hb => HE.out W hb k hlt)
      rw [hp] at HE1
      obtain ⟨p', hp'⟩ : ∃ p', ps (k + 1) = p' := ⟨_, rfl⟩
      have HP' := Lib.hid hp'
      rw [hp'] at hp2 HE1
      clear hp hp'
      go_wp2_with (first
        | (go_at_call 92; refine (HA.out _ HB.out).mono ?_; rintro e w' ⟨rfl, rfl⟩)
        | (at_builtin
           refine wpList_append_own_at _ rfl _ _ 24 rfl w.heap.size 3 i0 _ 1 8 Try.underlying24 hi hz0 hz1 hz2 rfl (by omega) _ _ _ rfl (HOWN.out.alloc _) ⟨wr.heap.size, 0, none⟩ 1 1 [.int .i64 (p : Int)] rfl rfl
             (World.news_of_block (cs := #[.int .i64 (p : Int)]) (t := 3) (fr := (0, 0)) (heap_alloc_new wr _)) (by simp [Value.oneCell']) (by unfold maxLen; omega) (by omega) (by have := HB.out.size; simp; omega) ?_
           intro v1 w1 hown1 hg1 _ _
           have HB1 := Lib.hid ((HB.out.alloc HB.out.size _).grown hg1 (by have := HB.out.size; simp; omega) (fun j e => (HOWN.out.lt j e).1))
           obtain ⟨g1, cap1, hv1, _⟩ := hown1.form (by omega)
           subst hv1
           have HOWN1 := Lib.hid hown1
           clear hown1 hg1)
        | (go_at_call 63; refine (HE1.out _ HB1.out).mono ?_; rintro e w2 ⟨rfl, j2, rfl⟩))
      go_roundw
      case rel => exact ⟨k + 1, some ⟨g1, 0, none⟩, cap1, by omega, by go_num, by rw [HP'.out], by go_num, by rw [H.out, List.map_append]; exact HOWN1.out, below_drewN HB1.out _⟩
      case measure => simp [intOf]; omega
    · obtain rfl : k = r := by omega
      go_wp2_with (go_at_call 92; refine (HA.out _ HB.out).mono ?_; rintro e w' ⟨rfl, rfl⟩)
      go_ret
      exact ⟨_, rfl, HOWN.out, HB.out⟩

end Go.Proofs.Ytlciaecclcckbaa
