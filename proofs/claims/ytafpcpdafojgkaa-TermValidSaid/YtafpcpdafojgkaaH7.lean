/- Contracts: Vars. -/
import Derived.Test.YtafpcpdafojgkaaG3
import Derived.Test.YtafpcpdafojgkaaG4
import Derived.Laws.OwnMore
namespace Go.Proofs.Ytafpcpdafojgkaa
open Go.RowKit

set_option maxHeartbeats 400000 in
theorem vars_bad (As At : Option Addr) (ns cs nt ct : Nat) (ss : Sg) (zs : List Int) (w : World) (hs : SigAt w w.heap.size As ns ss) (ht : IntsAt w w.heap.size At nt zs) (hv : valOk ss zs = false) :
    Calls Try.prog 22 #[.slice As ns cs, .slice At nt ct] w (RetT w [] 1) := by
  have C := Lib.hid (valid_any As At ns cs nt ct ss zs w hs ht)
  have HV := Lib.hid hv
  clear hv hs ht
  go_enter Try.func22, Try.ntmps22
  go_wp2_with (go_at_call 18; refine C.out.mono ?_; rintro e w1 ⟨rfl, hB⟩; rw [HV.out]; have HB := Lib.hid hB)
  go_ret2
  exact ⟨none, 0, 0, rfl, IntsAt.nil _ _ 0, HB.out⟩

theorem vof_seen_len (zs : List Int) (k : Nat) : (vof (seenTo zs k)).length = (seenTo zs k).length := by simp [vof]

set_option maxRecDepth 100000 in
set_option maxHeartbeats 1000000 in
theorem vars_ok (As At : Option Addr) (ns cs nt ct : Nat) (ss : Sg) (zs : List Int) (w : World) (hs : SigAt w w.heap.size As ns ss) (ht : IntsAt w w.heap.size At nt zs) (hv : valOk ss zs = true) :
    Calls Try.prog 22 #[.slice As ns cs, .slice At nt ct] w (RetT w (vof (seenTo zs nt)) 0) := by
  obtain ⟨i0, hi, hz0, hz1, hz2⟩ := info_parts info_int
  have C := Lib.hid (valid_any As At ns cs nt ct ss zs w hs ht)
  obtain ⟨h1, h60, hnum, _⟩ := valOk_term hv
  have h12 := sigOk_len (valOk_sig hv)
  have hl := ht.len
  have hnt : nt ≤ 60 := by omega
  have HX := Lib.hid ht
  have HBD := Lib.hid (show ∀ z ∈ zs, -1000000 ≤ z ∧ z ≤ 1000000 from fun z hz => by have := hnum z hz; omega)
  have HV := Lib.hid hv
  clear hv hs ht h1 h60 hnum h12 hl
  go_enter Try.func22, Try.ntmps22
  go_wp2_with (go_at_call 18; refine C.out.mono ?_; rintro e w1 ⟨rfl, hB⟩; rw [HV.out]; have HB := Lib.hid hB; clear hB)
  go_loopw [6, 16] (fun v i wr => ∃ (k : Nat) (Av : Option Addr) (cv : Nat), k ≤ nt ∧ i = .int .i64 k ∧ v = .slice Av (vof (seenTo zs k)).length cv ∧ wr.ownsRow w.heap.size 3 1 (.slice Av (vof (seenTo zs k)).length cv) (vof (seenTo zs k)).length ((vof (seenTo zs k)).map (Value.int .i64)) ∧ Below w.heap.size w wr) (fun _ i _ => nt - (intOf i).toNat)
  case atStart => exact ⟨0, some ⟨w1.heap.size, 0, none⟩, 0, Nat.zero_le _, rfl, rfl, World.ownsRow_lit w1 #[] 0 HB.out.size (by unfold maxLen; omega) rfl, HB.out.alloc HB.out.size _⟩
  case round =>
    obtain ⟨k, Av, cv, hk, rfl, rfl, hown, hB⟩ := hrel
    by_cases hlt : k < nt
    · obtain ⟨b, off, z, rfl, c0, k1, e1⟩ := HX.out.cellAt hlt
      obtain ⟨b', off', he', hbl, _⟩ := HX.out.mem (by omega)
      cases he'
      have c1 := (hB.cell (p := ⟨b, off + k, none⟩) hbl).trans c0
      have hbd := HBD.out _ (List.getElem_mem k1)
      have hseen := seenTo_succ k1
      have hle := seenTo_le zs k
      rw [e1] at hbd hseen
      obtain ⟨hb1, hb2⟩ := hbd
      have hvl := vof_seen_len zs k
      have hvl2 : (vof (seenTo zs k)).length ≤ k := by omega
      obtain ⟨Ar, cr, her, hr⟩ := row_ints hown (by omega)
      cases her
      have HH := Lib.hid (contains_any Av _ cv _ (-z - 1) wr _ hr)
      have HB := Lib.hid hB
      have HOWN := Lib.hid hown
      have hk0 : (0 : Int) ≤ (k : Int) := by omega
      have hk1 : (k : Int) < (nt : Int) := by omega
      clear hvl hr hle c0 e1 hB hown k1
      by_cases hpos : 0 ≤ z
      · have H := Lib.hid (show seenTo zs (k + 1) = seenTo zs k by rw [hseen]; simp [addSeen, hpos])
        have hneg : ¬ z < 0 := by omega
        have hd : decide (z < 0) = false := decide_eq_false hneg
        clear hseen
        obtain ⟨L, hL⟩ : ∃ L, (vof (seenTo zs k)).length = L := ⟨_, rfl⟩
        rw [hL] at HOWN hvl2
        have HLL := Lib.hid hL
        rw [hL]
        clear hL HH
        go_wp2
        go_roundw
        case rel => exact ⟨k + 1, Av, cv, by omega, by go_num, by rw [H.out, HLL.out], by rw [H.out, HLL.out]; exact HOWN.out, HB.out⟩
        case measure => simp [intOf]; omega
      · have hneg : z < 0 := by omega
        have hd : decide (z < 0) = true := decide_eq_true hneg
        clear hpos
        cases hcon : (seenTo zs k).contains z
        · have H := Lib.hid (show vof (seenTo zs (k + 1)) = vof (seenTo zs k) ++ [-z - 1] by
            rw [hseen]; simp only [addSeen, if_neg (show ¬ 0 ≤ z from by omega), hcon]; simp [vof])
          have HC := Lib.hid (show (vof (seenTo zs k)).contains (-z - 1) = false by rw [vof_contains]; exact hcon)
          clear hseen hcon
          generalize vof (seenTo zs k) = V at *
          obtain ⟨L, hL⟩ : ∃ L, V.length = L := ⟨_, rfl⟩
          rw [hL] at HOWN hvl2 HH
          have HLL := Lib.hid hL
          rw [hL]
          clear hL
          go_wp2_with (first
            | (go_at_call 66; refine HH.out.mono ?_; rintro e w' ⟨rfl, rfl⟩; rw [HC.out])
            | (at_builtin
               refine wpList_append_own_at _ rfl _ _ 24 rfl w.heap.size 3 i0 _ 1 8 Try.underlying24 hi hz0 hz1 hz2 rfl (by omega) _ _ _ rfl (HOWN.out.alloc _) ⟨wr.heap.size, 0, none⟩ 1 1 [.int .i64 (-z - 1)] rfl rfl
                 (World.news_of_block (cs := #[.int .i64 (-z - 1)]) (t := 3) (fr := (0, 0)) (heap_alloc_new wr _)) (by simp [Value.oneCell']) (by unfold maxLen; omega) (by omega) (by have := HB.out.size; simp; omega) ?_
               intro v1 w1 hown1 hg1 _ _
               have HB1 := Lib.hid ((HB.out.alloc HB.out.size _).grown hg1 (by have := HB.out.size; simp; omega) (fun j e => (HOWN.out.lt j e).1))
               obtain ⟨g1, cap1, hv1, _⟩ := hown1.form (by omega)
               subst hv1
               have HOWN1 := Lib.hid hown1
               clear hown1 hg1))
          go_roundw
          case rel => exact ⟨k + 1, some ⟨g1, 0, none⟩, cap1, by omega, by go_num, by rw [H.out, List.length_append, HLL.out]; rfl, by rw [H.out, List.length_append, HLL.out, List.map_append]; exact HOWN1.out, HB1.out⟩
          case measure => simp [intOf]; omega
        · have H := Lib.hid (show seenTo zs (k + 1) = seenTo zs k by
            rw [hseen]; simp only [addSeen, if_neg (show ¬ 0 ≤ z from by omega), hcon]; simp)
          have HC := Lib.hid (show (vof (seenTo zs k)).contains (-z - 1) = true by rw [vof_contains]; exact hcon)
          clear hseen hcon
          obtain ⟨L, hL⟩ : ∃ L, (vof (seenTo zs k)).length = L := ⟨_, rfl⟩
          rw [hL] at HOWN hvl2 HH
          have HLL := Lib.hid hL
          rw [hL]
          clear hL
          go_wp2_with (go_at_call 66; refine HH.out.mono ?_; rintro e w' ⟨rfl, rfl⟩; rw [HC.out])
          go_roundw
          case rel => exact ⟨k + 1, Av, cv, by omega, by go_num, by rw [H.out, HLL.out], by rw [H.out, HLL.out]; exact HOWN.out, HB.out⟩
          case measure => simp [intOf]; omega
    · obtain rfl : k = nt := by omega
      have hle := seenTo_le zs k
      have hvl := vof_seen_len zs k
      obtain ⟨Ar, cr, her, hr⟩ := row_ints hown (by omega)
      cases her
      obtain ⟨V, hV⟩ : ∃ V, vof (seenTo zs k) = V := ⟨_, rfl⟩
      rw [hV] at hr ⊢
      obtain ⟨L, hL⟩ : ∃ L, V.length = L := ⟨_, rfl⟩
      rw [hL] at hr ⊢
      have HR := Lib.hid hr
      have HBB := Lib.hid hB
      have HVV := Lib.hid hV
      clear hown hB hr hL hV hle hvl
      go_wp2
      go_ret2
      exact ⟨_, _, _, rfl, by rw [HVV.out]; exact HR.out, HBB.out⟩

end Go.Proofs.Ytafpcpdafojgkaa
