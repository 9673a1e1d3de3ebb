/- Contract: the reference's End. -/
import Derived.Test.YtgbfccbnbgbknaaF3g
namespace Go.Proofs.Ytgbfccbnbgbknaa
open Go.RowKit

theorem scan_step {ss : Sg} {zs : List Int} {p N : Nat} {r : List Int} (h : scan ss (N + 1) (zs.drop p) = some r) : ∃ hp : p < zs.length, scan ss (N + arOf ss zs[p]) (zs.drop (p + 1)) = some r := by
  by_cases hp : p < zs.length
  · refine ⟨hp, ?_⟩
    rw [List.drop_eq_getElem_cons hp] at h
    exact h
  · rw [List.drop_of_length_le (by omega)] at h
    cases h
theorem scan_end {ss : Sg} {zs : List Int} {p : Nat} {r : List Int} (h : scan ss 0 (zs.drop p) = some r) (hp : p ≤ zs.length) : p = zs.length - r.length := by
  rw [scan_zero] at h
  have := congrArg List.length (Option.some.inj h)
  rw [List.length_drop] at this
  omega

set_option maxRecDepth 100000 in
set_option maxHeartbeats 1000000 in
theorem refEnd_any (As At : Option Addr) (ns cs nt ct : Nat) (ss : Sg) (zs r : List Int) (a : Nat) (w : World) (B : Nat) (hs : SigAt w B As ns ss) (ht : IntsAt w B At nt zs) (har : ArOk ss) (hh : HeadsOk ss zs) (hn : nt ≤ 1000) (ha : a ≤ nt) (hsc : scan ss 1 (zs.drop a) = some r) :
    Calls Try.prog 212 #[.slice As ns cs, .slice At nt ct, .int .i64 a] w fun e w' => e = .returned (.int .i64 (zs.length - r.length : Nat)) ∧ ∃ k, w' = w.drewN k := by
  have HLS := Lib.hid hs.len
  have HLT := Lib.hid ht.len
  have HS := Lib.hid hs
  have HT := Lib.hid ht
  have HAR := Lib.hid har
  have HH := Lib.hid hh
  have HSC := Lib.hid hsc
  have HZ := Lib.hid (fun (p : Nat) (hp : p ≤ nt) (h : scan ss 0 (zs.drop p) = some r) => scan_end h (by rw [← HLT.out]; exact hp))
  obtain ⟨q, hq⟩ : ∃ q, zs.length - r.length = q := ⟨_, rfl⟩
  rw [hq] at HZ ⊢
  clear hs ht har hh hsc hq
  go_enter Try.func212, Try.ntmps212
  go_wp2
  go_loopw [2, 7] (fun p nd wr => ∃ k N : Nat, k ≤ nt ∧ p = .int .i64 k ∧ nd = .int .i64 N ∧ N ≤ 1 + 3 * k ∧ Hid (scan ss N (zs.drop k) = some r) ∧ ∃ m, wr = w.drewN m) (fun p _ _ => nt - (intOf p).toNat)
  case atStart => exact ⟨a, 1, ha, rfl, rfl, by omega, HSC, 0, rfl⟩
  case round =>
    obtain ⟨k, N, hk, rfl, rfl, hN3, hNd, m, rfl⟩ := hrel
    cases N with
    | zero =>
      obtain rfl := HZ.out k hk hNd.out
      go_wp2
      go_ret
      exact ⟨rfl, _, rfl⟩
    | succ N =>
      obtain ⟨k1, hnx⟩ := scan_step hNd.out
      obtain ⟨b, off, z, rfl, c1, k1', e1⟩ := HT.out.cellAt (by rw [HLT.out]; exact k1)
      rw [e1] at hnx
      have hk1n : k < nt := by rw [HLT.out]; exact k1
      have hzl : z < (ns : Int) := by
        rw [HLS.out, ← e1]
        exact HH.out _ (List.getElem_mem k1)
      have ha3 := arOf_le HAR.out z
      have HA := Lib.hid (fun (m : Nat) => arity_any As ns cs ss z (w.drewN m) B (HS.out.keep fun p _ => rfl) HAR.out hzl)
      obtain ⟨av, hav⟩ : ∃ av, arOf ss z = av := ⟨_, rfl⟩
      rw [hav] at hnx ha3
      simp only [hav] at HA
      have HNX := Lib.hid hnx
      have hN0 : (0 : Int) < (N : Int) + 1 := by omega
      have hN0' : (0 : Int) < ((N + 1 : Nat) : Int) := by omega
      have hk0 : (0 : Int) ≤ (k : Int) := by omega
      have hk1 : (k : Int) < (nt : Int) := by omega
      clear hNd hnx hav e1 k1 k1' hzl
      go_wp2_with (go_at_call 171; refine (HA.out _).mono ?_; rintro e w' ⟨rfl, rfl⟩)
      go_roundw
      case rel => exact ⟨k + 1, N + av, by omega, by go_num, by go_num, by omega, HNX, _, rfl⟩
      case measure => simp [intOf]; omega

end Go.Proofs.Ytgbfccbnbgbknaa
