/- The walk of KernelChecks. -/
import Derived.Test.YtapcdhagkbfccaaGreatQNg
import Derived.Test.YtapcdhagkbfccaaGreatPOg
import Derived.Test.YtapcdhagkbfccaaGreatN24g
import Derived.Test.YtapcdhagkbfccaaGreatN23g
import Derived.Test.YtapcdhagkbfccaaGreatQRg
/- Contracts: kernel.Check, kernel.Proves, the reference's Check at any arguments. -/
namespace Go.Proofs.YtapcdhagkbfccaaGreat
open Go.RowKit

/-- What Check hands back. -/
noncomputable def chkZ (ss : Sg) (gg : List (List Int)) (pp : List Stp) (zt : List Int) : Int × Int :=
  if valOk ss zt = true then
    (if (runZ ss gg pp).2.2 = 0 then
      (if insB ss ((runZ ss gg pp).1.getD ((runZ ss gg pp).1.length - 1) []) zt = true then (-1, 0) else (((runZ ss gg pp).1.length : Int) - 1, 11))
    else ((runZ ss gg pp).2.1, (runZ ss gg pp).2.2))
  else (0, 1)
/-- A pair of numbers is handed back. -/
def RetP (w : World) (z : Int × Int) (e : Ending) (w' : World) : Prop := e = .returned (.tuple #[.int .i64 z.1, .int .i64 z.2]) ∧ Below w.heap.size w w'

/-- The last of what is said, where all steps say something. -/
theorem run_last {w w' : World} {T : List (List Int)} {A : Option Addr} {n : Nat} {ls : List Hd} (q2 : TermsAt w' w'.heap.size A n ls T) (q4 : ∀ x ∈ ls, capOk x) (h1 : 1 ≤ T.length) (h2 : T.length ≤ 60) (q3 : Below w.heap.size w w') :
    ∃ b off k A' n' c', A = some ⟨b, off, none⟩ ∧ n = k + 1 ∧ T.length = k + 1 ∧ w'.cell? ⟨b, off + k, none⟩ = some (.slice A' n' c') ∧ k < 60 ∧ IntsAt w' w'.heap.size A' n' (T.getD (T.length - 1) []) ∧ Below w.heap.size w w' := by
  have hn := q2.len
  obtain ⟨k, rfl⟩ : ∃ k, n = k + 1 := ⟨n - 1, by omega⟩
  obtain ⟨b, off, A', n', c', rfl, _, u1, u2, u3, u4⟩ := terms_cap q2 q4 (show k < k + 1 by omega)
  refine ⟨b, off, k, A', n', c', rfl, rfl, by omega, u1, by omega, ?_, q3⟩
  rw [show T.length - 1 = k by omega]
  exact u2

set_option maxRecDepth 100000 in
set_option maxHeartbeats 2000000 in
theorem check_any (As Ag Ap At : Option Addr) (ns cs ng cg np cp nt ct : Nat) (ss : Sg) (lg : List Hd) (gg : List (List Int)) (pp : List Stp) (zt : List Int) (w : World) (hs : SigAt w w.heap.size As ns ss) (hg : TermsAt w w.heap.size Ag ng lg gg) (hp : StepsAt w w.heap.size Ap np pp) (ht : IntsAt w w.heap.size At nt zt) (hc : nt ≤ ct) (hc2 : ct ≤ 9223372036854775807) (hn : ng ≤ 1000000) :
    Calls Tryz.prog 20 #[.slice As ns cs, .slice Ag ng cg, .slice Ap np cp, .slice At nt ct] w (RetP w (chkZ ss gg pp zt)) := by
  have CV := Lib.hid (valid_any As At ns cs nt ct ss zt w hs ht)
  unfold chkZ
  cases hv : valOk ss zt
  · rw [hv] at CV
    rw [if_neg (by simp)]
    clear hs hg hp ht hc hc2 hv
    go_enter Tryz.func20, Tryz.ntmps20
    go_wp2_with (go_at_call 39; ((with_reducible refine CV.out.mono ?_); rintro e w1 ⟨rfl, hB1⟩; have HB1 := Lib.hid hB1; clear hB1))
    go_ret2
    exact ⟨rfl, HB1.out⟩
  · rw [hv] at CV
    rw [if_pos rfl]
    have CX := fun (V : World) (hB : Below w.heap.size w V) => run_any As Ag Ap ns cs ng cg np cp ss lg gg pp V (hs.up hB) (hg.up hB) (hp.up hB) hn
    by_cases he : (runZ ss gg pp).2.2 = 0
    · obtain ⟨_, hok, hT0, h1⟩ := runZ_ok he
      have hlen := (proofOk_to hok).2.1
      have hl : (runZ ss gg pp).1.length = pp.length := by rw [hT0, sayL_len]
      rw [if_pos he]
      obtain ⟨R, hR⟩ : ∃ R, runZ ss gg pp = R := ⟨_, rfl⟩
      rw [hR] at CX he hl h1 ⊢
      obtain ⟨T, ix, er⟩ := R
      simp only at he hl h1
      subst he
      subst h1
      simp only
      have C := Lib.hid (fun (V : World) (hB : Below w.heap.size w V) => (CX V hB).mono (R' := fun e w' => ∃ b off, ∃ k c A' n' c', e = .returned (.tuple #[.slice (some ⟨b, off, none⟩) (k + 1) c, .int .i64 (-1), .int .i64 0]) ∧ T.length = k + 1 ∧ w'.cell? ⟨b, off + k, none⟩ = some (.slice A' n' c') ∧ k < 60 ∧ IntsAt w' w'.heap.size A' n' (T.getD (T.length - 1) []) ∧ Below V.heap.size V w') fun e w' ⟨A, n, c, ls, q1, q2, q3, q4⟩ => by
        obtain ⟨b, off, k, A', n', c', e1, e2, e3, e4, e5, e6, e7⟩ := run_last q2 q4 (by simp only; omega) (by simp only; omega) q3
        subst e1
        subst e2
        exact ⟨b, off, k, c, A', n', c', q1, e3, e4, e5, e6, e7⟩)
      have HT := Lib.hid ht
      have CI := Lib.hid (fun (V : World) (hB : Below w.heap.size w V) (A' : Option Addr) (n' c' : Nat) (hI : IntsAt V V.heap.size A' n' (T.getD (T.length - 1) [])) => instance_any As A' At ns cs n' c' nt ct ss _ zt V (hs.up hB) hI (ht.up hB) hc hc2)
      obtain ⟨q, hq⟩ : ∃ q, insB ss (T.getD (T.length - 1) []) zt = q := ⟨_, rfl⟩
      rw [hq] at CI ⊢
      clear hs hg hp ht hc hc2 hv CX hR hq hT0 hl hlen hok
      cases q
      · rw [if_neg (by simp)]
        go_enter Tryz.func20, Tryz.ntmps20
        go_wp2_with (first
          | (go_at_call 39; ((with_reducible refine CV.out.mono ?_); rintro e w1 ⟨rfl, hB1⟩; have HB1 := Lib.hid hB1; clear hB1))
          | (go_at_call 40
             (with_reducible refine (C.out _ HB1.out).mono ?_)
             rintro e w2 ⟨b, off, k, c, A', n', c', rfl, hl, hce, hk6, hI, hB⟩
             have hk0 : (0 : Int) ≤ (k : Int) := by omega
             have hkk : (k : Int) < ((k + 1 : Nat) : Int) := by omega
             have HL := Lib.hid hl
             have HI := Lib.hid hI
             have HB2 := Lib.hid (below_then HB1.out hB)
             clear hI hB hl)
          | (go_at_call 41
             (with_reducible refine (CI.out _ HB2.out _ _ _ HI.out).mono ?_)
             rintro e w3 ⟨rfl, hB3⟩
             have HB3 := Lib.hid (below_then HB2.out hB3)
             clear hB3))
        go_ret2
        exact ⟨by rw [HL.out]; simp, HB3.out⟩
      · rw [if_pos rfl]
        go_enter Tryz.func20, Tryz.ntmps20
        go_wp2_with (first
          | (go_at_call 39; ((with_reducible refine CV.out.mono ?_); rintro e w1 ⟨rfl, hB1⟩; have HB1 := Lib.hid hB1; clear hB1))
          | (go_at_call 40
             (with_reducible refine (C.out _ HB1.out).mono ?_)
             rintro e w2 ⟨b, off, k, c, A', n', c', rfl, hl, hce, hk6, hI, hB⟩
             have hk0 : (0 : Int) ≤ (k : Int) := by omega
             have hkk : (k : Int) < ((k + 1 : Nat) : Int) := by omega
             have HL := Lib.hid hl
             have HI := Lib.hid hI
             have HB2 := Lib.hid (below_then HB1.out hB)
             clear hI hB hl)
          | (go_at_call 41
             (with_reducible refine (CI.out _ HB2.out _ _ _ HI.out).mono ?_)
             rintro e w3 ⟨rfl, hB3⟩
             have HB3 := Lib.hid (below_then HB2.out hB3)
             clear hB3))
        go_ret2
        exact ⟨rfl, HB3.out⟩
    · rw [if_neg he]
      obtain ⟨R, hR⟩ : ∃ R, runZ ss gg pp = R := ⟨_, rfl⟩
      rw [hR] at CX he ⊢
      obtain ⟨T, ix, er⟩ := R
      simp only at he ⊢
      have C := Lib.hid (fun (V : World) (hB : Below w.heap.size w V) => (CX V hB).mono (R' := fun e w' => ∃ A n c, e = .returned (.tuple #[.slice A n c, .int .i64 ix, .int .i64 er]) ∧ Below V.heap.size V w') (fun e w' ⟨A, n, c, ls, q1, q2, q3, q4⟩ => ⟨A, n, c, q1, q3⟩))
      have hne : (er != 0) = true := by simpa using he
      clear hs hg hp ht hc hc2 hv CX hR he
      go_enter Tryz.func20, Tryz.ntmps20
      go_wp2_with (first
        | (go_at_call 39; ((with_reducible refine CV.out.mono ?_); rintro e w1 ⟨rfl, hB1⟩; have HB1 := Lib.hid hB1; clear hB1))
        | (go_at_call 40; ((with_reducible refine (C.out _ HB1.out).mono ?_); rintro e w2 ⟨A, n, c, rfl, hB⟩; have HB := Lib.hid (below_then HB1.out hB); clear hB)))
      go_ret2
      exact ⟨rfl, HB.out⟩

set_option maxRecDepth 100000 in
set_option maxHeartbeats 1000000 in
theorem proves_any (As Ag Ap At : Option Addr) (ns cs ng cg np cp nt ct : Nat) (ss : Sg) (lg : List Hd) (gg : List (List Int)) (pp : List Stp) (zt : List Int) (w : World) (hs : SigAt w w.heap.size As ns ss) (hg : TermsAt w w.heap.size Ag ng lg gg) (hp : StepsAt w w.heap.size Ap np pp) (ht : IntsAt w w.heap.size At nt zt) (hc : nt ≤ ct) (hc2 : ct ≤ 9223372036854775807) (hn : ng ≤ 1000000) :
    Calls Tryz.prog 22 #[.slice As ns cs, .slice Ag ng cg, .slice Ap np cp, .slice At nt ct] w fun e w' => e = .returned (.bool ((chkZ ss gg pp zt).2 == 0)) ∧ Below w.heap.size w w' := by
  have C := Lib.hid (check_any As Ag Ap At ns cs ng cg np cp nt ct ss lg gg pp zt w hs hg hp ht hc hc2 hn)
  obtain ⟨R, hR⟩ : ∃ R, chkZ ss gg pp zt = R := ⟨_, rfl⟩
  rw [hR] at C ⊢
  obtain ⟨ix, er⟩ := R
  clear hs hg hp ht hc hc2 hR
  go_enter Tryz.func22, Tryz.ntmps22
  go_wp2_with (go_at_call 20; ((with_reducible refine C.out.mono ?_); rintro e w1 ⟨rfl, hB⟩; have HB := Lib.hid hB; clear hB))
  go_ret
  exact ⟨rfl, HB.out⟩

set_option maxRecDepth 100000 in
set_option maxHeartbeats 2000000 in
theorem refCheck_any (As Ag Ap At : Option Addr) (ns cs ng cg np cp nt ct : Nat) (ss : Sg) (lg : List Hd) (gg : List (List Int)) (pp : List Stp) (zt : List Int) (w : World) (hs : SigAt w w.heap.size As ns ss) (hg : TermsAt w w.heap.size Ag ng lg gg) (hp : StepsAt w w.heap.size Ap np pp) (ht : IntsAt w w.heap.size At nt zt) (hc : nt ≤ ct) (hc2 : ct ≤ 9223372036854775807) (hn : ng ≤ 1000000) :
    Calls Tryz.prog 21 #[.slice As ns cs, .slice Ag ng cg, .slice Ap np cp, .slice At nt ct] w (RetP w (chkZ ss gg pp zt)) := by
  have CR := Lib.hid (right_any As Ag Ap ns cs ng cg np cp ss lg gg pp w hs hg hp hn)
  have CV := Lib.hid (fun V (h : Below w.heap.size w V) => (refValid_any As At ns cs nt ct ss zt V _ (hs.up h) (ht.up h)).mono (R' := fun e w' => e = .returned (.bool (valOk ss zt)) ∧ Below V.heap.size V w') fun e w' ⟨h1, k, h2⟩ => ⟨h1, by rw [h2]; exact below_drewN (Below.refl _ _) k⟩)
  cases hok : (givOk ss gg && proofOk (gg.length : Int) pp)
  · rw [hok] at CR
    rw [show chkZ ss gg pp zt = (0, 1) from by
      unfold chkZ
      rw [runZ_bad hok]
      split
      · rfl
      · rfl]
    clear hs hg hp ht hc hc2 hok CV
    go_enter Tryz.func21, Tryz.ntmps21
    go_wp2_with (go_at_call 42; ((with_reducible refine CR.out.mono ?_); rintro e w1 ⟨rfl, hB1⟩; have HB1 := Lib.hid hB1; clear hB1))
    go_ret2
    exact ⟨rfl, HB1.out⟩
  rw [hok] at CR
  rw [Bool.and_eq_true] at hok
  unfold chkZ
  cases hv : valOk ss zt
  · simp only [hv] at CV
    rw [if_neg (by simp)]
    clear hs hg hp ht hc hc2 hv hok
    go_enter Tryz.func21, Tryz.ntmps21
    go_wp2_with (first
      | (go_at_call 42; ((with_reducible refine CR.out.mono ?_); rintro e w1 ⟨rfl, hB1⟩; have HB1 := Lib.hid hB1; clear hB1))
      | (go_at_call 43; ((with_reducible refine (CV.out _ HB1.out).mono ?_); rintro e w2 ⟨rfl, hB2⟩; have HB2 := Lib.hid (below_then HB1.out hB2); clear hB2)))
    go_ret2
    exact ⟨rfl, HB2.out⟩
  · simp only [hv] at CV
    rw [if_pos rfl]
    have CX := fun (V : World) (hB : Below w.heap.size w V) => refrun_any As Ag Ap ns cs ng cg np cp ss lg gg pp V (hs.up hB) (hg.up hB) (hp.up hB) hok.1 hok.2
    by_cases he : (runZ ss gg pp).2.2 = 0
    · obtain ⟨_, _, hT0, _⟩ := runZ_ok he
      have hlen := (proofOk_to hok.2).2.1
      have hl : (runZ ss gg pp).1.length = pp.length := by rw [hT0, sayL_len]
      rw [if_pos he]
      obtain ⟨R, hR⟩ : ∃ R, runZ ss gg pp = R := ⟨_, rfl⟩
      rw [hR] at CX he hl ⊢
      obtain ⟨T, ix, er⟩ := R
      simp only at he hl
      subst he
      simp only
      have C := Lib.hid (fun (V : World) (hB : Below w.heap.size w V) => (CX V hB).mono (R' := fun e w' => ∃ b off, ∃ k c A' n' c', e = .returned (.tuple #[.slice (some ⟨b, off, none⟩) (k + 1) c, .int .i64 0]) ∧ T.length = k + 1 ∧ w'.cell? ⟨b, off + k, none⟩ = some (.slice A' n' c') ∧ k < 60 ∧ IntsAt w' w'.heap.size A' n' (T.getD (T.length - 1) []) ∧ Below V.heap.size V w') fun e w' ⟨A, n, c, ls, q1, q2, q3, q4⟩ => by
        obtain ⟨b, off, k, A', n', c', e1, e2, e3, e4, e5, e6, e7⟩ := run_last q2 q4 (by simp only; omega) (by simp only; omega) q3
        subst e1
        subst e2
        exact ⟨b, off, k, c, A', n', c', q1, e3, e4, e5, e6, e7⟩)
      have CI := Lib.hid (fun (V : World) (hB : Below w.heap.size w V) (A' : Option Addr) (n' c' : Nat) (hI : IntsAt V V.heap.size A' n' (T.getD (T.length - 1) [])) => refInstance_any As A' At ns cs n' c' nt ct ss _ zt V (hs.up hB) hI (ht.up hB) hc hc2)
      obtain ⟨q, hq⟩ : ∃ q, insB ss (T.getD (T.length - 1) []) zt = q := ⟨_, rfl⟩
      rw [hq] at CI ⊢
      clear hs hg hp ht hc hc2 hv CX hR hq hT0 hl hlen hok
      cases q
      · rw [if_neg (by simp)]
        go_enter Tryz.func21, Tryz.ntmps21
        go_wp2_with (first
          | (go_at_call 42; ((with_reducible refine CR.out.mono ?_); rintro e w1 ⟨rfl, hB1⟩; have HB1 := Lib.hid hB1; clear hB1))
          | (go_at_call 43; ((with_reducible refine (CV.out _ HB1.out).mono ?_); rintro e w2 ⟨rfl, hB2⟩; have HB2 := Lib.hid (below_then HB1.out hB2); clear hB2))
          | (go_at_call 44
             (with_reducible refine (C.out _ HB2.out).mono ?_)
             rintro e w3 ⟨b, off, k, c, A', n', c', rfl, hl, hce, hk6, hI, hB⟩
             have hk0 : (0 : Int) ≤ (k : Int) := by omega
             have hkk : (k : Int) < ((k + 1 : Nat) : Int) := by omega
             have HL := Lib.hid hl
             have HI := Lib.hid hI
             have HB3 := Lib.hid (below_then HB2.out hB)
             clear hI hB hl)
          | (go_at_call 45
             (with_reducible refine (CI.out _ HB3.out _ _ _ HI.out).mono ?_)
             rintro e w4 ⟨rfl, hB4⟩
             have HB4 := Lib.hid (below_then HB3.out hB4)
             clear hB4))
        go_ret2
        exact ⟨by rw [HL.out]; simp, HB4.out⟩
      · rw [if_pos rfl]
        go_enter Tryz.func21, Tryz.ntmps21
        go_wp2_with (first
          | (go_at_call 42; ((with_reducible refine CR.out.mono ?_); rintro e w1 ⟨rfl, hB1⟩; have HB1 := Lib.hid hB1; clear hB1))
          | (go_at_call 43; ((with_reducible refine (CV.out _ HB1.out).mono ?_); rintro e w2 ⟨rfl, hB2⟩; have HB2 := Lib.hid (below_then HB1.out hB2); clear hB2))
          | (go_at_call 44
             (with_reducible refine (C.out _ HB2.out).mono ?_)
             rintro e w3 ⟨b, off, k, c, A', n', c', rfl, hl, hce, hk6, hI, hB⟩
             have hk0 : (0 : Int) ≤ (k : Int) := by omega
             have hkk : (k : Int) < ((k + 1 : Nat) : Int) := by omega
             have HL := Lib.hid hl
             have HI := Lib.hid hI
             have HB3 := Lib.hid (below_then HB2.out hB)
             clear hI hB hl)
          | (go_at_call 45
             (with_reducible refine (CI.out _ HB3.out _ _ _ HI.out).mono ?_)
             rintro e w4 ⟨rfl, hB4⟩
             have HB4 := Lib.hid (below_then HB3.out hB4)
             clear hB4))
        go_ret2
        exact ⟨rfl, HB4.out⟩
    · rw [if_neg he]
      have hidx : (runZ ss gg pp).2.1 = ((runZ ss gg pp).1.length : Int) := by
        unfold runZ at he ⊢
        rw [if_pos (by rw [hok.1, hok.2]; rfl)] at he ⊢
        exact runF_idx _ _ he
      obtain ⟨R, hR⟩ : ∃ R, runZ ss gg pp = R := ⟨_, rfl⟩
      rw [hR] at CX he hidx ⊢
      obtain ⟨T, ix, er⟩ := R
      simp only at he hidx ⊢
      have C := Lib.hid (fun (V : World) (hB : Below w.heap.size w V) => (CX V hB).mono (R' := fun e w' => ∃ A n c, e = .returned (.tuple #[.slice A n c, .int .i64 er]) ∧ n = T.length ∧ Below V.heap.size V w') (fun e w' ⟨A, n, c, ls, q1, q2, q3, q4⟩ => ⟨A, n, c, q1, q2.len, q3⟩))
      have hne : (er != 0) = true := by simpa using he
      have HIX := Lib.hid hidx
      clear hs hg hp ht hc hc2 hv CX hR he hidx hok
      go_enter Tryz.func21, Tryz.ntmps21
      go_wp2_with (first
        | (go_at_call 42; ((with_reducible refine CR.out.mono ?_); rintro e w1 ⟨rfl, hB1⟩; have HB1 := Lib.hid hB1; clear hB1))
        | (go_at_call 43; ((with_reducible refine (CV.out _ HB1.out).mono ?_); rintro e w2 ⟨rfl, hB2⟩; have HB2 := Lib.hid (below_then HB1.out hB2); clear hB2))
        | (go_at_call 44; ((with_reducible refine (C.out _ HB2.out).mono ?_); rintro e w3 ⟨A, n, c, rfl, hn3, hB⟩; have HN3 := Lib.hid hn3; have HB := Lib.hid (below_then HB2.out hB); clear hB hn3)))
      go_ret2
      have h1 := HIX.out
      have h2 := HN3.out
      subst h1
      subst h2
      exact ⟨rfl, HB.out⟩

end Go.Proofs.YtapcdhagkbfccaaGreat

namespace Go.Proofs.YtapcdhagkbfccaaGreat
open Go.RowKit

set_option maxRecDepth 100000 in
set_option maxHeartbeats 4000000 in
theorem kc_shelf (As Ag Ap At : Option Addr) (ns cs ng cg np cp nt ct : Nat) (ss : Sg) (lg : List Hd) (gg : List (List Int)) (pp : List Stp) (zt : List Int) (w : World) (_hs : SigAt w w.heap.size As ns ss) (hg : TermsAt w w.heap.size Ag ng lg gg) (_hp : StepsAt w w.heap.size Ap np pp) (_ht : IntsAt w w.heap.size At nt zt) (_hc : nt ≤ ct) (_hc2 : ct ≤ 9223372036854775807) (h1 : (decide (ng ≤ 80) && smallOk ns lg) = false) :
    Calls Tryz.prog 4 #[.slice As ns cs, .agg #[.slice Ag ng cg, .slice Ap np cp, .slice At nt ct]] w fun e w' => e = .returned (.bool true) ∧ Below w.heap.size w w' := by
  obtain ⟨N, hN⟩ : ∃ N, w.heap.size = N := ⟨_, rfl⟩
  obtain ⟨W2, hW2⟩ : ∃ W2, w.alloc (.cells #[.slice Ag ng cg, .slice Ap np cp, .slice At nt ct] 38) = W2 := ⟨_, rfl⟩
  have hB : Below w.heap.size w W2 := by rw [← hW2]; exact (Below.refl _ w).alloc (Nat.le_refl _) _
  have hz : W2.heap.size = N + 1 := by rw [← hW2]; simp [hN]
  have bx : Blk W2 w.heap.size 38 #[.slice Ag ng cg, .slice Ap np cp, .slice At nt ct] := by
    rw [← hW2]; exact Blk.new w _ _
  rw [hN] at bx
  have b0 : W2.cell? ⟨N, 0, none⟩ = some (.slice Ag ng cg) := bx.cell 0
  have b1 : W2.cell? ⟨N, 1, none⟩ = some (.slice Ap np cp) := bx.cell 1
  have b2 : W2.cell? ⟨N, 2, none⟩ = some (.slice At nt ct) := bx.cell 2
  have hNlt : N < W2.heap.size := by omega
  have up : ∀ V, Below W2.heap.size W2 V → Below w.heap.size w V := fun V hb => hB.trans (hb.mono hB.size)
  have HCE := Lib.hid (fun V' (hb : Below W2.heap.size W2 V') => show V'.cell? ⟨N, 0, none⟩ = some (.slice Ag ng cg) ∧ V'.cell? ⟨N, 1, none⟩ = some (.slice Ap np cp) ∧ V'.cell? ⟨N, 2, none⟩ = some (.slice At nt ct) from
    ⟨(hb.cell (p := ⟨N, 0, none⟩) hNlt).trans b0, (hb.cell (p := ⟨N, 1, none⟩) hNlt).trans b1, (hb.cell (p := ⟨N, 2, none⟩) hNlt).trans b2⟩)
  have HUP := Lib.hid up
  have HW2 := Lib.hid hW2
  have HN := Lib.hid hN
  have HB0 := Lib.hid (Below.refl W2.heap.size W2)
  have HSH := Lib.hid (shelf_any As Ag ns cs ng cg lg W2 _ ((hg.up hB).hds))
  have HL := Lib.hid (light_any Ap np cp W2)
  have HSM := Lib.hid (small_any As (some ⟨W2.heap.size, 0, none⟩) ns cs 1 1 [(At, nt, ct)] (W2.alloc (.cells #[.slice At nt ct] 36)) _ (HdsAt.of_blk _ (Blk.new W2 36 #[.slice At nt ct]) rfl rfl (by simp)))
  have HBA := Lib.hid (bel_al0 W2 (.cells #[.slice At nt ct] 36))
  rw [h1] at HSH
  clear bx hB up hz hW2 _hs hg _hp _ht _hc _hc2 h1 HL HSM HBA HCE hNlt b1 b2
  rw [hN]
  clear hN
  go_enter Tryz.func4, Tryz.ntmps4
  go_wp2_with fail
  rw [HW2.out, HN.out]
  go_wp2_with (first
    | (go_at_call 18; ((with_reducible refine HSH.out.mono ?_); rintro e V1 ⟨rfl, rfl⟩))
    | (go_at_call 6; refine (awake4_any _).mono ?_; rintro e Vz ⟨rfl, hBz⟩; have HBz := Lib.hid (below_then HB0.out hBz); clear hBz))
  go_ret
  exact ⟨rfl, by rw [← HN.out]; exact HUP.out _ HBz.out⟩

set_option maxRecDepth 100000 in
set_option maxHeartbeats 4000000 in
theorem kc_light (As Ag Ap At : Option Addr) (ns cs ng cg np cp nt ct : Nat) (ss : Sg) (lg : List Hd) (gg : List (List Int)) (pp : List Stp) (zt : List Int) (w : World) (_hs : SigAt w w.heap.size As ns ss) (hg : TermsAt w w.heap.size Ag ng lg gg) (_hp : StepsAt w w.heap.size Ap np pp) (_ht : IntsAt w w.heap.size At nt zt) (_hc : nt ≤ ct) (_hc2 : ct ≤ 9223372036854775807) (h1 : (decide (ng ≤ 80) && smallOk ns lg) = true) (h2 : ¬ np ≤ 100) :
    Calls Tryz.prog 4 #[.slice As ns cs, .agg #[.slice Ag ng cg, .slice Ap np cp, .slice At nt ct]] w fun e w' => e = .returned (.bool true) ∧ Below w.heap.size w w' := by
  obtain ⟨N, hN⟩ : ∃ N, w.heap.size = N := ⟨_, rfl⟩
  obtain ⟨W2, hW2⟩ : ∃ W2, w.alloc (.cells #[.slice Ag ng cg, .slice Ap np cp, .slice At nt ct] 38) = W2 := ⟨_, rfl⟩
  have hB : Below w.heap.size w W2 := by rw [← hW2]; exact (Below.refl _ w).alloc (Nat.le_refl _) _
  have hz : W2.heap.size = N + 1 := by rw [← hW2]; simp [hN]
  have bx : Blk W2 w.heap.size 38 #[.slice Ag ng cg, .slice Ap np cp, .slice At nt ct] := by
    rw [← hW2]; exact Blk.new w _ _
  rw [hN] at bx
  have b0 : W2.cell? ⟨N, 0, none⟩ = some (.slice Ag ng cg) := bx.cell 0
  have b1 : W2.cell? ⟨N, 1, none⟩ = some (.slice Ap np cp) := bx.cell 1
  have b2 : W2.cell? ⟨N, 2, none⟩ = some (.slice At nt ct) := bx.cell 2
  have hNlt : N < W2.heap.size := by omega
  have up : ∀ V, Below W2.heap.size W2 V → Below w.heap.size w V := fun V hb => hB.trans (hb.mono hB.size)
  have HCE := Lib.hid (fun V' (hb : Below W2.heap.size W2 V') => show V'.cell? ⟨N, 0, none⟩ = some (.slice Ag ng cg) ∧ V'.cell? ⟨N, 1, none⟩ = some (.slice Ap np cp) ∧ V'.cell? ⟨N, 2, none⟩ = some (.slice At nt ct) from
    ⟨(hb.cell (p := ⟨N, 0, none⟩) hNlt).trans b0, (hb.cell (p := ⟨N, 1, none⟩) hNlt).trans b1, (hb.cell (p := ⟨N, 2, none⟩) hNlt).trans b2⟩)
  have HUP := Lib.hid up
  have HW2 := Lib.hid hW2
  have HN := Lib.hid hN
  have HB0 := Lib.hid (Below.refl W2.heap.size W2)
  have HSH := Lib.hid (shelf_any As Ag ns cs ng cg lg W2 _ ((hg.up hB).hds))
  have HL := Lib.hid (light_any Ap np cp W2)
  have HSM := Lib.hid (small_any As (some ⟨W2.heap.size, 0, none⟩) ns cs 1 1 [(At, nt, ct)] (W2.alloc (.cells #[.slice At nt ct] 36)) _ (HdsAt.of_blk _ (Blk.new W2 36 #[.slice At nt ct]) rfl rfl (by simp)))
  have HBA := Lib.hid (bel_al0 W2 (.cells #[.slice At nt ct] 36))
  rw [h1] at HSH
  rw [decide_eq_false h2] at HL
  clear bx hB up hz hW2 _hs hg _hp _ht _hc _hc2 h1 h2 HSM HBA HCE hNlt b2
  rw [hN]
  clear hN
  go_enter Tryz.func4, Tryz.ntmps4
  go_wp2_with fail
  rw [HW2.out, HN.out]
  go_wp2_with (first
    | (go_at_call 18; ((with_reducible refine HSH.out.mono ?_); rintro e V1 ⟨rfl, rfl⟩))
    | (go_at_call 5; ((with_reducible refine HL.out.mono ?_); rintro e V1 ⟨rfl, rfl⟩))
    | (go_at_call 6; refine (awake4_any _).mono ?_; rintro e Vz ⟨rfl, hBz⟩; have HBz := Lib.hid (below_then HB0.out hBz); clear hBz))
  go_ret
  exact ⟨rfl, by rw [← HN.out]; exact HUP.out _ HBz.out⟩

set_option maxRecDepth 100000 in
set_option maxHeartbeats 4000000 in
theorem kc_small (As Ag Ap At : Option Addr) (ns cs ng cg np cp nt ct : Nat) (ss : Sg) (lg : List Hd) (gg : List (List Int)) (pp : List Stp) (zt : List Int) (w : World) (_hs : SigAt w w.heap.size As ns ss) (hg : TermsAt w w.heap.size Ag ng lg gg) (_hp : StepsAt w w.heap.size Ap np pp) (_ht : IntsAt w w.heap.size At nt zt) (_hc : nt ≤ ct) (_hc2 : ct ≤ 9223372036854775807) (h1 : (decide (ng ≤ 80) && smallOk ns lg) = true) (h2 : np ≤ 100) (h3 : smallOk ns [(At, nt, ct)] = false) :
    Calls Tryz.prog 4 #[.slice As ns cs, .agg #[.slice Ag ng cg, .slice Ap np cp, .slice At nt ct]] w fun e w' => e = .returned (.bool true) ∧ Below w.heap.size w w' := by
  obtain ⟨N, hN⟩ : ∃ N, w.heap.size = N := ⟨_, rfl⟩
  obtain ⟨W2, hW2⟩ : ∃ W2, w.alloc (.cells #[.slice Ag ng cg, .slice Ap np cp, .slice At nt ct] 38) = W2 := ⟨_, rfl⟩
  have hB : Below w.heap.size w W2 := by rw [← hW2]; exact (Below.refl _ w).alloc (Nat.le_refl _) _
  have hz : W2.heap.size = N + 1 := by rw [← hW2]; simp [hN]
  have bx : Blk W2 w.heap.size 38 #[.slice Ag ng cg, .slice Ap np cp, .slice At nt ct] := by
    rw [← hW2]; exact Blk.new w _ _
  rw [hN] at bx
  have b0 : W2.cell? ⟨N, 0, none⟩ = some (.slice Ag ng cg) := bx.cell 0
  have b1 : W2.cell? ⟨N, 1, none⟩ = some (.slice Ap np cp) := bx.cell 1
  have b2 : W2.cell? ⟨N, 2, none⟩ = some (.slice At nt ct) := bx.cell 2
  have hNlt : N < W2.heap.size := by omega
  have up : ∀ V, Below W2.heap.size W2 V → Below w.heap.size w V := fun V hb => hB.trans (hb.mono hB.size)
  have HCE := Lib.hid (fun V' (hb : Below W2.heap.size W2 V') => show V'.cell? ⟨N, 0, none⟩ = some (.slice Ag ng cg) ∧ V'.cell? ⟨N, 1, none⟩ = some (.slice Ap np cp) ∧ V'.cell? ⟨N, 2, none⟩ = some (.slice At nt ct) from
    ⟨(hb.cell (p := ⟨N, 0, none⟩) hNlt).trans b0, (hb.cell (p := ⟨N, 1, none⟩) hNlt).trans b1, (hb.cell (p := ⟨N, 2, none⟩) hNlt).trans b2⟩)
  have HUP := Lib.hid up
  have HW2 := Lib.hid hW2
  have HN := Lib.hid hN
  have HB0 := Lib.hid (Below.refl W2.heap.size W2)
  have HSH := Lib.hid (shelf_any As Ag ns cs ng cg lg W2 _ ((hg.up hB).hds))
  have HL := Lib.hid (light_any Ap np cp W2)
  have HSM := Lib.hid (small_any As (some ⟨W2.heap.size, 0, none⟩) ns cs 1 1 [(At, nt, ct)] (W2.alloc (.cells #[.slice At nt ct] 36)) _ (HdsAt.of_blk _ (Blk.new W2 36 #[.slice At nt ct]) rfl rfl (by simp)))
  have HBA := Lib.hid (bel_al0 W2 (.cells #[.slice At nt ct] 36))
  rw [h1] at HSH
  rw [decide_eq_true h2] at HL
  rw [h3] at HSM
  clear bx hB up hz hW2 _hs hg _hp _ht _hc _hc2 h1 h2 h3 hNlt
  rw [hN]
  clear hN
  go_enter Tryz.func4, Tryz.ntmps4
  go_wp2_with fail
  rw [HW2.out, HN.out]
  go_wp2_with (first
    | (go_at_call 18; ((with_reducible refine HSH.out.mono ?_); rintro e V1 ⟨rfl, rfl⟩))
    | (go_at_call 5; ((with_reducible refine HL.out.mono ?_); rintro e V1 ⟨rfl, rfl⟩))
    | (go_at_call 19; ((with_reducible refine HSM.out.mono ?_); rintro e V1 ⟨rfl, rfl⟩; obtain ⟨x0, x1, x2⟩ := HCE.out _ HBA.out))
    | (go_at_call 6; refine (awake4_any _).mono ?_; rintro e Vz ⟨rfl, hBz⟩; have HBz := Lib.hid (below_then HBA.out hBz); clear hBz))
  go_ret
  exact ⟨rfl, by rw [← HN.out]; exact HUP.out _ HBz.out⟩

set_option maxRecDepth 100000 in
set_option maxHeartbeats 4000000 in
theorem kc_good (As Ag Ap At : Option Addr) (ns cs ng cg np cp nt ct : Nat) (ss : Sg) (lg : List Hd) (gg : List (List Int)) (pp : List Stp) (zt : List Int) (w : World) (hs : SigAt w w.heap.size As ns ss) (hg : TermsAt w w.heap.size Ag ng lg gg) (hp : StepsAt w w.heap.size Ap np pp) (ht : IntsAt w w.heap.size At nt zt) (hc : nt ≤ ct) (hc2 : ct ≤ 9223372036854775807) (h1 : (decide (ng ≤ 80) && smallOk ns lg) = true) (h2 : np ≤ 100) (h3 : smallOk ns [(At, nt, ct)] = true) :
    Calls Tryz.prog 4 #[.slice As ns cs, .agg #[.slice Ag ng cg, .slice Ap np cp, .slice At nt ct]] w fun e w' => e = .returned (.bool true) ∧ Below w.heap.size w w' := by
  obtain ⟨N, hN⟩ : ∃ N, w.heap.size = N := ⟨_, rfl⟩
  obtain ⟨W2, hW2⟩ : ∃ W2, w.alloc (.cells #[.slice Ag ng cg, .slice Ap np cp, .slice At nt ct] 38) = W2 := ⟨_, rfl⟩
  have hB : Below w.heap.size w W2 := by rw [← hW2]; exact (Below.refl _ w).alloc (Nat.le_refl _) _
  have hz : W2.heap.size = N + 1 := by rw [← hW2]; simp [hN]
  have bx : Blk W2 w.heap.size 38 #[.slice Ag ng cg, .slice Ap np cp, .slice At nt ct] := by
    rw [← hW2]; exact Blk.new w _ _
  rw [hN] at bx
  have b0 : W2.cell? ⟨N, 0, none⟩ = some (.slice Ag ng cg) := bx.cell 0
  have b1 : W2.cell? ⟨N, 1, none⟩ = some (.slice Ap np cp) := bx.cell 1
  have b2 : W2.cell? ⟨N, 2, none⟩ = some (.slice At nt ct) := bx.cell 2
  have hNlt : N < W2.heap.size := by omega
  have up : ∀ V, Below W2.heap.size W2 V → Below w.heap.size w V := fun V hb => hB.trans (hb.mono hB.size)
  have HCE := Lib.hid (fun V' (hb : Below W2.heap.size W2 V') => show V'.cell? ⟨N, 0, none⟩ = some (.slice Ag ng cg) ∧ V'.cell? ⟨N, 1, none⟩ = some (.slice Ap np cp) ∧ V'.cell? ⟨N, 2, none⟩ = some (.slice At nt ct) from
    ⟨(hb.cell (p := ⟨N, 0, none⟩) hNlt).trans b0, (hb.cell (p := ⟨N, 1, none⟩) hNlt).trans b1, (hb.cell (p := ⟨N, 2, none⟩) hNlt).trans b2⟩)
  have HUP := Lib.hid up
  have HW2 := Lib.hid hW2
  have HN := Lib.hid hN
  have HB0 := Lib.hid (Below.refl W2.heap.size W2)
  have HSH := Lib.hid (shelf_any As Ag ns cs ng cg lg W2 _ ((hg.up hB).hds))
  have HL := Lib.hid (light_any Ap np cp W2)
  have HSM := Lib.hid (small_any As (some ⟨W2.heap.size, 0, none⟩) ns cs 1 1 [(At, nt, ct)] (W2.alloc (.cells #[.slice At nt ct] 36)) _ (HdsAt.of_blk _ (Blk.new W2 36 #[.slice At nt ct]) rfl rfl (by simp)))
  have HBA := Lib.hid (bel_al0 W2 (.cells #[.slice At nt ct] 36))
  rw [h1] at HSH
  rw [decide_eq_true h2] at HL
  rw [h3] at HSM
  have hng : ng ≤ 1000000 := by simp only [Bool.and_eq_true, decide_eq_true_iff] at h1; omega
  have HS := Lib.hid (hs.up hB)
  have HG := Lib.hid (hg.up hB)
  have HP := Lib.hid (hp.up hB)
  have HT := Lib.hid (ht.up hB)
  have HC1 := Lib.hid (fun (V : World) (hb : Below W2.heap.size W2 V) => check_any As Ag Ap At ns cs ng cg np cp nt ct ss lg gg pp zt V (HS.out.up hb) (HG.out.up hb) (HP.out.up hb) (HT.out.up hb) hc hc2 hng)
  have HC2 := Lib.hid (fun (V : World) (hb : Below W2.heap.size W2 V) => refCheck_any As Ag Ap At ns cs ng cg np cp nt ct ss lg gg pp zt V (HS.out.up hb) (HG.out.up hb) (HP.out.up hb) (HT.out.up hb) hc hc2 hng)
  have HC3 := Lib.hid (fun (V : World) (hb : Below W2.heap.size W2 V) => proves_any As Ag Ap At ns cs ng cg np cp nt ct ss lg gg pp zt V (HS.out.up hb) (HG.out.up hb) (HP.out.up hb) (HT.out.up hb) hc hc2 hng)
  obtain ⟨R, hR⟩ : ∃ R, chkZ ss gg pp zt = R := ⟨_, rfl⟩
  rw [hR] at HC1 HC2 HC3
  obtain ⟨ix, er⟩ := R
  simp only at HC3
  have hx1 : (ix == ix) = true := by simp
  have hx2 : (er == er) = true := by simp
  have hx3 : ((er == 0) == (er == 0)) = true := by simp
  clear bx hB up hz hW2 hs hg hp ht hc hc2 h1 h2 h3 hNlt hng hR
  rw [hN]
  clear hN
  go_enter Tryz.func4, Tryz.ntmps4
  go_wp2_with fail
  rw [HW2.out, HN.out]
  go_wp2_with (first
    | (go_at_call 18; ((with_reducible refine HSH.out.mono ?_); rintro e V1 ⟨rfl, rfl⟩))
    | (go_at_call 5; ((with_reducible refine HL.out.mono ?_); rintro e V1 ⟨rfl, rfl⟩))
    | (go_at_call 19; ((with_reducible refine HSM.out.mono ?_); rintro e V1 ⟨rfl, rfl⟩; obtain ⟨x0, x1, x2⟩ := HCE.out _ HBA.out))
    | (go_at_call 20
       (with_reducible refine (HC1.out _ HBA.out).mono ?_)
       rintro e V2 ⟨rfl, hB2⟩
       have HB2 := Lib.hid (below_then HBA.out hB2)
       obtain ⟨y0, y1, y2⟩ := HCE.out _ HB2.out
       clear hB2)
    | (go_at_call 21
       (with_reducible refine (HC2.out _ HB2.out).mono ?_)
       rintro e V3 ⟨rfl, hB3⟩
       have HB3 := Lib.hid (below_then HB2.out hB3)
       obtain ⟨z0, z1, z2⟩ := HCE.out _ HB3.out
       clear hB3)
    | (go_at_call 22
       (with_reducible refine (HC3.out _ HB3.out).mono ?_)
       rintro e V4 ⟨rfl, hB4⟩
       have HB4 := Lib.hid (below_then HB3.out hB4)
       clear hB4)
    | (go_at_call 6; refine (awake4_any _).mono ?_; rintro e Vz ⟨rfl, hBz⟩; have HBz := Lib.hid (below_then HB4.out hBz); clear hBz))
  go_ret
  exact ⟨rfl, by rw [← HN.out]; exact HUP.out _ HBz.out⟩

theorem kc_walk (As Ag Ap At : Option Addr) (ns cs ng cg np cp nt ct : Nat) (ss : Sg) (lg : List Hd) (gg : List (List Int)) (pp : List Stp) (zt : List Int) (w : World) (hs : SigAt w w.heap.size As ns ss) (hg : TermsAt w w.heap.size Ag ng lg gg) (hp : StepsAt w w.heap.size Ap np pp) (ht : IntsAt w w.heap.size At nt zt) (hc : nt ≤ ct) (hc2 : ct ≤ 9223372036854775807) :
    Calls Tryz.prog 4 #[.slice As ns cs, .agg #[.slice Ag ng cg, .slice Ap np cp, .slice At nt ct]] w fun e w' => e = .returned (.bool true) ∧ Below w.heap.size w w' := by
  cases h1 : (decide (ng ≤ 80) && smallOk ns lg)
  · exact kc_shelf As Ag Ap At ns cs ng cg np cp nt ct ss lg gg pp zt w hs hg hp ht hc hc2 h1
  · by_cases h2 : np ≤ 100
    · cases h3 : smallOk ns [(At, nt, ct)]
      · exact kc_small As Ag Ap At ns cs ng cg np cp nt ct ss lg gg pp zt w hs hg hp ht hc hc2 h1 h2 h3
      · exact kc_good As Ag Ap At ns cs ng cg np cp nt ct ss lg gg pp zt w hs hg hp ht hc hc2 h1 h2 h3
    · exact kc_light As Ag Ap At ns cs ng cg np cp nt ct ss lg gg pp zt w hs hg hp ht hc hc2 h1 h2

end Go.Proofs.YtapcdhagkbfccaaGreat
