/- Contracts: behind, text. -/
import Derived.Test.YtohhgghjpokdiaaY17g
import Derived.Test.YtohhgghjpokdiaaG2g
import Derived.Laws.BytesArg
namespace Go.Proofs.Ytohhgghjpokdiaa
open Go.RowKit

theorem i64_wrap (n : Int) (h1 : -9223372036854775808 ≤ n) (h2 : n ≤ 9223372036854775807) : IntKind.i64.wrap n = n := by
  rw [IntKind.wrap_i64]; omega

set_option maxRecDepth 100000 in
set_option maxHeartbeats 1000000 in
theorem ubehind_any (As At : Option Addr) (ns cs nt ct : Nat) (ss : Sg) (zs r : List Int) (a : Nat) (w : World) (hs : SigAt w w.heap.size As ns ss) (ht : IntsAt w w.heap.size At nt zs) (har : ArOk ss) (hh : HeadsOk ss zs) (hn : nt ≤ 1000) (ha : a ≤ nt) (hsc : scan ss 1 (zs.drop a) = some r) :
    Calls Try.prog 96 #[.agg #[.slice As ns cs], .slice At nt ct, .int .i64 a] w fun e w' => e = .returned (.int .i64 (zs.length - r.length : Nat)) ∧ Below w.heap.size w w' := by
  have HLS := Lib.hid hs.len
  have HLT := Lib.hid ht.len
  have HS := Lib.hid hs
  have HT := Lib.hid ht
  have HAR := Lib.hid har
  have HH := Lib.hid hh
  have HSC := Lib.hid hsc
  have HZ := Lib.hid (fun (p : Nat) (hp : p ≤ nt) (h : scan ss 0 (zs.drop p) = some r) => scan_end h (by rw [← HLT.out]; exact hp))
  obtain ⟨q, hq⟩ : ∃ q, zs.length - r.length = q := ⟨_, rfl⟩
  rw [hq] at HZ ⊢
  obtain ⟨N, hN⟩ : ∃ N, w.heap.size = N := ⟨_, rfl⟩
  have HN := Lib.hid hN
  have hbox : (w.alloc (.cells #[.slice As ns cs] 79)).cell? ⟨N, 0, none⟩ = some (.slice As ns cs) := by rw [← hN]; exact cell_new0 _ _ _
  have HBOX := Lib.hid hbox
  clear hs ht har hh hsc hq hbox
  go_enter Try.func96, Try.ntmps96
  go_wp2
  go_loopw [7, 8] (fun p nd wr => ∃ k N' : Nat, k ≤ nt ∧ p = .int .i64 k ∧ nd = .int .i64 N' ∧ N' ≤ 1 + 3 * k ∧ Hid (scan ss N' (zs.drop k) = some r) ∧ Below (N + 1) (w.alloc (.cells #[.slice As ns cs] 79)) wr) (fun p _ _ => nt - (intOf p).toNat)
  case atStart => exact ⟨a, 1, ha, rfl, rfl, by omega, HSC, Below.refl _ _⟩
  case round =>
    obtain ⟨k, N', hk, rfl, rfl, hN3, hNd, hB⟩ := hrel
    have hBw : Below w.heap.size w wr := ((Below.refl w.heap.size w).alloc (Nat.le_refl _) _).trans (hB.mono (by have := HN.out; omega))
    have HBW := Lib.hid hBw
    cases N' with
    | zero =>
      obtain rfl := HZ.out k hk hNd.out
      clear hBw hB
      go_wp2
      go_ret
      exact ⟨rfl, HBW.out⟩
    | succ N' =>
      obtain ⟨k1, hnx⟩ := scan_step hNd.out
      obtain ⟨b, off, z, rfl, c1, k1', e1⟩ := HT.out.cellAt (by rw [HLT.out]; exact k1)
      rw [e1] at hnx
      have hk1n : k < nt := by rw [HLT.out]; exact k1
      have hzl : z < (ns : Int) := by
        rw [HLS.out, ← e1]
        exact HH.out _ (List.getElem_mem k1)
      have ha3 := arOf_le HAR.out z
      have cz : wr.cell? ⟨b, off + k, none⟩ = some (.int .i64 z) := (hBw.cell (p := ⟨b, off + k, none⟩) (cell_lt c1)).trans c1
      have cb : wr.cell? ⟨N, 0, none⟩ = some (.slice As ns cs) := (hB.cell (p := ⟨N, 0, none⟩) (Nat.lt_succ_self N)).trans HBOX.out
      have hNl : N < wr.heap.size := cell_lt cb
      have hbl : b < wr.heap.size := cell_lt cz
      have HA := Lib.hid (fun (V : World) (hV : Below wr.heap.size wr V) => uarity_any As ns cs ss z V V.heap.size ((HS.out.up hBw).up hV) hzl HAR.out (Nat.le_refl _))
      obtain ⟨av, hav⟩ : ∃ av, arOf ss z = av := ⟨_, rfl⟩
      rw [hav] at hnx ha3
      simp only [hav] at HA
      have HNX := Lib.hid hnx
      have HB := Lib.hid hB
      have hN0 : (0 : Int) < (N' : Int) + 1 := by omega
      have hN0' : (0 : Int) < ((N' + 1 : Nat) : Int) := by omega
      have hk0 : (0 : Int) ≤ (k : Int) := by omega
      have hk1 : (k : Int) < (nt : Int) := by omega
      clear hNd hnx hav e1 k1 k1' hzl hBw hB c1
      go_wp2_with fail
      go_region_held3 (fun w' => w'.cell? ⟨N, 0, none⟩ = some (.slice As ns cs) ∧ w'.cell? ⟨b, off + k, none⟩ = some (.int .i64 z))
        (first | go_keep | assumption | (exact ⟨by assumption, by assumption⟩))
        ((go_at_call 115; refine (HA.out _ ((Below.refl _ _).drew)).mono ?_; rintro e V3 ⟨rfl, hB3⟩; have hB4 : Below wr.heap.size wr V3 := ((Below.refl _ wr).drew).trans hB3; have cb3 := (hB4.cell (p := ⟨N, 0, none⟩) hNl).trans cb; have cz3 := (hB4.cell (p := ⟨b, off + k, none⟩) hbl).trans cz; have HB4 := Lib.hid hB4; clear hB3 hB4))
      all_goals
        go_wp2
        go_roundw
        case rel => exact ⟨k + 1, N' + av, by omega, by go_num, by (rw [i64_wrap ((av : Int) - 1) (by omega) (by omega), i64_wrap _ (by omega) (by omega)]; go_num), by omega, HNX, HB.out.trans (HB4.out.mono (by omega))⟩
        case measure => simp [intOf]; omega

/-- The text of a term: a byte for each number. -/
def txt (zs : List Int) : ByteArray := strOfNums (zs.map (· + 12))
theorem txt_size (zs : List Int) : (txt zs).size = zs.length := by rw [txt, strOfNums_size, List.length_map]
theorem txt_inj : ∀ {xs ys : List Int}, (∀ z ∈ xs, -12 ≤ z ∧ z < 200) → (∀ z ∈ ys, -12 ≤ z ∧ z < 200) → (txt xs).data.toList = (txt ys).data.toList → xs = ys
  | [], [], _, _, _ => rfl
  | [], y :: ys, _, _, h => by simp [txt, strOfNums] at h
  | x :: xs, [], _, _, h => by simp [txt, strOfNums] at h
  | x :: xs, y :: ys, hx, hy, h => by
    have h' : UInt8.ofNat (x + 12).toNat = UInt8.ofNat (y + 12).toNat ∧ (txt xs).data.toList = (txt ys).data.toList := by
      simpa [txt, strOfNums] using h
    obtain ⟨x1, x2⟩ := hx x (by simp)
    obtain ⟨y1, y2⟩ := hy y (by simp)
    have e := congrArg UInt8.toNat h'.1
    rw [UInt8.toNat_ofNat', UInt8.toNat_ofNat', Nat.mod_eq_of_lt (by omega), Nat.mod_eq_of_lt (by omega)] at e
    rw [show x = y by omega, txt_inj (fun z hz => hx z (by simp [hz])) (fun z hz => hy z (by simp [hz])) h'.2]

def uCs (l : List Int) : Array Value := (l.map (Value.int .u8)).toArray
theorem uCs_set (l : List Int) (k : Nat) (b : Int) : (uCs l).setIfInBounds k (.int .u8 b) = uCs (l.set k b) := by
  simp [uCs, List.map_set]
theorem info_u8 : (Try.prog.info? 5).map (fun i => (i.zero, i.size, i.bytes)) = some (some (.int .u8 0), 1, 1) := by kernel_rfl
theorem made_u8 (n : Nat) : madeCells (Value.int .u8 0).cells (n * 1) = uCs (List.replicate n 0) := by
  unfold madeCells uCs
  apply Array.ext
  · simp
  · intro j h1 h2
    simp [Value.cells, Nat.mod_one]
/-- The bytes when k of them are laid. -/
def laidTo (zs : List Int) (k : Nat) : List Int := (zs.map (· + 12)).take k ++ List.replicate (zs.length - k) 0
theorem laidTo_zero (zs : List Int) : laidTo zs 0 = List.replicate zs.length 0 := by simp [laidTo]
theorem laidTo_all (zs : List Int) : laidTo zs zs.length = zs.map (· + 12) := by
  unfold laidTo
  rw [Nat.sub_self, List.replicate_zero, List.append_nil, List.take_of_length_le (by simp)]
theorem laidTo_len {zs : List Int} {k : Nat} (hk : k ≤ zs.length) : (laidTo zs k).length = zs.length := by simp [laidTo]; omega
theorem laidTo_set {zs : List Int} {k : Nat} (hk : k < zs.length) : (laidTo zs k).set k (zs[k] + 12) = laidTo zs (k + 1) := by
  unfold laidTo
  rw [List.set_append_right _ _ (by simp; omega), List.length_take, List.length_map, Nat.min_eq_left (by omega), Nat.sub_self]
  rw [show zs.length - k = (zs.length - (k + 1)) + 1 by omega, List.replicate_succ, List.set_cons_zero, List.take_succ_eq_append_getElem (by simpa using hk)]
  simp

set_option maxRecDepth 100000 in
set_option maxHeartbeats 1000000 in
theorem utext_any (At : Option Addr) (nt ct : Nat) (zs : List Int) (w : World) (ht : IntsAt w w.heap.size At nt zs) (hz : ∀ z ∈ zs, -12 ≤ z ∧ z < 200) (hn : nt ≤ 1000) :
    Calls Try.prog 111 #[.slice At nt ct] w fun e w' => e = .returned (.string (txt zs)) ∧ Below w.heap.size w w' := by
  obtain ⟨i0, hi, hz0, hz1, hz2⟩ := info_parts info_u8
  have hmk : ∀ W : World, (Instr.makeSlice 137 (.int .i64 (nt : Int)) (.int .i64 (nt : Int))).run Try.prog W = .ok (.slice (some ⟨W.heap.size, 0, none⟩) nt nt) (W.alloc (.cells (uCs (List.replicate nt 0)) 5)) := by
    intro W
    rw [← made_u8]
    have := run_make_rowN (P := Try.prog) 137 5 i0 _ Try.underlying137 hi hz0 .i64 .i64 nt nt (Nat.le_refl _) (by rw [hz2]; omega) (by omega) W
    rw [hz1] at this
    exact this
  have HT := Lib.hid ht
  have HLT := Lib.hid ht.len
  have HZ := Lib.hid hz
  obtain ⟨N, hN⟩ : ∃ N, w.heap.size = N := ⟨_, rfl⟩
  have HN := Lib.hid hN
  clear ht hz
  go_enter Try.func111, Try.ntmps111
  go_wp2
  clear hmk
  go_loopw [11] (fun c wr => ∃ k : Nat, k ≤ nt ∧ c = .int .i64 k ∧ Blk wr N 5 (uCs (laidTo zs k)) ∧ Below N w wr) (fun c _ => nt - (intOf c).toNat)
  case atStart =>
    refine ⟨0, Nat.zero_le _, rfl, ?_, ?_⟩
    · rw [laidTo_zero, ← HLT.out, ← HN.out]
      exact Blk.new _ _ _
    · exact (Below.refl _ w).alloc (Nat.le_of_eq HN.out.symm) _
  case round =>
    obtain ⟨k, hk, rfl, hK, hB⟩ := hrel
    have HK := Lib.hid hK
    have HB := Lib.hid hB
    by_cases hlt : k < nt
    · obtain ⟨b, off, z, rfl, c1, k1, e1⟩ := HT.out.cellAt hlt
      have hb : b < N := by rw [← HN.out]; exact cell_lt c1
      have cz : wr.cell? ⟨b, off + k, none⟩ = some (.int .i64 z) := (hB.cell (p := ⟨b, off + k, none⟩) hb).trans c1
      have hz12 := HZ.out _ (List.getElem_mem k1)
      have hst := laidTo_set k1
      rw [e1] at hz12 hst
      obtain ⟨z1, z2⟩ := hz12
      have hl := laidTo_len (zs := zs) (k := k) (by omega)
      have ck : ∃ v, wr.cell? ⟨N, k, none⟩ = some (.int .u8 v) := ⟨(laidTo zs k)[k]'(by omega), by rw [hK.cell]; simp [uCs, List.getElem?_eq_getElem (show k < (laidTo zs k).length by omega)]⟩
      obtain ⟨v, ck⟩ := ck
      have fk := hK.frozen k
      have HST := Lib.hid hst
      have hk0 : (0 : Int) ≤ (k : Int) := by omega
      have hk1 : (k : Int) < (nt : Int) := by omega
      have hq1 : (0 : Int) ≤ z + 12 := by omega
      have hq2 : z + 12 < 256 := by omega
      clear hK hB hst hl k1 e1 c1
      go_wp2
      go_roundw
      case rel =>
        refine ⟨k + 1, by omega, by go_num, ?_, HB.out.setCell (Nat.le_refl _) _⟩
        have := HK.out.set_ k (.int .u8 (z + 12))
        rw [uCs_set, HST.out] at this
        exact this
      case measure => simp [intOf]; omega
    · obtain rfl : k = nt := by omega
      have hcv := run_convert_bytes_arg wr 137 5 Try.underlying137 Try.underlying5 N 0 k k (zs.map (· + 12)) (by rw [List.length_map, HLT.out]) (fun i hi => by
        rw [hK.cell, HLT.out, laidTo_all]
        have hi' : i < zs.length := by have := HLT.out; omega
        simp [uCs, hi']) 9 Try.underlying9
      have H := Lib.hid (show strOfNums (zs.map (· + 12)) = txt zs from rfl)
      obtain ⟨tx, htx⟩ : ∃ tx, strOfNums (zs.map (· + 12)) = tx := ⟨_, rfl⟩
      rw [htx] at hcv H
      clear hK hB htx
      go_wp2
      go_ret
      exact ⟨by rw [H.out]; rfl, by rw [HN.out]; exact HB.out⟩

end Go.Proofs.Ytohhgghjpokdiaa
