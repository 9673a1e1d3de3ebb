/- Canonical forms are their own: the plain mathematics. -/
import Derived.Test.YtojofbmpknpggaaS3g
import Derived.Laws.MakeOwn
import Derived.Test.YtojofbmpknpggaaV1g
/- Canonical forms: the plain mathematics, and the words for memory that its walk wants. -/
namespace Go.Proofs.Ytojofbmpknpggaa
open Go.RowKit Go.WideMaps

def Blk (w : World) (g : Nat) (t : TypeId) (cs : Array Value) : Prop := w.heap[g]? = some (.cells cs t (0, 0))
section
variable {w w' : World} {g : Nat} {t : TypeId} {cs : Array Value}
theorem Blk.lt (h : Blk w g t cs) : g < w.heap.size := by
  rcases Nat.lt_or_ge g w.heap.size with hlt | hge
  · exact hlt
  · unfold Blk at h; rw [Array.getElem?_eq_none hge] at h; cases h
theorem Blk.cell (h : Blk w g t cs) (i : Nat) : w.cell? ⟨g, i, none⟩ = cs[i]? := cell_of_row w g i cs t (0, 0) h
theorem Blk.frozen (h : Blk w g t cs) (i : Nat) : w.frozen? ⟨g, i, none⟩ = false := by
  unfold Blk at h
  simp [World.frozen?, h]
theorem Blk.new (w : World) (t : TypeId) (cs : Array Value) : Blk (w.alloc (.cells cs t)) w.heap.size t cs := heap_alloc_new w _
theorem Blk.drewN (h : Blk w g t cs) (n : Nat) : Blk (w.drewN n) g t cs := h
theorem Blk.alloc (h : Blk w g t cs) (o : Obj) : Blk (w.alloc o) g t cs := (Below.heap_alloc w o g h.lt).trans h
theorem Blk.set_ (h : Blk w g t cs) (i : Nat) (u : Value) : Blk (w.setCell ⟨g, i, none⟩ u) g t (cs.setIfInBounds i u) := by
  unfold Blk at h ⊢
  simp [World.setCell, Array.getElem?_modify, h]
theorem Blk.far (h : Blk w g t cs) {p : Addr} (hp : g ≠ p.block) (u : Value) : Blk (w.setCell p u) g t cs := (Below.heap_setCell w p u g hp).trans h
theorem Blk.below {B : Nat} (h : Blk w g t cs) (hb : Below B w w') (hg : g < B) : Blk w' g t cs := (hb.block g hg).trans h
theorem Blk.grown {row : Option Nat} (h : Blk w g t cs) (hb : w.grownBy w' row) (hg : some g ≠ row) : Blk w' g t cs := (hb.block g h.lt hg).trans h
end

theorem run_make_rowN {P : Program} (t e : TypeId) (i : TypeInfo) (z : Value) (ht : P.underlying t = some (.slice e)) (hi : P.info? e = some i) (hz : i.zero = some z)
    (kl kc : IntKind) (n c : Nat) (hnc : n ≤ c) (hbytes : i.bytes * c ≤ 281474976710656) (h63 : c ≤ 9223372036854775807) (w : World) :
    (Instr.makeSlice t (.int kl (n : Int)) (.int kc (c : Int))).run P w = .ok (.slice (some ⟨w.heap.size, 0, none⟩) n c) (w.alloc (.cells (madeCells z.cells (c * i.size)) e)) := by
  have hb : (i.bytes : Int) * (c : Int) ≤ 281474976710656 := by
    have h : ((i.bytes * c : Nat) : Int) ≤ 281474976710656 := by omega
    rwa [Int.natCast_mul] at h
  have hr := run_make (P := P) w t e i z ht hi hz kl kc n c (by omega) (by omega) hb (by omega)
  simp only [Int.toNat_natCast] at hr
  exact hr

def cnum (seen : List Int) (z : Int) : Int := -((seen.idxOf z : Nat) : Int) - 1
def addSeen (seen : List Int) (z : Int) : List Int := if 0 ≤ z then seen else if seen.contains z then seen else seen ++ [z]
def ren1 (seen : List Int) (z : Int) : Int := if 0 ≤ z then z else cnum (addSeen seen z) z
def canonL : List Int → List Int → List Int
  | _, [] => []
  | seen, z :: r => ren1 seen z :: canonL (addSeen seen z) r
def canon (zs : List Int) : List Int := canonL [] zs
def seenTo (zs : List Int) (k : Nat) : List Int := (zs.take k).foldl addSeen []
theorem canonL_length : ∀ (zs seen : List Int), (canonL seen zs).length = zs.length
  | [], _ => rfl
  | z :: r, seen => by simp [canonL, canonL_length r]
theorem canonL_get : ∀ (zs seen : List Int) (k : Nat) (h : k < zs.length), (canonL seen zs)[k]? = some (ren1 ((zs.take k).foldl addSeen seen) zs[k])
  | [], _, k, h => by simp at h
  | z :: r, seen, 0, h => by simp [canonL]
  | z :: r, seen, k + 1, h => by
    simp only [canonL, List.getElem?_cons_succ, List.take_succ_cons, List.foldl_cons, List.getElem_cons_succ]
    exact canonL_get r _ k (by simpa using h)
theorem canon_length (zs : List Int) : (canon zs).length = zs.length := canonL_length _ _
theorem canon_get (zs : List Int) {k : Nat} (h : k < zs.length) : (canon zs)[k]? = some (ren1 (seenTo zs k) zs[k]) := canonL_get zs [] k h
theorem seenTo_succ {zs : List Int} {k : Nat} (h : k < zs.length) : seenTo zs (k + 1) = addSeen (seenTo zs k) zs[k] := by
  unfold seenTo
  rw [List.take_succ_eq_append_getElem h, List.foldl_append]
  rfl
theorem addSeen_le (seen : List Int) (z : Int) : (addSeen seen z).length ≤ seen.length + 1 := by
  unfold addSeen; split
  · omega
  · split
    · omega
    · simp
theorem seenTo_le (zs : List Int) : ∀ (k : Nat), (seenTo zs k).length ≤ k
  | 0 => by simp [seenTo]
  | k + 1 => by
    by_cases h : k < zs.length
    · rw [seenTo_succ h]
      have h1 := addSeen_le (seenTo zs k) zs[k]
      have h2 := seenTo_le zs k
      omega
    · have e : seenTo zs (k + 1) = seenTo zs k := by
        unfold seenTo
        rw [List.take_of_length_le (by omega), List.take_of_length_le (by omega)]
      have h2 := seenTo_le zs k
      rw [e]; omega

/-- The cells of the new slice when k numbers have been written. -/
def rcells (zs : List Int) (k : Nat) : Array Value := (((canon zs).take k).map (Value.int .i64) ++ List.replicate (zs.length - k) (Value.int .i64 0)).toArray
theorem rcells_at {zs : List Int} {k : Nat} (h : k < zs.length) : (rcells zs k)[k]? = some (.int .i64 0) := by
  unfold rcells
  have e : (((canon zs).take k).map (Value.int .i64)).length = k := by
    rw [List.length_map, List.length_take, canon_length]; omega
  rw [List.getElem?_toArray, List.getElem?_append_right (by omega), e, Nat.sub_self, List.getElem?_replicate]
  rw [if_pos (by omega)]
theorem rcells_set {zs : List Int} {k : Nat} (h : k < zs.length) {v : Int} (hv : ren1 (seenTo zs k) zs[k] = v) : (rcells zs k).setIfInBounds k (.int .i64 v) = rcells zs (k + 1) := by
  unfold rcells
  have hk : k < (canon zs).length := by rw [canon_length]; exact h
  have e : (((canon zs).take k).map (Value.int .i64)).length = k := by
    rw [List.length_map, List.length_take]; omega
  have hg : (canon zs)[k] = v := by
    have := canon_get zs h
    rw [List.getElem?_eq_getElem hk, hv] at this
    exact Option.some.inj this
  rw [List.setIfInBounds_toArray, List.set_append_right _ _ (by omega), e, Nat.sub_self, List.take_succ_eq_append_getElem hk, List.map_append, hg]
  rw [show zs.length - k = (zs.length - (k + 1)) + 1 from by omega, List.replicate_succ]
  simp
theorem rcells_zero (zs : List Int) : rcells zs 0 = madeCells #[.int .i64 0] (zs.length * 1) := by
  unfold rcells madeCells
  apply Array.ext
  · simp
  · intro i h1 h2
    simp [Nat.mod_one]
theorem rcells_all {zs : List Int} : rcells zs zs.length = ((canon zs).map (Value.int .i64)).toArray := by
  unfold rcells
  rw [List.take_of_length_le (by rw [canon_length]; omega), Nat.sub_self]
  simp

/-- Block b is a map in which just the numbers of 'seen' stand, each with the number of its place. -/
def Numb (w : World) (b n : Nat) (seen : List Int) : Prop :=
  ∃ D : DataW Unit, w.ownsMap Try.prog 3 (plainElem Try.prog 3) b n D ∧ Maps.Tidy D ∧ Maps.size D = seen.length ∧
    (∀ z : Int, Maps.has D (.int .i64 z) = seen.contains z) ∧ ∀ z : Int, seen.contains z = true → D.atKey (.int .i64 z) (.lit (.int .i64 0)) = .lit (.int .i64 (cnum seen z))

theorem Numb.made (w : World) : Numb (w.alloc (.map #[] 0)) w.heap.size 0 [] :=
  ⟨.map [], World.ownsMap_made _ _ _ _, Maps.tidy_empty, rfl, fun _ => rfl, fun z h => by simp at h⟩
theorem Numb.setCell {w : World} {b n : Nat} {l : List Int} (h : Numb w b n l) {a : Addr} (ha : b ≠ a.block) (u : Value) : Numb (w.setCell a u) b n l := by
  obtain ⟨D, h1, h2⟩ := h
  exact ⟨D, h1.setCell ha u, h2⟩
theorem Numb.lt {w : World} {b n : Nat} {l : List Int} (h : Numb w b n l) : b < w.heap.size := by
  obtain ⟨D, h1, h2⟩ := h
  exact h1.lt
theorem Numb.mono {w : World} {b n n' : Nat} {l : List Int} (h : Numb w b n l) (hn : n ≤ n') : Numb w b n' l := by
  obtain ⟨D, h1, h2⟩ := h
  exact ⟨D, h1.mono hn, h2⟩

theorem zeroInt (w : World) : (zeroValue 3).run Try.prog w = .ok (.int .i64 0) w := by kernel_rfl
theorem Numb.look_ok {w : World} {b n : Nat} {l : List Int} (h : Numb w b n l) (z : Int) (hz : (Lit.int .i64 z).wf = true) :
    ∃ c : Int, (Instr.lookup 114 (.map (some b)) (.int .i64 z) true).run Try.prog w = .ok (.tuple #[.int .i64 c, .bool (l.contains z)]) w := by
  obtain ⟨D, h1, h2, h3, h4, h5⟩ := h
  obtain ⟨v, ps, hrun, hv⟩ := h1.look_ok (Maps.int_keyed Try.underlying3) Try.underlying114 (zeroInt w) (plainElem_int Try.underlying3 (by decide)) (key := .int .i64 z) (Maps.keyOf_int_mk Try.underlying3 hz)
  obtain ⟨c, rfl, _, _⟩ := plainElem_int_inv Try.underlying3 hv
  exact ⟨c, by rw [hrun, h4]⟩
theorem Numb.look {w : World} {b n : Nat} {l : List Int} (h : Numb w b n l) (z : Int) (hz : (Lit.int .i64 z).wf = true) (hc : l.contains z = true) :
    (Instr.lookup 114 (.map (some b)) (.int .i64 z) false).run Try.prog w = .ok (.int .i64 (cnum l z)) w := by
  obtain ⟨D, h1, h2, h3, h4, h5⟩ := h
  obtain ⟨c, hrun, hat, _⟩ := h1.lookup_int (Maps.int_keyed Try.underlying3) Try.underlying114 Try.underlying3 (zeroInt w) (key := .int .i64 z) (Maps.keyOf_int_mk Try.underlying3 hz)
  rw [h5 z hc] at hat
  have e : cnum l z = c := by simpa using hat
  rw [hrun, e]
theorem Numb.len {w : World} {b n : Nat} {l : List Int} (h : Numb w b n l) (ty : TypeId) : (Builtin.len_ #[114] ty #[.map (some b)]).run Try.prog w = .ok (.int .i64 l.length) w := by
  obtain ⟨D, h1, h2, h3, h4, h5⟩ := h
  have := h1.len Try.underlying114 ty
  rw [h3] at this
  exact this
theorem Numb.update {w : World} {b n : Nat} {l : List Int} (h : Numb w b n l) (z : Int) (hz : (Lit.int .i64 z).wf = true) (hc : l.contains z = false) (hn : n < maxLen) (v : Int) (hv : v = -(l.length : Int) - 1) (hvw : (Lit.int .i64 v).wf = true) :
    ∃ w', (Instr.mapUpdate 114 (.map (some b)) (.int .i64 z) (.int .i64 v)).run Try.prog w = .ok () w' ∧ Numb w' b (n + 1) (l ++ [z]) ∧ w.grownBy w' (some b) := by
  obtain ⟨D, h1, h2, h3, h4, h5⟩ := h
  obtain ⟨w', hrun, hown, hg⟩ := h1.update (Maps.int_keyed Try.underlying3) Try.underlying114 hn (key := .int .i64 z) (val := .int .i64 v) (Maps.keyOf_int_mk Try.underlying3 hz) (plainElem_int Try.underlying3 hvw)
  have hk : WideAt.IsKeyLit (Lit.int .i64 z) := by trivial
  have hnc : z ∉ l := by simpa using hc
  refine ⟨w', hrun, ⟨_, hown, h2.put hk _, ?_, ?_, ?_⟩, hg⟩
  · rw [Maps.size_put h2, h4, hc]; simp [h3]
  · intro y
    by_cases e : y = z
    · subst e; rw [Maps.has_put_same h2.isMap hk]; simp
    · rw [Maps.has_put_other (by simpa using e), h4]; simp [e]
  · intro y hy
    by_cases e : y = z
    · subst e
      rw [Maps.atKey_put_same h2.isMap hk, hv]
      unfold cnum
      rw [List.idxOf_append, if_neg hnc]
      simp
    · have hyl : l.contains y = true := by simpa [e] using hy
      rw [Maps.atKey_put_other (by simpa using e), h5 y hyl]
      unfold cnum
      rw [List.idxOf_append, if_pos (by simpa using hyl)]

end Go.Proofs.Ytojofbmpknpggaa

/- Contracts: renamed, Canonical. -/
namespace Go.Proofs.Ytojofbmpknpggaa
open Go.RowKit

theorem info_int : (Try.prog.info? 3).map (fun i => (i.zero, i.size, i.bytes)) = some (some (.int .i64 0), 1, 8) := by kernel_rfl

theorem wf_small {z : Int} (h1 : -1000000 ≤ z) (h2 : z ≤ 1000000) : (Lit.int .i64 z).wf = true := by
  have e1 : IntKind.i64.min = -9223372036854775808 := by decide
  have e2 : IntKind.i64.max = 9223372036854775807 := by decide
  simp only [Lit.wf, e1, e2, Bool.and_eq_true, decide_eq_true_eq]
  omega

set_option maxRecDepth 100000 in
set_option maxHeartbeats 1000000 in
theorem renamed_any (At : Option Addr) (nt ct : Nat) (zs : List Int) (w : World) (ht : IntsAt w w.heap.size At nt zs) (h1 : 1 ≤ nt) (h2 : nt ≤ 60) (hb : ∀ z ∈ zs, -1000000 ≤ z ∧ z ≤ 1000000) :
    Calls Try.prog 78 #[.slice At nt ct] w fun e w' => e = .returned (.slice (some ⟨w.heap.size, 0, none⟩) nt nt) ∧ Below w.heap.size w w' ∧ Blk w' w.heap.size 3 ((canon zs).map (Value.int .i64)).toArray := by
  obtain ⟨i0, hi, hz0, hz1, hz2⟩ := info_parts info_int
  obtain ⟨bt, offt, rfl, hbt, htc⟩ := ht.mem (by omega)
  have hlen := ht.len
  have hmk : ∀ W : World, (Instr.makeSlice 45 (.int .i64 (nt : Int)) (.int .i64 (nt : Int))).run Try.prog W = .ok (.slice (some ⟨W.heap.size, 0, none⟩) nt nt) (W.alloc (.cells (rcells zs 0) 3)) := by
    intro W
    rw [rcells_zero, ← hlen]
    have := run_make_rowN (P := Try.prog) 45 3 i0 _ Try.underlying45 hi hz0 .i64 .i64 nt nt (Nat.le_refl _) (by rw [hz2]; omega) (by omega) W
    rw [hz1] at this
    exact this
  have hmm := @run_makeMap Try.prog
  have HL := Lib.hid hlen
  clear ht hi hz0 hz1 hz2 hlen
  go_enter Try.func78, Try.ntmps78
  go_wp2
  clear hmk hmm
  go_loopw [15] (fun c wr => ∃ k : Nat, k ≤ nt ∧ c = .int .i64 k ∧ Blk wr w.heap.size 3 (rcells zs k) ∧ Numb wr (w.heap.size + 1) k (seenTo zs k) ∧ Below w.heap.size w wr) (fun c _ => nt - (intOf c).toNat)
  case atStart =>
    refine ⟨0, Nat.zero_le _, rfl, (Blk.new _ _ _).alloc _, ?_, ((Below.refl _ _).alloc (Nat.le_refl _) _).alloc (by simp) _⟩
    have := Numb.made (w.alloc (.cells (rcells zs 0) 3))
    simpa [seenTo] using this
  case round =>
    obtain ⟨k, hk, rfl, hF, hM, hB⟩ := hrel
    by_cases hlt : k < nt
    · have hk' : k < zs.length := by have := HL.out; omega
      have hc := (hB.cell (p := ⟨bt, offt + k, none⟩) hbt).trans (htc k hk')
      obtain ⟨hz1, hz2⟩ := hb _ (List.getElem_mem hk')
      have hset := fun v => rcells_set (v := v) hk'
      have hseen := seenTo_succ hk'
      have hsl := seenTo_le zs k
      have hcF := (hF.cell k).trans (rcells_at hk')
      have hfF := hF.frozen k
      obtain ⟨z, hz⟩ : ∃ z, zs[k] = z := ⟨_, rfl⟩
      rw [hz] at hc hz1 hz2 hset hseen
      have hwf := wf_small hz1 hz2
      have hFs := fun u => hF.set_ k u
      have hMs := fun u => hM.setCell (a := ⟨w.heap.size, k, none⟩) (by simp) u
      have hBs := fun u => hB.setCell (p := ⟨w.heap.size, k, none⟩) (Nat.le_refl _) u
      clear hz
      by_cases hpos : 0 ≤ z
      · have H1 := Lib.hid (hset z (by simp [ren1, hpos]))
        have H2 := Lib.hid (show seenTo zs (k + 1) = seenTo zs k by rw [hseen]; simp [addSeen, hpos])
        have HFs := Lib.hid (hFs (.int .i64 z))
        have HMs := Lib.hid (hMs (.int .i64 z))
        have HBs := Lib.hid (hBs (.int .i64 z))
        clear hset hseen hFs hMs hBs hb htc hF hM hB
        go_wp2
        go_roundw
        case rel => exact ⟨k + 1, by omega, by go_num, by rw [← H1.out]; exact HFs.out, by rw [H2.out]; exact HMs.out.mono (by omega), HBs.out⟩
        case measure => simp [intOf]; omega
      · have hneg : z < 0 := by omega
        clear hpos
        cases hcon : (seenTo zs k).contains z
        · have hadd : addSeen (seenTo zs k) z = seenTo zs k ++ [z] := by simp [addSeen, show ¬ 0 ≤ z from by omega]; simpa using hcon
          obtain ⟨c, hlk⟩ := hM.look_ok z hwf
          have hln := hM.len
          have hup := hM.update z hwf hcon (by unfold maxLen; omega) (-((seenTo zs k).length : Int) - 1) rfl (wf_small (by omega) (by omega))
          rw [hcon] at hlk
          have hcn : cnum (seenTo zs k ++ [z]) z = -((seenTo zs k).length : Int) - 1 := by
            unfold cnum
            rw [List.idxOf_append, if_neg (by simpa using hcon)]
            simp
          have H1 := Lib.hid (hset (cnum (seenTo zs k ++ [z]) z) (by simp [ren1, show ¬ 0 ≤ z from by omega, hadd]))
          rw [hcn] at H1
          rw [hadd, ] at hseen
          obtain ⟨s, hs⟩ : ∃ s, (seenTo zs k).length = s := ⟨_, rfl⟩
          rw [hs] at hln hup H1 hsl hcn
          obtain ⟨w3, hup, hM3, hg3⟩ := hup
          have hlk3 := hM3.look z hwf (by simp)
          rw [hcn] at hlk3
          have hF3 := hF.grown hg3 (by simp)
          have hB3 := hB.grown hg3 hB.size (fun j e => by cases e; omega)
          have hcF3 := (hF3.cell k).trans (rcells_at hk')
          have hfF3 := hF3.frozen k
          have HFs := Lib.hid (hF3.set_ k (.int .i64 (-(s : Int) - 1)))
          have HMs := Lib.hid (hM3.setCell (a := ⟨w.heap.size, k, none⟩) (by simp) (.int .i64 (-(s : Int) - 1)))
          have HBs := Lib.hid (hB3.setCell (p := ⟨w.heap.size, k, none⟩) (Nat.le_refl _) (.int .i64 (-(s : Int) - 1)))
          have H2 := Lib.hid hseen
          clear hset hseen hFs hMs hBs hb htc hF hM hB hF3 hM3 hB3 hg3 hadd hcon hs hcn
          go_wp2
          go_roundw
          case rel => exact ⟨k + 1, by omega, by go_num, by rw [← H1.out]; exact HFs.out, by rw [H2.out]; exact HMs.out, HBs.out⟩
          case measure => simp [intOf]; omega
        · have hadd : addSeen (seenTo zs k) z = seenTo zs k := by simp [addSeen, show ¬ 0 ≤ z from by omega]; simpa using hcon
          obtain ⟨c, hlk⟩ := hM.look_ok z hwf
          have hlk3 := hM.look z hwf hcon
          rw [hcon] at hlk
          have H1 := Lib.hid (hset (cnum (seenTo zs k) z) (by simp [ren1, show ¬ 0 ≤ z from by omega, hadd]))
          rw [hadd] at hseen
          obtain ⟨v, hv⟩ : ∃ v, cnum (seenTo zs k) z = v := ⟨_, rfl⟩
          rw [hv] at hlk3 H1
          have HFs := Lib.hid (hFs (.int .i64 v))
          have HMs := Lib.hid (hMs (.int .i64 v))
          have HBs := Lib.hid (hBs (.int .i64 v))
          have H2 := Lib.hid hseen
          clear hset hseen hFs hMs hBs hb htc hF hM hB hadd hcon hv
          go_wp2
          go_roundw
          case rel => exact ⟨k + 1, by omega, by go_num, by rw [← H1.out]; exact HFs.out, by rw [H2.out]; exact HMs.out.mono (by omega), HBs.out⟩
          case measure => simp [intOf]; omega
    · obtain rfl : k = nt := by omega
      have H := Lib.hid hF
      have HB := Lib.hid hB
      clear hF hM
      go_wp2
      go_ret
      exact ⟨rfl, HB.out, by have := H.out; rw [HL.out, rcells_all] at this; exact this⟩

end Go.Proofs.Ytojofbmpknpggaa

/- Contract: Canonical. -/
namespace Go.Proofs.Ytojofbmpknpggaa
open Go.RowKit

theorem IntsAt.of_blk {w : World} {b : Nat} {t : TypeId} {zs : List Int} {n : Nat} (h : Blk w b t (zs.map (Value.int .i64)).toArray) (hn : n = zs.length) (hm : zs.length ≤ 1000000) : IntsAt w w.heap.size (some ⟨b, 0, none⟩) n zs :=
  ⟨hn, by omega, fun _ => ⟨b, 0, rfl, h.lt, fun j hj => by
    rw [h.cell]
    simp [hj]⟩⟩
theorem IntsAt.nil (w : World) (B _c : Nat) : IntsAt w B none 0 [] := ⟨rfl, by omega, fun h => absurd h (by omega)⟩

/-- A slice of ints and an error are returned. -/
def RetT (w : World) (zs : List Int) (er : Int) (e : Ending) (w' : World) : Prop :=
  ∃ A n c, e = .returned (.tuple #[.slice A n c, .int .i64 er]) ∧ IntsAt w' w'.heap.size A n zs ∧ Below w.heap.size w w'

theorem valOk_term {ss : Sg} {zs : List Int} (h : valOk ss zs = true) : 1 ≤ zs.length ∧ zs.length ≤ 60 ∧ (∀ z ∈ zs, -12 ≤ z ∧ z < (ss.length : Int)) ∧ scan ss 1 zs = some [] := by
  simp only [valOk, termOk, Bool.and_eq_true, decide_eq_true_eq, List.all_eq_true, numOk] at h
  exact ⟨h.2.1, h.2.2.1, h.2.2.2.1, h.2.2.2.2⟩
theorem valOk_sig {ss : Sg} {zs : List Int} (h : valOk ss zs = true) : sigOk ss = true := by
  simp only [valOk, Bool.and_eq_true] at h
  exact h.1

end Go.Proofs.Ytojofbmpknpggaa

namespace Go.Proofs.Ytojofbmpknpggaa
open Go.RowKit

def iotaN (n : Nat) : List Int := (List.range n).map fun i => -((i : Nat) : Int) - 1
theorem iotaN_length (n : Nat) : (iotaN n).length = n := by simp [iotaN]
theorem iotaN_mem {n : Nat} {y : Int} : y ∈ iotaN n ↔ ∃ i : Nat, i < n ∧ y = -(i : Int) - 1 := by
  unfold iotaN
  rw [List.mem_map]
  constructor
  · rintro ⟨i, hi, rfl⟩; exact ⟨i, by simpa using hi, rfl⟩
  · rintro ⟨i, hi, rfl⟩; exact ⟨i, by simpa using hi, rfl⟩
end Go.Proofs.Ytojofbmpknpggaa
