/-
  No cell of these rows narrows 'for every input' (looked for: loops, veiled, ifaces, maps, wideKeys, modest, calm, conditions, laid).
  DERIVED. THE GIVEN ROWS OF THIS SEAT. 13 by the template 'for every input the law returns true; each argument reads behind the call as it read before'; 0 by the template 'total and deterministic' (their statements: YtippmpcaongolaaTotals.lean).
  GIVEN WITH THE SEED: the statements are not yours to turn. If you find one false, say at which input.
  Laid BY PROGRAM, IN A SANDBOX (cutbox-rows.mjs): the forced cells as the released guide's own fill.sh prints them over the translation 26c45f60ffae02cf… (all of the seat's roots in one cut). By AI agents, Wed Nov 11 2026. No macro, syntax, notation, axiom, sorry.
-/
import Derived.Test.YtippmpcaongolaaChecked
import GoSem.Claim
import GoSem.ClaimJoined
import GoSem.ClaimMapViews
import Derived.JoinedTies
import Derived.KernelRfl
namespace Go.Proofs.Ytippmpcaongolaa
/- THE CELL 'sum', in the pinned program and in every row, IS THE sha256 OF THE DUMP (.gsa) THAT YtippmpcaongolaaProg.lean LOADS. Nothing in Lean hashes anything: it is a label: what it is worth is what the hold of that sum in a sandbox is worth. -/
noncomputable def Try.pinned : Pinned := { name := "ytippmpcaongolaa", sum := "26c45f60ffae02cf7c0788943d9076ba6676399ab1629e1f51f1ebbb8e926b8f", checked := Try.checked }
namespace Rows
def none {H : Type} : Left H := { results := [], args := [] }

/-- 'lemmarylaw02.UnifyMatches': WHATEVER THE INPUT: true; the input reads as it did. -/
def unifyMatchesSpec : ChangeSpec := { name := "unifyMatches", fn := fun _ => fun
  | [d1, d2, d3] => { results := [.lit (.bool true)], args := [d1, d2, d3] }
  | _ => none }
def unifyMatchesRow : OpenClaim := { program := "ytippmpcaongolaa", sum := "26c45f60ffae02cf7c0788943d9076ba6676399ab1629e1f51f1ebbb8e926b8f", func := "lemmary/lemmarylaw02.UnifyMatches", spec := "unifyMatches", unfollowed := true, recurses := true, plainKeys := false, apart := false }
def UnifyMatchesSaid : Prop := unifyMatchesRow.holds Try.pinned (OpenSpec.ofChange unifyMatchesSpec)

/-- ITS FALSE NEIGHBOUR: 'it returns false'. Refute it at one input. -/
def unifyMatchesWrong : ChangeSpec := { name := "unifyMatches", fn := fun _ => fun
  | [d1, d2, d3] => { results := [.lit (.bool false)], args := [d1, d2, d3] }
  | _ => none }
def UnifyMatchesWrongFalsely : Prop := unifyMatchesRow.holds Try.pinned (OpenSpec.ofChange unifyMatchesWrong)

/-- 'lemmarylaw02.UnifyGeneral': WHATEVER THE INPUT: true; the input reads as it did. -/
def unifyGeneralSpec : ChangeSpec := { name := "unifyGeneral", fn := fun _ => fun
  | [d1, d2] => { results := [.lit (.bool true)], args := [d1, d2] }
  | _ => none }
def unifyGeneralRow : OpenClaim := { program := "ytippmpcaongolaa", sum := "26c45f60ffae02cf7c0788943d9076ba6676399ab1629e1f51f1ebbb8e926b8f", func := "lemmary/lemmarylaw02.UnifyGeneral", spec := "unifyGeneral", unfollowed := true, recurses := true, plainKeys := false, apart := false }
def UnifyGeneralSaid : Prop := unifyGeneralRow.holds Try.pinned (OpenSpec.ofChange unifyGeneralSpec)

/-- ITS FALSE NEIGHBOUR: 'it returns false'. Refute it at one input. -/
def unifyGeneralWrong : ChangeSpec := { name := "unifyGeneral", fn := fun _ => fun
  | [d1, d2] => { results := [.lit (.bool false)], args := [d1, d2] }
  | _ => none }
def UnifyGeneralWrongFalsely : Prop := unifyGeneralRow.holds Try.pinned (OpenSpec.ofChange unifyGeneralWrong)

/-- 'lemmarylaw02.UnifyMeets': WHATEVER THE INPUT: true; the input reads as it did. -/
def unifyMeetsSpec : ChangeSpec := { name := "unifyMeets", fn := fun _ => fun
  | [d1, d2, d3] => { results := [.lit (.bool true)], args := [d1, d2, d3] }
  | _ => none }
def unifyMeetsRow : OpenClaim := { program := "ytippmpcaongolaa", sum := "26c45f60ffae02cf7c0788943d9076ba6676399ab1629e1f51f1ebbb8e926b8f", func := "lemmary/lemmarylaw02.UnifyMeets", spec := "unifyMeets", unfollowed := true, recurses := true, plainKeys := false, apart := false }
def UnifyMeetsSaid : Prop := unifyMeetsRow.holds Try.pinned (OpenSpec.ofChange unifyMeetsSpec)

/-- ITS FALSE NEIGHBOUR: 'it returns false'. Refute it at one input. -/
def unifyMeetsWrong : ChangeSpec := { name := "unifyMeets", fn := fun _ => fun
  | [d1, d2, d3] => { results := [.lit (.bool false)], args := [d1, d2, d3] }
  | _ => none }
def UnifyMeetsWrongFalsely : Prop := unifyMeetsRow.holds Try.pinned (OpenSpec.ofChange unifyMeetsWrong)

/-- 'lemmarylaw04.KernelDetaches': WHATEVER THE INPUT: true; the input reads as it did. -/
def kernelDetachesSpec : ChangeSpec := { name := "kernelDetaches", fn := fun _ => fun
  | [d1, d2, d3] => { results := [.lit (.bool true)], args := [d1, d2, d3] }
  | _ => none }
def kernelDetachesRow : OpenClaim := { program := "ytippmpcaongolaa", sum := "26c45f60ffae02cf7c0788943d9076ba6676399ab1629e1f51f1ebbb8e926b8f", func := "lemmary/lemmarylaw04.KernelDetaches", spec := "kernelDetaches", unfollowed := true, recurses := true, plainKeys := false, apart := false }
def KernelDetachesSaid : Prop := kernelDetachesRow.holds Try.pinned (OpenSpec.ofChange kernelDetachesSpec)

/-- ITS FALSE NEIGHBOUR: 'it returns false'. Refute it at one input. -/
def kernelDetachesWrong : ChangeSpec := { name := "kernelDetaches", fn := fun _ => fun
  | [d1, d2, d3] => { results := [.lit (.bool false)], args := [d1, d2, d3] }
  | _ => none }
def KernelDetachesWrongFalsely : Prop := kernelDetachesRow.holds Try.pinned (OpenSpec.ofChange kernelDetachesWrong)

/-- 'lemmarylaw04.KernelGeneral': WHATEVER THE INPUT: true; the input reads as it did. -/
def kernelGeneralSpec : ChangeSpec := { name := "kernelGeneral", fn := fun _ => fun
  | [d1, d2] => { results := [.lit (.bool true)], args := [d1, d2] }
  | _ => none }
def kernelGeneralRow : OpenClaim := { program := "ytippmpcaongolaa", sum := "26c45f60ffae02cf7c0788943d9076ba6676399ab1629e1f51f1ebbb8e926b8f", func := "lemmary/lemmarylaw04.KernelGeneral", spec := "kernelGeneral", unfollowed := true, recurses := true, plainKeys := false, apart := false }
def KernelGeneralSaid : Prop := kernelGeneralRow.holds Try.pinned (OpenSpec.ofChange kernelGeneralSpec)

/-- ITS FALSE NEIGHBOUR: 'it returns false'. Refute it at one input. -/
def kernelGeneralWrong : ChangeSpec := { name := "kernelGeneral", fn := fun _ => fun
  | [d1, d2] => { results := [.lit (.bool false)], args := [d1, d2] }
  | _ => none }
def KernelGeneralWrongFalsely : Prop := kernelGeneralRow.holds Try.pinned (OpenSpec.ofChange kernelGeneralWrong)

/-- 'lemmarylaw04.KernelRuns': WHATEVER THE INPUT: true; the input reads as it did. -/
def kernelRunsSpec : ChangeSpec := { name := "kernelRuns", fn := fun _ => fun
  | [d1, d2, d3] => { results := [.lit (.bool true)], args := [d1, d2, d3] }
  | _ => none }
def kernelRunsRow : OpenClaim := { program := "ytippmpcaongolaa", sum := "26c45f60ffae02cf7c0788943d9076ba6676399ab1629e1f51f1ebbb8e926b8f", func := "lemmary/lemmarylaw04.KernelRuns", spec := "kernelRuns", unfollowed := true, recurses := true, plainKeys := false, apart := false }
def KernelRunsSaid : Prop := kernelRunsRow.holds Try.pinned (OpenSpec.ofChange kernelRunsSpec)

/-- ITS FALSE NEIGHBOUR: 'it returns false'. Refute it at one input. -/
def kernelRunsWrong : ChangeSpec := { name := "kernelRuns", fn := fun _ => fun
  | [d1, d2, d3] => { results := [.lit (.bool false)], args := [d1, d2, d3] }
  | _ => none }
def KernelRunsWrongFalsely : Prop := kernelRunsRow.holds Try.pinned (OpenSpec.ofChange kernelRunsWrong)

/-- 'lemmarylaw04.KernelTrees': WHATEVER THE INPUT: true; the input reads as it did. -/
def kernelTreesSpec : ChangeSpec := { name := "kernelTrees", fn := fun _ => fun
  | [d1, d2] => { results := [.lit (.bool true)], args := [d1, d2] }
  | _ => none }
def kernelTreesRow : OpenClaim := { program := "ytippmpcaongolaa", sum := "26c45f60ffae02cf7c0788943d9076ba6676399ab1629e1f51f1ebbb8e926b8f", func := "lemmary/lemmarylaw04.KernelTrees", spec := "kernelTrees", inPlace := ["internal/abi.NoEscape"], unfollowed := true, recurses := true, plainKeys := false, apart := false }
def KernelTreesSaid : Prop := kernelTreesRow.holds Try.pinned (OpenSpec.ofChange kernelTreesSpec)

/-- ITS FALSE NEIGHBOUR: 'it returns false'. Refute it at one input. -/
def kernelTreesWrong : ChangeSpec := { name := "kernelTrees", fn := fun _ => fun
  | [d1, d2] => { results := [.lit (.bool false)], args := [d1, d2] }
  | _ => none }
def KernelTreesWrongFalsely : Prop := kernelTreesRow.holds Try.pinned (OpenSpec.ofChange kernelTreesWrong)

/-- 'lemmarylaw04.KernelUntrees': WHATEVER THE INPUT: true; the input reads as it did. -/
def kernelUntreesSpec : ChangeSpec := { name := "kernelUntrees", fn := fun _ => fun
  | [d1, d2] => { results := [.lit (.bool true)], args := [d1, d2] }
  | _ => none }
def kernelUntreesRow : OpenClaim := { program := "ytippmpcaongolaa", sum := "26c45f60ffae02cf7c0788943d9076ba6676399ab1629e1f51f1ebbb8e926b8f", func := "lemmary/lemmarylaw04.KernelUntrees", spec := "kernelUntrees", inPlace := ["internal/abi.NoEscape"], unfollowed := true, recurses := true, plainKeys := false, apart := false }
def KernelUntreesSaid : Prop := kernelUntreesRow.holds Try.pinned (OpenSpec.ofChange kernelUntreesSpec)

/-- ITS FALSE NEIGHBOUR: 'it returns false'. Refute it at one input. -/
def kernelUntreesWrong : ChangeSpec := { name := "kernelUntrees", fn := fun _ => fun
  | [d1, d2] => { results := [.lit (.bool false)], args := [d1, d2] }
  | _ => none }
def KernelUntreesWrongFalsely : Prop := kernelUntreesRow.holds Try.pinned (OpenSpec.ofChange kernelUntreesWrong)

/-- 'lemmarylaw04.KernelShares': WHATEVER THE INPUT: true; the input reads as it did. -/
def kernelSharesSpec : ChangeSpec := { name := "kernelShares", fn := fun _ => fun
  | [d1, d2, d3] => { results := [.lit (.bool true)], args := [d1, d2, d3] }
  | _ => none }
def kernelSharesRow : OpenClaim := { program := "ytippmpcaongolaa", sum := "26c45f60ffae02cf7c0788943d9076ba6676399ab1629e1f51f1ebbb8e926b8f", func := "lemmary/lemmarylaw04.KernelShares", spec := "kernelShares", inPlace := ["internal/abi.NoEscape"], unfollowed := true, recurses := true, plainKeys := false, apart := false }
def KernelSharesSaid : Prop := kernelSharesRow.holds Try.pinned (OpenSpec.ofChange kernelSharesSpec)

/-- ITS FALSE NEIGHBOUR: 'it returns false'. Refute it at one input. -/
def kernelSharesWrong : ChangeSpec := { name := "kernelShares", fn := fun _ => fun
  | [d1, d2, d3] => { results := [.lit (.bool false)], args := [d1, d2, d3] }
  | _ => none }
def KernelSharesWrongFalsely : Prop := kernelSharesRow.holds Try.pinned (OpenSpec.ofChange kernelSharesWrong)

/-- 'lemmarylaw04.KernelJoins': WHATEVER THE INPUT: true; the input reads as it did. -/
def kernelJoinsSpec : ChangeSpec := { name := "kernelJoins", fn := fun _ => fun
  | [d1, d2, d3] => { results := [.lit (.bool true)], args := [d1, d2, d3] }
  | _ => none }
def kernelJoinsRow : OpenClaim := { program := "ytippmpcaongolaa", sum := "26c45f60ffae02cf7c0788943d9076ba6676399ab1629e1f51f1ebbb8e926b8f", func := "lemmary/lemmarylaw04.KernelJoins", spec := "kernelJoins", unfollowed := true, recurses := true, plainKeys := false, apart := false }
def KernelJoinsSaid : Prop := kernelJoinsRow.holds Try.pinned (OpenSpec.ofChange kernelJoinsSpec)

/-- ITS FALSE NEIGHBOUR: 'it returns false'. Refute it at one input. -/
def kernelJoinsWrong : ChangeSpec := { name := "kernelJoins", fn := fun _ => fun
  | [d1, d2, d3] => { results := [.lit (.bool false)], args := [d1, d2, d3] }
  | _ => none }
def KernelJoinsWrongFalsely : Prop := kernelJoinsRow.holds Try.pinned (OpenSpec.ofChange kernelJoinsWrong)

/-- 'lemmarylaw04.KernelMoves': WHATEVER THE INPUT: true; the input reads as it did. -/
def kernelMovesSpec : ChangeSpec := { name := "kernelMoves", fn := fun _ => fun
  | [d1, d2] => { results := [.lit (.bool true)], args := [d1, d2] }
  | _ => none }
def kernelMovesRow : OpenClaim := { program := "ytippmpcaongolaa", sum := "26c45f60ffae02cf7c0788943d9076ba6676399ab1629e1f51f1ebbb8e926b8f", func := "lemmary/lemmarylaw04.KernelMoves", spec := "kernelMoves", unfollowed := true, recurses := true, plainKeys := false, apart := false }
def KernelMovesSaid : Prop := kernelMovesRow.holds Try.pinned (OpenSpec.ofChange kernelMovesSpec)

/-- ITS FALSE NEIGHBOUR: 'it returns false'. Refute it at one input. -/
def kernelMovesWrong : ChangeSpec := { name := "kernelMoves", fn := fun _ => fun
  | [d1, d2] => { results := [.lit (.bool false)], args := [d1, d2] }
  | _ => none }
def KernelMovesWrongFalsely : Prop := kernelMovesRow.holds Try.pinned (OpenSpec.ofChange kernelMovesWrong)

/-- 'lemmarylaw04.KernelMoved': WHATEVER THE INPUT: true; the input reads as it did. -/
def kernelMovedSpec : ChangeSpec := { name := "kernelMoved", fn := fun _ => fun
  | [d1, d2, d3] => { results := [.lit (.bool true)], args := [d1, d2, d3] }
  | _ => none }
def kernelMovedRow : OpenClaim := { program := "ytippmpcaongolaa", sum := "26c45f60ffae02cf7c0788943d9076ba6676399ab1629e1f51f1ebbb8e926b8f", func := "lemmary/lemmarylaw04.KernelMoved", spec := "kernelMoved", unfollowed := true, recurses := true, plainKeys := false, apart := false }
def KernelMovedSaid : Prop := kernelMovedRow.holds Try.pinned (OpenSpec.ofChange kernelMovedSpec)

/-- ITS FALSE NEIGHBOUR: 'it returns false'. Refute it at one input. -/
def kernelMovedWrong : ChangeSpec := { name := "kernelMoved", fn := fun _ => fun
  | [d1, d2, d3] => { results := [.lit (.bool false)], args := [d1, d2, d3] }
  | _ => none }
def KernelMovedWrongFalsely : Prop := kernelMovedRow.holds Try.pinned (OpenSpec.ofChange kernelMovedWrong)

/-- 'lemmarylaw04.KernelMonotone': WHATEVER THE INPUT: true; the input reads as it did. -/
def kernelMonotoneSpec : ChangeSpec := { name := "kernelMonotone", fn := fun _ => fun
  | [d1, d2, d3] => { results := [.lit (.bool true)], args := [d1, d2, d3] }
  | _ => none }
def kernelMonotoneRow : OpenClaim := { program := "ytippmpcaongolaa", sum := "26c45f60ffae02cf7c0788943d9076ba6676399ab1629e1f51f1ebbb8e926b8f", func := "lemmary/lemmarylaw04.KernelMonotone", spec := "kernelMonotone", unfollowed := true, recurses := true, plainKeys := false, apart := false }
def KernelMonotoneSaid : Prop := kernelMonotoneRow.holds Try.pinned (OpenSpec.ofChange kernelMonotoneSpec)

/-- ITS FALSE NEIGHBOUR: 'it returns false'. Refute it at one input. -/
def kernelMonotoneWrong : ChangeSpec := { name := "kernelMonotone", fn := fun _ => fun
  | [d1, d2, d3] => { results := [.lit (.bool false)], args := [d1, d2, d3] }
  | _ => none }
def KernelMonotoneWrongFalsely : Prop := kernelMonotoneRow.holds Try.pinned (OpenSpec.ofChange kernelMonotoneWrong)

/- THE SECOND FORM. 'bulk': how many values and letters a reading holds, each counted each time it is reached (what is shared counts as often as it is met; a slice's spare places count too). A statement '..UptoSaid' is the law's where the arguments, and the package variables that the reading takes, are together of bulk at most 1048576: NARROWER than '..Said'. Prove '..Said' where nothing that the law and all that it calls make is longer than what came in: it says more and counts as full. Else prove '..UptoSaid'. A law counts once. -/
mutual
def uptoBulk {H : Type} : DataW H → Nat
  | .lit (.string bytes) => bytes.length + 1
  | .lit _ => 1
  | .nil => 1
  | .ptr d => uptoBulk d + 1
  | .slice elems spare => uptoBulkAll elems + uptoBulkAll spare + 1
  | .agg parts => uptoBulkAll parts + 1
  | .iface _ d => uptoBulk d + 1
  | .map entries => uptoBulkEntries entries + 1
  | .held _ => 1
def uptoBulkAll {H : Type} : List (DataW H) → Nat
  | [] => 0
  | d :: r => uptoBulk d + uptoBulkAll r
def uptoBulkEntries {H : Type} : List (Lit × DataW H) → Nat
  | [] => 0
  | x :: r => uptoBulkEntry x + uptoBulkEntries r
def uptoBulkEntry {H : Type} : Lit × DataW H → Nat
  | (.string bytes, d) => bytes.length + uptoBulk d + 1
  | (_, d) => uptoBulk d + 1
 end
def uptoSmall : (H : Type) → List (DataW H) → Bool := fun _ ds => decide (uptoBulkAll ds ≤ 1048576)
def OpenSpec.upto (s : _root_.Go.ChangeSpec) : _root_.Go.OpenSpec := { _root_.Go.OpenSpec.ofChange s with cond := some uptoSmall }

/-- 'lemmarylaw02.UnifyMatches', WHERE WHAT IT READS IS OF BULK AT MOST 1048576: true; the input reads as it did. -/
def unifyMatchesUptoRow : OpenClaim := { program := "ytippmpcaongolaa", sum := "26c45f60ffae02cf7c0788943d9076ba6676399ab1629e1f51f1ebbb8e926b8f", func := "lemmary/lemmarylaw02.UnifyMatches", spec := "unifyMatches", unfollowed := true, recurses := true, plainKeys := false, apart := false, narrowed := true }
def UnifyMatchesUptoSaid : Prop := unifyMatchesUptoRow.holds Try.pinned (OpenSpec.upto unifyMatchesSpec)

/-- 'lemmarylaw02.UnifyGeneral', WHERE WHAT IT READS IS OF BULK AT MOST 1048576: true; the input reads as it did. -/
def unifyGeneralUptoRow : OpenClaim := { program := "ytippmpcaongolaa", sum := "26c45f60ffae02cf7c0788943d9076ba6676399ab1629e1f51f1ebbb8e926b8f", func := "lemmary/lemmarylaw02.UnifyGeneral", spec := "unifyGeneral", unfollowed := true, recurses := true, plainKeys := false, apart := false, narrowed := true }
def UnifyGeneralUptoSaid : Prop := unifyGeneralUptoRow.holds Try.pinned (OpenSpec.upto unifyGeneralSpec)

/-- 'lemmarylaw02.UnifyMeets', WHERE WHAT IT READS IS OF BULK AT MOST 1048576: true; the input reads as it did. -/
def unifyMeetsUptoRow : OpenClaim := { program := "ytippmpcaongolaa", sum := "26c45f60ffae02cf7c0788943d9076ba6676399ab1629e1f51f1ebbb8e926b8f", func := "lemmary/lemmarylaw02.UnifyMeets", spec := "unifyMeets", unfollowed := true, recurses := true, plainKeys := false, apart := false, narrowed := true }
def UnifyMeetsUptoSaid : Prop := unifyMeetsUptoRow.holds Try.pinned (OpenSpec.upto unifyMeetsSpec)

/-- 'lemmarylaw04.KernelDetaches', WHERE WHAT IT READS IS OF BULK AT MOST 1048576: true; the input reads as it did. -/
def kernelDetachesUptoRow : OpenClaim := { program := "ytippmpcaongolaa", sum := "26c45f60ffae02cf7c0788943d9076ba6676399ab1629e1f51f1ebbb8e926b8f", func := "lemmary/lemmarylaw04.KernelDetaches", spec := "kernelDetaches", unfollowed := true, recurses := true, plainKeys := false, apart := false, narrowed := true }
def KernelDetachesUptoSaid : Prop := kernelDetachesUptoRow.holds Try.pinned (OpenSpec.upto kernelDetachesSpec)

/-- 'lemmarylaw04.KernelGeneral', WHERE WHAT IT READS IS OF BULK AT MOST 1048576: true; the input reads as it did. -/
def kernelGeneralUptoRow : OpenClaim := { program := "ytippmpcaongolaa", sum := "26c45f60ffae02cf7c0788943d9076ba6676399ab1629e1f51f1ebbb8e926b8f", func := "lemmary/lemmarylaw04.KernelGeneral", spec := "kernelGeneral", unfollowed := true, recurses := true, plainKeys := false, apart := false, narrowed := true }
def KernelGeneralUptoSaid : Prop := kernelGeneralUptoRow.holds Try.pinned (OpenSpec.upto kernelGeneralSpec)

/-- 'lemmarylaw04.KernelRuns', WHERE WHAT IT READS IS OF BULK AT MOST 1048576: true; the input reads as it did. -/
def kernelRunsUptoRow : OpenClaim := { program := "ytippmpcaongolaa", sum := "26c45f60ffae02cf7c0788943d9076ba6676399ab1629e1f51f1ebbb8e926b8f", func := "lemmary/lemmarylaw04.KernelRuns", spec := "kernelRuns", unfollowed := true, recurses := true, plainKeys := false, apart := false, narrowed := true }
def KernelRunsUptoSaid : Prop := kernelRunsUptoRow.holds Try.pinned (OpenSpec.upto kernelRunsSpec)

/-- 'lemmarylaw04.KernelTrees', WHERE WHAT IT READS IS OF BULK AT MOST 1048576: true; the input reads as it did. -/
def kernelTreesUptoRow : OpenClaim := { program := "ytippmpcaongolaa", sum := "26c45f60ffae02cf7c0788943d9076ba6676399ab1629e1f51f1ebbb8e926b8f", func := "lemmary/lemmarylaw04.KernelTrees", spec := "kernelTrees", inPlace := ["internal/abi.NoEscape"], unfollowed := true, recurses := true, plainKeys := false, apart := false, narrowed := true }
def KernelTreesUptoSaid : Prop := kernelTreesUptoRow.holds Try.pinned (OpenSpec.upto kernelTreesSpec)

/-- 'lemmarylaw04.KernelUntrees', WHERE WHAT IT READS IS OF BULK AT MOST 1048576: true; the input reads as it did. -/
def kernelUntreesUptoRow : OpenClaim := { program := "ytippmpcaongolaa", sum := "26c45f60ffae02cf7c0788943d9076ba6676399ab1629e1f51f1ebbb8e926b8f", func := "lemmary/lemmarylaw04.KernelUntrees", spec := "kernelUntrees", inPlace := ["internal/abi.NoEscape"], unfollowed := true, recurses := true, plainKeys := false, apart := false, narrowed := true }
def KernelUntreesUptoSaid : Prop := kernelUntreesUptoRow.holds Try.pinned (OpenSpec.upto kernelUntreesSpec)

/-- 'lemmarylaw04.KernelShares', WHERE WHAT IT READS IS OF BULK AT MOST 1048576: true; the input reads as it did. -/
def kernelSharesUptoRow : OpenClaim := { program := "ytippmpcaongolaa", sum := "26c45f60ffae02cf7c0788943d9076ba6676399ab1629e1f51f1ebbb8e926b8f", func := "lemmary/lemmarylaw04.KernelShares", spec := "kernelShares", inPlace := ["internal/abi.NoEscape"], unfollowed := true, recurses := true, plainKeys := false, apart := false, narrowed := true }
def KernelSharesUptoSaid : Prop := kernelSharesUptoRow.holds Try.pinned (OpenSpec.upto kernelSharesSpec)

/-- 'lemmarylaw04.KernelJoins', WHERE WHAT IT READS IS OF BULK AT MOST 1048576: true; the input reads as it did. -/
def kernelJoinsUptoRow : OpenClaim := { program := "ytippmpcaongolaa", sum := "26c45f60ffae02cf7c0788943d9076ba6676399ab1629e1f51f1ebbb8e926b8f", func := "lemmary/lemmarylaw04.KernelJoins", spec := "kernelJoins", unfollowed := true, recurses := true, plainKeys := false, apart := false, narrowed := true }
def KernelJoinsUptoSaid : Prop := kernelJoinsUptoRow.holds Try.pinned (OpenSpec.upto kernelJoinsSpec)

/-- 'lemmarylaw04.KernelMoves', WHERE WHAT IT READS IS OF BULK AT MOST 1048576: true; the input reads as it did. -/
def kernelMovesUptoRow : OpenClaim := { program := "ytippmpcaongolaa", sum := "26c45f60ffae02cf7c0788943d9076ba6676399ab1629e1f51f1ebbb8e926b8f", func := "lemmary/lemmarylaw04.KernelMoves", spec := "kernelMoves", unfollowed := true, recurses := true, plainKeys := false, apart := false, narrowed := true }
def KernelMovesUptoSaid : Prop := kernelMovesUptoRow.holds Try.pinned (OpenSpec.upto kernelMovesSpec)

/-- 'lemmarylaw04.KernelMoved', WHERE WHAT IT READS IS OF BULK AT MOST 1048576: true; the input reads as it did. -/
def kernelMovedUptoRow : OpenClaim := { program := "ytippmpcaongolaa", sum := "26c45f60ffae02cf7c0788943d9076ba6676399ab1629e1f51f1ebbb8e926b8f", func := "lemmary/lemmarylaw04.KernelMoved", spec := "kernelMoved", unfollowed := true, recurses := true, plainKeys := false, apart := false, narrowed := true }
def KernelMovedUptoSaid : Prop := kernelMovedUptoRow.holds Try.pinned (OpenSpec.upto kernelMovedSpec)

/-- 'lemmarylaw04.KernelMonotone', WHERE WHAT IT READS IS OF BULK AT MOST 1048576: true; the input reads as it did. -/
def kernelMonotoneUptoRow : OpenClaim := { program := "ytippmpcaongolaa", sum := "26c45f60ffae02cf7c0788943d9076ba6676399ab1629e1f51f1ebbb8e926b8f", func := "lemmary/lemmarylaw04.KernelMonotone", spec := "kernelMonotone", unfollowed := true, recurses := true, plainKeys := false, apart := false, narrowed := true }
def KernelMonotoneUptoSaid : Prop := kernelMonotoneUptoRow.holds Try.pinned (OpenSpec.upto kernelMonotoneSpec)

end Rows
end Go.Proofs.Ytippmpcaongolaa
