/-
  No cell of these rows narrows 'for every input' (looked for: loops, veiled, ifaces, maps, wideKeys, modest, calm, conditions, laid).
  DERIVED. THE GIVEN ROWS OF THIS SEAT. 12 by the template 'for every input the law returns true; each argument reads behind the call as it read before'; 0 by the template 'total and deterministic' (their statements: YtpliamckapkhmaaTotals.lean).
  GIVEN WITH THE SEED: the statements are not yours to turn. If you find one false, say at which input.
  Laid BY PROGRAM, IN A SANDBOX (cutbox-rows.mjs): the forced cells as the released guide's own fill.sh prints them over the translation dccadcb383662786… (all of the seat's roots in one cut). By AI agents, Wed Nov 11 2026. No macro, syntax, notation, axiom, sorry.
-/
import Derived.Test.YtpliamckapkhmaaChecked
import GoSem.Claim
import GoSem.ClaimJoined
import GoSem.ClaimMapViews
import Derived.JoinedTies
import Derived.KernelRfl
namespace Go.Proofs.Ytpliamckapkhmaa
/- THE CELL 'sum', in the pinned program and in every row, IS THE sha256 OF THE DUMP (.gsa) THAT YtpliamckapkhmaaProg.lean LOADS. Nothing in Lean hashes anything: it is a label: what it is worth is what the hold of that sum in a sandbox is worth. -/
noncomputable def Try.pinned : Pinned := { name := "ytpliamckapkhmaa", sum := "dccadcb38366278699be3a855deaaa5a9d14ab588da167c767914f93a6b4f6f5", checked := Try.checked }
namespace Rows
def none {H : Type} : Left H := { results := [], args := [] }

/-- 'lemmarylaw01.TermPuts': WHATEVER THE INPUT: true; the input reads as it did. -/
def termPutsSpec : ChangeSpec := { name := "termPuts", fn := fun _ => fun
  | [d1, d2] => { results := [.lit (.bool true)], args := [d1, d2] }
  | _ => none }
def termPutsRow : OpenClaim := { program := "ytpliamckapkhmaa", sum := "dccadcb38366278699be3a855deaaa5a9d14ab588da167c767914f93a6b4f6f5", func := "lemmary/lemmarylaw01.TermPuts", spec := "termPuts", unfollowed := true, recurses := true, plainKeys := false, apart := false }
def TermPutsSaid : Prop := termPutsRow.holds Try.pinned (OpenSpec.ofChange termPutsSpec)

/-- ITS FALSE NEIGHBOUR: 'it returns false'. Refute it at one input. -/
def termPutsWrong : ChangeSpec := { name := "termPuts", fn := fun _ => fun
  | [d1, d2] => { results := [.lit (.bool false)], args := [d1, d2] }
  | _ => none }
def TermPutsWrongFalsely : Prop := termPutsRow.holds Try.pinned (OpenSpec.ofChange termPutsWrong)

/-- 'lemmarylaw02.UnifyBinds': WHATEVER THE INPUT: true; the input reads as it did. -/
def unifyBindsSpec : ChangeSpec := { name := "unifyBinds", fn := fun _ => fun
  | [d1, d2] => { results := [.lit (.bool true)], args := [d1, d2] }
  | _ => none }
def unifyBindsRow : OpenClaim := { program := "ytpliamckapkhmaa", sum := "dccadcb38366278699be3a855deaaa5a9d14ab588da167c767914f93a6b4f6f5", func := "lemmary/lemmarylaw02.UnifyBinds", spec := "unifyBinds", unfollowed := true, recurses := true, plainKeys := false, apart := false }
def UnifyBindsSaid : Prop := unifyBindsRow.holds Try.pinned (OpenSpec.ofChange unifyBindsSpec)

/-- ITS FALSE NEIGHBOUR: 'it returns false'. Refute it at one input. -/
def unifyBindsWrong : ChangeSpec := { name := "unifyBinds", fn := fun _ => fun
  | [d1, d2] => { results := [.lit (.bool false)], args := [d1, d2] }
  | _ => none }
def UnifyBindsWrongFalsely : Prop := unifyBindsRow.holds Try.pinned (OpenSpec.ofChange unifyBindsWrong)

/-- 'lemmarylaw02.UnifyApplies': WHATEVER THE INPUT: true; the input reads as it did. -/
def unifyAppliesSpec : ChangeSpec := { name := "unifyApplies", fn := fun _ => fun
  | [d1, d2, d3] => { results := [.lit (.bool true)], args := [d1, d2, d3] }
  | _ => none }
def unifyAppliesRow : OpenClaim := { program := "ytpliamckapkhmaa", sum := "dccadcb38366278699be3a855deaaa5a9d14ab588da167c767914f93a6b4f6f5", func := "lemmary/lemmarylaw02.UnifyApplies", spec := "unifyApplies", unfollowed := true, recurses := true, plainKeys := false, apart := false }
def UnifyAppliesSaid : Prop := unifyAppliesRow.holds Try.pinned (OpenSpec.ofChange unifyAppliesSpec)

/-- ITS FALSE NEIGHBOUR: 'it returns false'. Refute it at one input. -/
def unifyAppliesWrong : ChangeSpec := { name := "unifyApplies", fn := fun _ => fun
  | [d1, d2, d3] => { results := [.lit (.bool false)], args := [d1, d2, d3] }
  | _ => none }
def UnifyAppliesWrongFalsely : Prop := unifyAppliesRow.holds Try.pinned (OpenSpec.ofChange unifyAppliesWrong)

/-- 'lemmarylaw02.UnifyComposes': WHATEVER THE INPUT: true; the input reads as it did. -/
def unifyComposesSpec : ChangeSpec := { name := "unifyComposes", fn := fun _ => fun
  | [d1, d2] => { results := [.lit (.bool true)], args := [d1, d2] }
  | _ => none }
def unifyComposesRow : OpenClaim := { program := "ytpliamckapkhmaa", sum := "dccadcb38366278699be3a855deaaa5a9d14ab588da167c767914f93a6b4f6f5", func := "lemmary/lemmarylaw02.UnifyComposes", spec := "unifyComposes", unfollowed := true, recurses := true, plainKeys := false, apart := false }
def UnifyComposesSaid : Prop := unifyComposesRow.holds Try.pinned (OpenSpec.ofChange unifyComposesSpec)

/-- ITS FALSE NEIGHBOUR: 'it returns false'. Refute it at one input. -/
def unifyComposesWrong : ChangeSpec := { name := "unifyComposes", fn := fun _ => fun
  | [d1, d2] => { results := [.lit (.bool false)], args := [d1, d2] }
  | _ => none }
def UnifyComposesWrongFalsely : Prop := unifyComposesRow.holds Try.pinned (OpenSpec.ofChange unifyComposesWrong)

/-- 'lemmarylaw02.UnifyMatches': WHATEVER THE INPUT: true; the input reads as it did. -/
def unifyMatchesSpec : ChangeSpec := { name := "unifyMatches", fn := fun _ => fun
  | [d1, d2, d3] => { results := [.lit (.bool true)], args := [d1, d2, d3] }
  | _ => none }
def unifyMatchesRow : OpenClaim := { program := "ytpliamckapkhmaa", sum := "dccadcb38366278699be3a855deaaa5a9d14ab588da167c767914f93a6b4f6f5", func := "lemmary/lemmarylaw02.UnifyMatches", spec := "unifyMatches", unfollowed := true, recurses := true, plainKeys := false, apart := false }
def UnifyMatchesSaid : Prop := unifyMatchesRow.holds Try.pinned (OpenSpec.ofChange unifyMatchesSpec)

/-- ITS FALSE NEIGHBOUR: 'it returns false'. Refute it at one input. -/
def unifyMatchesWrong : ChangeSpec := { name := "unifyMatches", fn := fun _ => fun
  | [d1, d2, d3] => { results := [.lit (.bool false)], args := [d1, d2, d3] }
  | _ => none }
def UnifyMatchesWrongFalsely : Prop := unifyMatchesRow.holds Try.pinned (OpenSpec.ofChange unifyMatchesWrong)

/-- 'lemmarylaw02.UnifyGeneral': WHATEVER THE INPUT: true; the input reads as it did. -/
def unifyGeneralSpec : ChangeSpec := { name := "unifyGeneral", fn := fun _ => fun
  | [d1, d2] => { results := [.lit (.bool true)], args := [d1, d2] }
  | _ => none }
def unifyGeneralRow : OpenClaim := { program := "ytpliamckapkhmaa", sum := "dccadcb38366278699be3a855deaaa5a9d14ab588da167c767914f93a6b4f6f5", func := "lemmary/lemmarylaw02.UnifyGeneral", spec := "unifyGeneral", unfollowed := true, recurses := true, plainKeys := false, apart := false }
def UnifyGeneralSaid : Prop := unifyGeneralRow.holds Try.pinned (OpenSpec.ofChange unifyGeneralSpec)

/-- ITS FALSE NEIGHBOUR: 'it returns false'. Refute it at one input. -/
def unifyGeneralWrong : ChangeSpec := { name := "unifyGeneral", fn := fun _ => fun
  | [d1, d2] => { results := [.lit (.bool false)], args := [d1, d2] }
  | _ => none }
def UnifyGeneralWrongFalsely : Prop := unifyGeneralRow.holds Try.pinned (OpenSpec.ofChange unifyGeneralWrong)

/-- 'lemmarylaw02.UnifyMeets': WHATEVER THE INPUT: true; the input reads as it did. -/
def unifyMeetsSpec : ChangeSpec := { name := "unifyMeets", fn := fun _ => fun
  | [d1, d2, d3] => { results := [.lit (.bool true)], args := [d1, d2, d3] }
  | _ => none }
def unifyMeetsRow : OpenClaim := { program := "ytpliamckapkhmaa", sum := "dccadcb38366278699be3a855deaaa5a9d14ab588da167c767914f93a6b4f6f5", func := "lemmary/lemmarylaw02.UnifyMeets", spec := "unifyMeets", unfollowed := true, recurses := true, plainKeys := false, apart := false }
def UnifyMeetsSaid : Prop := unifyMeetsRow.holds Try.pinned (OpenSpec.ofChange unifyMeetsSpec)

/-- ITS FALSE NEIGHBOUR: 'it returns false'. Refute it at one input. -/
def unifyMeetsWrong : ChangeSpec := { name := "unifyMeets", fn := fun _ => fun
  | [d1, d2, d3] => { results := [.lit (.bool false)], args := [d1, d2, d3] }
  | _ => none }
def UnifyMeetsWrongFalsely : Prop := unifyMeetsRow.holds Try.pinned (OpenSpec.ofChange unifyMeetsWrong)

/-- 'lemmarylaw02.UnifyJoins': WHATEVER THE INPUT: true; the input reads as it did. -/
def unifyJoinsSpec : ChangeSpec := { name := "unifyJoins", fn := fun _ => fun
  | [d1, d2, d3] => { results := [.lit (.bool true)], args := [d1, d2, d3] }
  | _ => none }
def unifyJoinsRow : OpenClaim := { program := "ytpliamckapkhmaa", sum := "dccadcb38366278699be3a855deaaa5a9d14ab588da167c767914f93a6b4f6f5", func := "lemmary/lemmarylaw02.UnifyJoins", spec := "unifyJoins", unfollowed := true, recurses := true, plainKeys := false, apart := false }
def UnifyJoinsSaid : Prop := unifyJoinsRow.holds Try.pinned (OpenSpec.ofChange unifyJoinsSpec)

/-- ITS FALSE NEIGHBOUR: 'it returns false'. Refute it at one input. -/
def unifyJoinsWrong : ChangeSpec := { name := "unifyJoins", fn := fun _ => fun
  | [d1, d2, d3] => { results := [.lit (.bool false)], args := [d1, d2, d3] }
  | _ => none }
def UnifyJoinsWrongFalsely : Prop := unifyJoinsRow.holds Try.pinned (OpenSpec.ofChange unifyJoinsWrong)

/-- 'lemmarylaw02.UnifyBounds': WHATEVER THE INPUT: true; the input reads as it did. -/
def unifyBoundsSpec : ChangeSpec := { name := "unifyBounds", fn := fun _ => fun
  | [d1, d2] => { results := [.lit (.bool true)], args := [d1, d2] }
  | _ => none }
def unifyBoundsRow : OpenClaim := { program := "ytpliamckapkhmaa", sum := "dccadcb38366278699be3a855deaaa5a9d14ab588da167c767914f93a6b4f6f5", func := "lemmary/lemmarylaw02.UnifyBounds", spec := "unifyBounds", unfollowed := true, recurses := true, plainKeys := false, apart := false }
def UnifyBoundsSaid : Prop := unifyBoundsRow.holds Try.pinned (OpenSpec.ofChange unifyBoundsSpec)

/-- ITS FALSE NEIGHBOUR: 'it returns false'. Refute it at one input. -/
def unifyBoundsWrong : ChangeSpec := { name := "unifyBounds", fn := fun _ => fun
  | [d1, d2] => { results := [.lit (.bool false)], args := [d1, d2] }
  | _ => none }
def UnifyBoundsWrongFalsely : Prop := unifyBoundsRow.holds Try.pinned (OpenSpec.ofChange unifyBoundsWrong)

/-- 'lemmarylaw04.KernelDetaches': WHATEVER THE INPUT: true; the input reads as it did. -/
def kernelDetachesSpec : ChangeSpec := { name := "kernelDetaches", fn := fun _ => fun
  | [d1, d2, d3] => { results := [.lit (.bool true)], args := [d1, d2, d3] }
  | _ => none }
def kernelDetachesRow : OpenClaim := { program := "ytpliamckapkhmaa", sum := "dccadcb38366278699be3a855deaaa5a9d14ab588da167c767914f93a6b4f6f5", func := "lemmary/lemmarylaw04.KernelDetaches", spec := "kernelDetaches", unfollowed := true, recurses := true, plainKeys := false, apart := false }
def KernelDetachesSaid : Prop := kernelDetachesRow.holds Try.pinned (OpenSpec.ofChange kernelDetachesSpec)

/-- ITS FALSE NEIGHBOUR: 'it returns false'. Refute it at one input. -/
def kernelDetachesWrong : ChangeSpec := { name := "kernelDetaches", fn := fun _ => fun
  | [d1, d2, d3] => { results := [.lit (.bool false)], args := [d1, d2, d3] }
  | _ => none }
def KernelDetachesWrongFalsely : Prop := kernelDetachesRow.holds Try.pinned (OpenSpec.ofChange kernelDetachesWrong)

/-- 'lemmarylaw04.KernelGeneral': WHATEVER THE INPUT: true; the input reads as it did. -/
def kernelGeneralSpec : ChangeSpec := { name := "kernelGeneral", fn := fun _ => fun
  | [d1, d2] => { results := [.lit (.bool true)], args := [d1, d2] }
  | _ => none }
def kernelGeneralRow : OpenClaim := { program := "ytpliamckapkhmaa", sum := "dccadcb38366278699be3a855deaaa5a9d14ab588da167c767914f93a6b4f6f5", func := "lemmary/lemmarylaw04.KernelGeneral", spec := "kernelGeneral", unfollowed := true, recurses := true, plainKeys := false, apart := false }
def KernelGeneralSaid : Prop := kernelGeneralRow.holds Try.pinned (OpenSpec.ofChange kernelGeneralSpec)

/-- ITS FALSE NEIGHBOUR: 'it returns false'. Refute it at one input. -/
def kernelGeneralWrong : ChangeSpec := { name := "kernelGeneral", fn := fun _ => fun
  | [d1, d2] => { results := [.lit (.bool false)], args := [d1, d2] }
  | _ => none }
def KernelGeneralWrongFalsely : Prop := kernelGeneralRow.holds Try.pinned (OpenSpec.ofChange kernelGeneralWrong)

/-- 'lemmarytop.TopDetachedInstances': WHATEVER THE INPUT: true; the input reads as it did. -/
def topDetachedInstancesSpec : ChangeSpec := { name := "topDetachedInstances", fn := fun _ => fun
  | [d1, d2] => { results := [.lit (.bool true)], args := [d1, d2] }
  | _ => none }
def topDetachedInstancesRow : OpenClaim := { program := "ytpliamckapkhmaa", sum := "dccadcb38366278699be3a855deaaa5a9d14ab588da167c767914f93a6b4f6f5", func := "lemmary/lemmarytop.TopDetachedInstances", spec := "topDetachedInstances", unfollowed := true, recurses := true, plainKeys := false, apart := false }
def TopDetachedInstancesSaid : Prop := topDetachedInstancesRow.holds Try.pinned (OpenSpec.ofChange topDetachedInstancesSpec)

/-- ITS FALSE NEIGHBOUR: 'it returns false'. Refute it at one input. -/
def topDetachedInstancesWrong : ChangeSpec := { name := "topDetachedInstances", fn := fun _ => fun
  | [d1, d2] => { results := [.lit (.bool false)], args := [d1, d2] }
  | _ => none }
def TopDetachedInstancesWrongFalsely : Prop := topDetachedInstancesRow.holds Try.pinned (OpenSpec.ofChange topDetachedInstancesWrong)

/- THE SECOND FORM. 'bulk': how many values and letters a reading holds, each counted each time it is reached (what is shared counts as often as it is met; a slice's spare places count too). A statement '..UptoSaid' is the law's where the arguments, and the package variables that the reading takes, are together of bulk at most 1048576: NARROWER than '..Said'. Prove '..Said' where nothing that the law and all that it calls make is longer than what came in: it says more and counts as full. Else prove '..UptoSaid'. A law counts once. -/
mutual
def uptoBulk {H : Type} : DataW H → Nat
  | .lit (.string bytes) => bytes.length + 1
  | .lit _ => 1
  | .nil => 1
  | .ptr d => uptoBulk d + 1
  | .slice elems spare => uptoBulkAll elems + uptoBulkAll spare + 1
  | .agg parts => uptoBulkAll parts + 1
  | .iface _ d => uptoBulk d + 1
  | .map entries => uptoBulkEntries entries + 1
  | .held _ => 1
def uptoBulkAll {H : Type} : List (DataW H) → Nat
  | [] => 0
  | d :: r => uptoBulk d + uptoBulkAll r
def uptoBulkEntries {H : Type} : List (Lit × DataW H) → Nat
  | [] => 0
  | x :: r => uptoBulkEntry x + uptoBulkEntries r
def uptoBulkEntry {H : Type} : Lit × DataW H → Nat
  | (.string bytes, d) => bytes.length + uptoBulk d + 1
  | (_, d) => uptoBulk d + 1
 end
def uptoSmall : (H : Type) → List (DataW H) → Bool := fun _ ds => decide (uptoBulkAll ds ≤ 1048576)
def OpenSpec.upto (s : _root_.Go.ChangeSpec) : _root_.Go.OpenSpec := { _root_.Go.OpenSpec.ofChange s with cond := some uptoSmall }

/-- 'lemmarylaw01.TermPuts', WHERE WHAT IT READS IS OF BULK AT MOST 1048576: true; the input reads as it did. -/
def termPutsUptoRow : OpenClaim := { program := "ytpliamckapkhmaa", sum := "dccadcb38366278699be3a855deaaa5a9d14ab588da167c767914f93a6b4f6f5", func := "lemmary/lemmarylaw01.TermPuts", spec := "termPuts", unfollowed := true, recurses := true, plainKeys := false, apart := false, narrowed := true }
def TermPutsUptoSaid : Prop := termPutsUptoRow.holds Try.pinned (OpenSpec.upto termPutsSpec)

/-- 'lemmarylaw02.UnifyBinds', WHERE WHAT IT READS IS OF BULK AT MOST 1048576: true; the input reads as it did. -/
def unifyBindsUptoRow : OpenClaim := { program := "ytpliamckapkhmaa", sum := "dccadcb38366278699be3a855deaaa5a9d14ab588da167c767914f93a6b4f6f5", func := "lemmary/lemmarylaw02.UnifyBinds", spec := "unifyBinds", unfollowed := true, recurses := true, plainKeys := false, apart := false, narrowed := true }
def UnifyBindsUptoSaid : Prop := unifyBindsUptoRow.holds Try.pinned (OpenSpec.upto unifyBindsSpec)

/-- 'lemmarylaw02.UnifyApplies', WHERE WHAT IT READS IS OF BULK AT MOST 1048576: true; the input reads as it did. -/
def unifyAppliesUptoRow : OpenClaim := { program := "ytpliamckapkhmaa", sum := "dccadcb38366278699be3a855deaaa5a9d14ab588da167c767914f93a6b4f6f5", func := "lemmary/lemmarylaw02.UnifyApplies", spec := "unifyApplies", unfollowed := true, recurses := true, plainKeys := false, apart := false, narrowed := true }
def UnifyAppliesUptoSaid : Prop := unifyAppliesUptoRow.holds Try.pinned (OpenSpec.upto unifyAppliesSpec)

/-- 'lemmarylaw02.UnifyComposes', WHERE WHAT IT READS IS OF BULK AT MOST 1048576: true; the input reads as it did. -/
def unifyComposesUptoRow : OpenClaim := { program := "ytpliamckapkhmaa", sum := "dccadcb38366278699be3a855deaaa5a9d14ab588da167c767914f93a6b4f6f5", func := "lemmary/lemmarylaw02.UnifyComposes", spec := "unifyComposes", unfollowed := true, recurses := true, plainKeys := false, apart := false, narrowed := true }
def UnifyComposesUptoSaid : Prop := unifyComposesUptoRow.holds Try.pinned (OpenSpec.upto unifyComposesSpec)

/-- 'lemmarylaw02.UnifyMatches', WHERE WHAT IT READS IS OF BULK AT MOST 1048576: true; the input reads as it did. -/
def unifyMatchesUptoRow : OpenClaim := { program := "ytpliamckapkhmaa", sum := "dccadcb38366278699be3a855deaaa5a9d14ab588da167c767914f93a6b4f6f5", func := "lemmary/lemmarylaw02.UnifyMatches", spec := "unifyMatches", unfollowed := true, recurses := true, plainKeys := false, apart := false, narrowed := true }
def UnifyMatchesUptoSaid : Prop := unifyMatchesUptoRow.holds Try.pinned (OpenSpec.upto unifyMatchesSpec)

/-- 'lemmarylaw02.UnifyGeneral', WHERE WHAT IT READS IS OF BULK AT MOST 1048576: true; the input reads as it did. -/
def unifyGeneralUptoRow : OpenClaim := { program := "ytpliamckapkhmaa", sum := "dccadcb38366278699be3a855deaaa5a9d14ab588da167c767914f93a6b4f6f5", func := "lemmary/lemmarylaw02.UnifyGeneral", spec := "unifyGeneral", unfollowed := true, recurses := true, plainKeys := false, apart := false, narrowed := true }
def UnifyGeneralUptoSaid : Prop := unifyGeneralUptoRow.holds Try.pinned (OpenSpec.upto unifyGeneralSpec)

/-- 'lemmarylaw02.UnifyMeets', WHERE WHAT IT READS IS OF BULK AT MOST 1048576: true; the input reads as it did. -/
def unifyMeetsUptoRow : OpenClaim := { program := "ytpliamckapkhmaa", sum := "dccadcb38366278699be3a855deaaa5a9d14ab588da167c767914f93a6b4f6f5", func := "lemmary/lemmarylaw02.UnifyMeets", spec := "unifyMeets", unfollowed := true, recurses := true, plainKeys := false, apart := false, narrowed := true }
def UnifyMeetsUptoSaid : Prop := unifyMeetsUptoRow.holds Try.pinned (OpenSpec.upto unifyMeetsSpec)

/-- 'lemmarylaw02.UnifyJoins', WHERE WHAT IT READS IS OF BULK AT MOST 1048576: true; the input reads as it did. -/
def unifyJoinsUptoRow : OpenClaim := { program := "ytpliamckapkhmaa", sum := "dccadcb38366278699be3a855deaaa5a9d14ab588da167c767914f93a6b4f6f5", func := "lemmary/lemmarylaw02.UnifyJoins", spec := "unifyJoins", unfollowed := true, recurses := true, plainKeys := false, apart := false, narrowed := true }
def UnifyJoinsUptoSaid : Prop := unifyJoinsUptoRow.holds Try.pinned (OpenSpec.upto unifyJoinsSpec)

/-- 'lemmarylaw02.UnifyBounds', WHERE WHAT IT READS IS OF BULK AT MOST 1048576: true; the input reads as it did. -/
def unifyBoundsUptoRow : OpenClaim := { program := "ytpliamckapkhmaa", sum := "dccadcb38366278699be3a855deaaa5a9d14ab588da167c767914f93a6b4f6f5", func := "lemmary/lemmarylaw02.UnifyBounds", spec := "unifyBounds", unfollowed := true, recurses := true, plainKeys := false, apart := false, narrowed := true }
def UnifyBoundsUptoSaid : Prop := unifyBoundsUptoRow.holds Try.pinned (OpenSpec.upto unifyBoundsSpec)

/-- 'lemmarylaw04.KernelDetaches', WHERE WHAT IT READS IS OF BULK AT MOST 1048576: true; the input reads as it did. -/
def kernelDetachesUptoRow : OpenClaim := { program := "ytpliamckapkhmaa", sum := "dccadcb38366278699be3a855deaaa5a9d14ab588da167c767914f93a6b4f6f5", func := "lemmary/lemmarylaw04.KernelDetaches", spec := "kernelDetaches", unfollowed := true, recurses := true, plainKeys := false, apart := false, narrowed := true }
def KernelDetachesUptoSaid : Prop := kernelDetachesUptoRow.holds Try.pinned (OpenSpec.upto kernelDetachesSpec)

/-- 'lemmarylaw04.KernelGeneral', WHERE WHAT IT READS IS OF BULK AT MOST 1048576: true; the input reads as it did. -/
def kernelGeneralUptoRow : OpenClaim := { program := "ytpliamckapkhmaa", sum := "dccadcb38366278699be3a855deaaa5a9d14ab588da167c767914f93a6b4f6f5", func := "lemmary/lemmarylaw04.KernelGeneral", spec := "kernelGeneral", unfollowed := true, recurses := true, plainKeys := false, apart := false, narrowed := true }
def KernelGeneralUptoSaid : Prop := kernelGeneralUptoRow.holds Try.pinned (OpenSpec.upto kernelGeneralSpec)

/-- 'lemmarytop.TopDetachedInstances', WHERE WHAT IT READS IS OF BULK AT MOST 1048576: true; the input reads as it did. -/
def topDetachedInstancesUptoRow : OpenClaim := { program := "ytpliamckapkhmaa", sum := "dccadcb38366278699be3a855deaaa5a9d14ab588da167c767914f93a6b4f6f5", func := "lemmary/lemmarytop.TopDetachedInstances", spec := "topDetachedInstances", unfollowed := true, recurses := true, plainKeys := false, apart := false, narrowed := true }
def TopDetachedInstancesUptoSaid : Prop := topDetachedInstancesUptoRow.holds Try.pinned (OpenSpec.upto topDetachedInstancesSpec)

end Rows
end Go.Proofs.Ytpliamckapkhmaa
