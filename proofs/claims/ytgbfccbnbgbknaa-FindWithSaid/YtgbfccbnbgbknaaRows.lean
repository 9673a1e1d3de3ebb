/-
  No cell of these rows narrows 'for every input' (looked for: loops, veiled, ifaces, maps, wideKeys, modest, calm, conditions, laid).
  DERIVED. THE GIVEN ROWS OF THIS SEAT. 14 by the template 'for every input the law returns true; each argument reads behind the call as it read before'; 0 by the template 'total and deterministic' (their statements: YtgbfccbnbgbknaaTotals.lean).
  GIVEN WITH THE SEED: the statements are not yours to turn. If you find one false, say at which input.
  Laid BY PROGRAM, IN A SANDBOX (cutbox-rows.mjs): the forced cells as the released guide's own fill.sh prints them over the translation 8f8e665c88f095a1… (all of the seat's roots in one cut). By AI agents, Wed Nov 11 2026. No macro, syntax, notation, axiom, sorry.
-/
import Derived.Test.YtgbfccbnbgbknaaChecked
import GoSem.Claim
import GoSem.ClaimJoined
import GoSem.ClaimMapViews
import Derived.JoinedTies
import Derived.KernelRfl
namespace Go.Proofs.Ytgbfccbnbgbknaa
/- THE CELL 'sum', in the pinned program and in every row, IS THE sha256 OF THE DUMP (.gsa) THAT YtgbfccbnbgbknaaProg.lean LOADS. Nothing in Lean hashes anything: it is a label: what it is worth is what the hold of that sum in a sandbox is worth. -/
noncomputable def Try.pinned : Pinned := { name := "ytgbfccbnbgbknaa", sum := "8f8e665c88f095a177a9ddcc5a96d788c8c510460eac2115280f00552cbfd0ce", checked := Try.checked }
namespace Rows
def none {H : Type} : Left H := { results := [], args := [] }

/-- 'lemmarylaw01.TermCanonical': WHATEVER THE INPUT: true; the input reads as it did. -/
def termCanonicalSpec : ChangeSpec := { name := "termCanonical", fn := fun _ => fun
  | [d1, d2] => { results := [.lit (.bool true)], args := [d1, d2] }
  | _ => none }
def termCanonicalRow : OpenClaim := { program := "ytgbfccbnbgbknaa", sum := "8f8e665c88f095a177a9ddcc5a96d788c8c510460eac2115280f00552cbfd0ce", func := "lemmary/lemmarylaw01.TermCanonical", spec := "termCanonical", unfollowed := true, recurses := true, plainKeys := false, apart := false }
def TermCanonicalSaid : Prop := termCanonicalRow.holds Try.pinned (OpenSpec.ofChange termCanonicalSpec)

/-- ITS FALSE NEIGHBOUR: 'it returns false'. Refute it at one input. -/
def termCanonicalWrong : ChangeSpec := { name := "termCanonical", fn := fun _ => fun
  | [d1, d2] => { results := [.lit (.bool false)], args := [d1, d2] }
  | _ => none }
def TermCanonicalWrongFalsely : Prop := termCanonicalRow.holds Try.pinned (OpenSpec.ofChange termCanonicalWrong)

/-- 'lemmarylaw02.UnifyBinds': WHATEVER THE INPUT: true; the input reads as it did. -/
def unifyBindsSpec : ChangeSpec := { name := "unifyBinds", fn := fun _ => fun
  | [d1, d2] => { results := [.lit (.bool true)], args := [d1, d2] }
  | _ => none }
def unifyBindsRow : OpenClaim := { program := "ytgbfccbnbgbknaa", sum := "8f8e665c88f095a177a9ddcc5a96d788c8c510460eac2115280f00552cbfd0ce", func := "lemmary/lemmarylaw02.UnifyBinds", spec := "unifyBinds", unfollowed := true, recurses := true, plainKeys := false, apart := false }
def UnifyBindsSaid : Prop := unifyBindsRow.holds Try.pinned (OpenSpec.ofChange unifyBindsSpec)

/-- ITS FALSE NEIGHBOUR: 'it returns false'. Refute it at one input. -/
def unifyBindsWrong : ChangeSpec := { name := "unifyBinds", fn := fun _ => fun
  | [d1, d2] => { results := [.lit (.bool false)], args := [d1, d2] }
  | _ => none }
def UnifyBindsWrongFalsely : Prop := unifyBindsRow.holds Try.pinned (OpenSpec.ofChange unifyBindsWrong)

/-- 'lemmarylaw02.UnifyApplies': WHATEVER THE INPUT: true; the input reads as it did. -/
def unifyAppliesSpec : ChangeSpec := { name := "unifyApplies", fn := fun _ => fun
  | [d1, d2, d3] => { results := [.lit (.bool true)], args := [d1, d2, d3] }
  | _ => none }
def unifyAppliesRow : OpenClaim := { program := "ytgbfccbnbgbknaa", sum := "8f8e665c88f095a177a9ddcc5a96d788c8c510460eac2115280f00552cbfd0ce", func := "lemmary/lemmarylaw02.UnifyApplies", spec := "unifyApplies", unfollowed := true, recurses := true, plainKeys := false, apart := false }
def UnifyAppliesSaid : Prop := unifyAppliesRow.holds Try.pinned (OpenSpec.ofChange unifyAppliesSpec)

/-- ITS FALSE NEIGHBOUR: 'it returns false'. Refute it at one input. -/
def unifyAppliesWrong : ChangeSpec := { name := "unifyApplies", fn := fun _ => fun
  | [d1, d2, d3] => { results := [.lit (.bool false)], args := [d1, d2, d3] }
  | _ => none }
def UnifyAppliesWrongFalsely : Prop := unifyAppliesRow.holds Try.pinned (OpenSpec.ofChange unifyAppliesWrong)

/-- 'lemmarylaw02.UnifyMatches': WHATEVER THE INPUT: true; the input reads as it did. -/
def unifyMatchesSpec : ChangeSpec := { name := "unifyMatches", fn := fun _ => fun
  | [d1, d2, d3] => { results := [.lit (.bool true)], args := [d1, d2, d3] }
  | _ => none }
def unifyMatchesRow : OpenClaim := { program := "ytgbfccbnbgbknaa", sum := "8f8e665c88f095a177a9ddcc5a96d788c8c510460eac2115280f00552cbfd0ce", func := "lemmary/lemmarylaw02.UnifyMatches", spec := "unifyMatches", unfollowed := true, recurses := true, plainKeys := false, apart := false }
def UnifyMatchesSaid : Prop := unifyMatchesRow.holds Try.pinned (OpenSpec.ofChange unifyMatchesSpec)

/-- ITS FALSE NEIGHBOUR: 'it returns false'. Refute it at one input. -/
def unifyMatchesWrong : ChangeSpec := { name := "unifyMatches", fn := fun _ => fun
  | [d1, d2, d3] => { results := [.lit (.bool false)], args := [d1, d2, d3] }
  | _ => none }
def UnifyMatchesWrongFalsely : Prop := unifyMatchesRow.holds Try.pinned (OpenSpec.ofChange unifyMatchesWrong)

/-- 'lemmarylaw02.UnifyGeneral': WHATEVER THE INPUT: true; the input reads as it did. -/
def unifyGeneralSpec : ChangeSpec := { name := "unifyGeneral", fn := fun _ => fun
  | [d1, d2] => { results := [.lit (.bool true)], args := [d1, d2] }
  | _ => none }
def unifyGeneralRow : OpenClaim := { program := "ytgbfccbnbgbknaa", sum := "8f8e665c88f095a177a9ddcc5a96d788c8c510460eac2115280f00552cbfd0ce", func := "lemmary/lemmarylaw02.UnifyGeneral", spec := "unifyGeneral", unfollowed := true, recurses := true, plainKeys := false, apart := false }
def UnifyGeneralSaid : Prop := unifyGeneralRow.holds Try.pinned (OpenSpec.ofChange unifyGeneralSpec)

/-- ITS FALSE NEIGHBOUR: 'it returns false'. Refute it at one input. -/
def unifyGeneralWrong : ChangeSpec := { name := "unifyGeneral", fn := fun _ => fun
  | [d1, d2] => { results := [.lit (.bool false)], args := [d1, d2] }
  | _ => none }
def UnifyGeneralWrongFalsely : Prop := unifyGeneralRow.holds Try.pinned (OpenSpec.ofChange unifyGeneralWrong)

/-- 'lemmarylaw02.UnifyMeets': WHATEVER THE INPUT: true; the input reads as it did. -/
def unifyMeetsSpec : ChangeSpec := { name := "unifyMeets", fn := fun _ => fun
  | [d1, d2, d3] => { results := [.lit (.bool true)], args := [d1, d2, d3] }
  | _ => none }
def unifyMeetsRow : OpenClaim := { program := "ytgbfccbnbgbknaa", sum := "8f8e665c88f095a177a9ddcc5a96d788c8c510460eac2115280f00552cbfd0ce", func := "lemmary/lemmarylaw02.UnifyMeets", spec := "unifyMeets", unfollowed := true, recurses := true, plainKeys := false, apart := false }
def UnifyMeetsSaid : Prop := unifyMeetsRow.holds Try.pinned (OpenSpec.ofChange unifyMeetsSpec)

/-- ITS FALSE NEIGHBOUR: 'it returns false'. Refute it at one input. -/
def unifyMeetsWrong : ChangeSpec := { name := "unifyMeets", fn := fun _ => fun
  | [d1, d2, d3] => { results := [.lit (.bool false)], args := [d1, d2, d3] }
  | _ => none }
def UnifyMeetsWrongFalsely : Prop := unifyMeetsRow.holds Try.pinned (OpenSpec.ofChange unifyMeetsWrong)

/-- 'lemmarylaw02.UnifyJoins': WHATEVER THE INPUT: true; the input reads as it did. -/
def unifyJoinsSpec : ChangeSpec := { name := "unifyJoins", fn := fun _ => fun
  | [d1, d2, d3] => { results := [.lit (.bool true)], args := [d1, d2, d3] }
  | _ => none }
def unifyJoinsRow : OpenClaim := { program := "ytgbfccbnbgbknaa", sum := "8f8e665c88f095a177a9ddcc5a96d788c8c510460eac2115280f00552cbfd0ce", func := "lemmary/lemmarylaw02.UnifyJoins", spec := "unifyJoins", unfollowed := true, recurses := true, plainKeys := false, apart := false }
def UnifyJoinsSaid : Prop := unifyJoinsRow.holds Try.pinned (OpenSpec.ofChange unifyJoinsSpec)

/-- ITS FALSE NEIGHBOUR: 'it returns false'. Refute it at one input. -/
def unifyJoinsWrong : ChangeSpec := { name := "unifyJoins", fn := fun _ => fun
  | [d1, d2, d3] => { results := [.lit (.bool false)], args := [d1, d2, d3] }
  | _ => none }
def UnifyJoinsWrongFalsely : Prop := unifyJoinsRow.holds Try.pinned (OpenSpec.ofChange unifyJoinsWrong)

/-- 'lemmarylaw05.FindSearches': WHATEVER THE INPUT: true; the input reads as it did. -/
def findSearchesSpec : ChangeSpec := { name := "findSearches", fn := fun _ => fun
  | [d1, d2, d3] => { results := [.lit (.bool true)], args := [d1, d2, d3] }
  | _ => none }
def findSearchesRow : OpenClaim := { program := "ytgbfccbnbgbknaa", sum := "8f8e665c88f095a177a9ddcc5a96d788c8c510460eac2115280f00552cbfd0ce", func := "lemmary/lemmarylaw05.FindSearches", spec := "findSearches", unfollowed := true, recurses := true, plainKeys := false, apart := false }
def FindSearchesSaid : Prop := findSearchesRow.holds Try.pinned (OpenSpec.ofChange findSearchesSpec)

/-- ITS FALSE NEIGHBOUR: 'it returns false'. Refute it at one input. -/
def findSearchesWrong : ChangeSpec := { name := "findSearches", fn := fun _ => fun
  | [d1, d2, d3] => { results := [.lit (.bool false)], args := [d1, d2, d3] }
  | _ => none }
def FindSearchesWrongFalsely : Prop := findSearchesRow.holds Try.pinned (OpenSpec.ofChange findSearchesWrong)

/-- 'lemmarylaw05.FindParts': WHATEVER THE INPUT: true; the input reads as it did. -/
def findPartsSpec : ChangeSpec := { name := "findParts", fn := fun _ => fun
  | [d1, d2, d3] => { results := [.lit (.bool true)], args := [d1, d2, d3] }
  | _ => none }
def findPartsRow : OpenClaim := { program := "ytgbfccbnbgbknaa", sum := "8f8e665c88f095a177a9ddcc5a96d788c8c510460eac2115280f00552cbfd0ce", func := "lemmary/lemmarylaw05.FindParts", spec := "findParts", unfollowed := true, recurses := true, plainKeys := false, apart := false }
def FindPartsSaid : Prop := findPartsRow.holds Try.pinned (OpenSpec.ofChange findPartsSpec)

/-- ITS FALSE NEIGHBOUR: 'it returns false'. Refute it at one input. -/
def findPartsWrong : ChangeSpec := { name := "findParts", fn := fun _ => fun
  | [d1, d2, d3] => { results := [.lit (.bool false)], args := [d1, d2, d3] }
  | _ => none }
def FindPartsWrongFalsely : Prop := findPartsRow.holds Try.pinned (OpenSpec.ofChange findPartsWrong)

/-- 'lemmarylaw05.FindWith': WHATEVER THE INPUT: true; the input reads as it did. -/
def findWithSpec : ChangeSpec := { name := "findWith", fn := fun _ => fun
  | [d1, d2, d3] => { results := [.lit (.bool true)], args := [d1, d2, d3] }
  | _ => none }
def findWithRow : OpenClaim := { program := "ytgbfccbnbgbknaa", sum := "8f8e665c88f095a177a9ddcc5a96d788c8c510460eac2115280f00552cbfd0ce", func := "lemmary/lemmarylaw05.FindWith", spec := "findWith", unfollowed := true, recurses := true, plainKeys := false, apart := false }
def FindWithSaid : Prop := findWithRow.holds Try.pinned (OpenSpec.ofChange findWithSpec)

/-- ITS FALSE NEIGHBOUR: 'it returns false'. Refute it at one input. -/
def findWithWrong : ChangeSpec := { name := "findWith", fn := fun _ => fun
  | [d1, d2, d3] => { results := [.lit (.bool false)], args := [d1, d2, d3] }
  | _ => none }
def FindWithWrongFalsely : Prop := findWithRow.holds Try.pinned (OpenSpec.ofChange findWithWrong)

/-- 'lemmarylaw05.FindRanks': WHATEVER THE INPUT: true; the input reads as it did. -/
def findRanksSpec : ChangeSpec := { name := "findRanks", fn := fun _ => fun
  | [d1, d2, d3] => { results := [.lit (.bool true)], args := [d1, d2, d3] }
  | _ => none }
def findRanksRow : OpenClaim := { program := "ytgbfccbnbgbknaa", sum := "8f8e665c88f095a177a9ddcc5a96d788c8c510460eac2115280f00552cbfd0ce", func := "lemmary/lemmarylaw05.FindRanks", spec := "findRanks", unfollowed := true, recurses := true, plainKeys := false, apart := false }
def FindRanksSaid : Prop := findRanksRow.holds Try.pinned (OpenSpec.ofChange findRanksSpec)

/-- ITS FALSE NEIGHBOUR: 'it returns false'. Refute it at one input. -/
def findRanksWrong : ChangeSpec := { name := "findRanks", fn := fun _ => fun
  | [d1, d2, d3] => { results := [.lit (.bool false)], args := [d1, d2, d3] }
  | _ => none }
def FindRanksWrongFalsely : Prop := findRanksRow.holds Try.pinned (OpenSpec.ofChange findRanksWrong)

/-- 'lemmarylaw05.FindGroups': WHATEVER THE INPUT: true; the input reads as it did. -/
def findGroupsSpec : ChangeSpec := { name := "findGroups", fn := fun _ => fun
  | [d1, d2] => { results := [.lit (.bool true)], args := [d1, d2] }
  | _ => none }
def findGroupsRow : OpenClaim := { program := "ytgbfccbnbgbknaa", sum := "8f8e665c88f095a177a9ddcc5a96d788c8c510460eac2115280f00552cbfd0ce", func := "lemmary/lemmarylaw05.FindGroups", spec := "findGroups", unfollowed := true, recurses := true, plainKeys := false, apart := false }
def FindGroupsSaid : Prop := findGroupsRow.holds Try.pinned (OpenSpec.ofChange findGroupsSpec)

/-- ITS FALSE NEIGHBOUR: 'it returns false'. Refute it at one input. -/
def findGroupsWrong : ChangeSpec := { name := "findGroups", fn := fun _ => fun
  | [d1, d2] => { results := [.lit (.bool false)], args := [d1, d2] }
  | _ => none }
def FindGroupsWrongFalsely : Prop := findGroupsRow.holds Try.pinned (OpenSpec.ofChange findGroupsWrong)

/-- 'lemmarylaw05.FindBases': WHATEVER THE INPUT: true; the input reads as it did. -/
def findBasesSpec : ChangeSpec := { name := "findBases", fn := fun _ => fun
  | [d1, d2, d3] => { results := [.lit (.bool true)], args := [d1, d2, d3] }
  | _ => none }
def findBasesRow : OpenClaim := { program := "ytgbfccbnbgbknaa", sum := "8f8e665c88f095a177a9ddcc5a96d788c8c510460eac2115280f00552cbfd0ce", func := "lemmary/lemmarylaw05.FindBases", spec := "findBases", unfollowed := true, recurses := true, plainKeys := false, apart := false }
def FindBasesSaid : Prop := findBasesRow.holds Try.pinned (OpenSpec.ofChange findBasesSpec)

/-- ITS FALSE NEIGHBOUR: 'it returns false'. Refute it at one input. -/
def findBasesWrong : ChangeSpec := { name := "findBases", fn := fun _ => fun
  | [d1, d2, d3] => { results := [.lit (.bool false)], args := [d1, d2, d3] }
  | _ => none }
def FindBasesWrongFalsely : Prop := findBasesRow.holds Try.pinned (OpenSpec.ofChange findBasesWrong)

/-- 'lemmarylaw05.FindOver': WHATEVER THE INPUT: true; the input reads as it did. -/
def findOverSpec : ChangeSpec := { name := "findOver", fn := fun _ => fun
  | [d1, d2, d3] => { results := [.lit (.bool true)], args := [d1, d2, d3] }
  | _ => none }
def findOverRow : OpenClaim := { program := "ytgbfccbnbgbknaa", sum := "8f8e665c88f095a177a9ddcc5a96d788c8c510460eac2115280f00552cbfd0ce", func := "lemmary/lemmarylaw05.FindOver", spec := "findOver", unfollowed := true, recurses := true, plainKeys := false, apart := false }
def FindOverSaid : Prop := findOverRow.holds Try.pinned (OpenSpec.ofChange findOverSpec)

/-- ITS FALSE NEIGHBOUR: 'it returns false'. Refute it at one input. -/
def findOverWrong : ChangeSpec := { name := "findOver", fn := fun _ => fun
  | [d1, d2, d3] => { results := [.lit (.bool false)], args := [d1, d2, d3] }
  | _ => none }
def FindOverWrongFalsely : Prop := findOverRow.holds Try.pinned (OpenSpec.ofChange findOverWrong)

/- THE SECOND FORM. 'bulk': how many values and letters a reading holds, each counted each time it is reached (what is shared counts as often as it is met; a slice's spare places count too). A statement '..UptoSaid' is the law's where the arguments, and the package variables that the reading takes, are together of bulk at most 1048576: NARROWER than '..Said'. Prove '..Said' where nothing that the law and all that it calls make is longer than what came in: it says more and counts as full. Else prove '..UptoSaid'. A law counts once. -/
mutual
def uptoBulk {H : Type} : DataW H → Nat
  | .lit (.string bytes) => bytes.length + 1
  | .lit _ => 1
  | .nil => 1
  | .ptr d => uptoBulk d + 1
  | .slice elems spare => uptoBulkAll elems + uptoBulkAll spare + 1
  | .agg parts => uptoBulkAll parts + 1
  | .iface _ d => uptoBulk d + 1
  | .map entries => uptoBulkEntries entries + 1
  | .held _ => 1
def uptoBulkAll {H : Type} : List (DataW H) → Nat
  | [] => 0
  | d :: r => uptoBulk d + uptoBulkAll r
def uptoBulkEntries {H : Type} : List (Lit × DataW H) → Nat
  | [] => 0
  | x :: r => uptoBulkEntry x + uptoBulkEntries r
def uptoBulkEntry {H : Type} : Lit × DataW H → Nat
  | (.string bytes, d) => bytes.length + uptoBulk d + 1
  | (_, d) => uptoBulk d + 1
 end
def uptoSmall : (H : Type) → List (DataW H) → Bool := fun _ ds => decide (uptoBulkAll ds ≤ 1048576)
def OpenSpec.upto (s : _root_.Go.ChangeSpec) : _root_.Go.OpenSpec := { _root_.Go.OpenSpec.ofChange s with cond := some uptoSmall }

/-- 'lemmarylaw01.TermCanonical', WHERE WHAT IT READS IS OF BULK AT MOST 1048576: true; the input reads as it did. -/
def termCanonicalUptoRow : OpenClaim := { program := "ytgbfccbnbgbknaa", sum := "8f8e665c88f095a177a9ddcc5a96d788c8c510460eac2115280f00552cbfd0ce", func := "lemmary/lemmarylaw01.TermCanonical", spec := "termCanonical", unfollowed := true, recurses := true, plainKeys := false, apart := false, narrowed := true }
def TermCanonicalUptoSaid : Prop := termCanonicalUptoRow.holds Try.pinned (OpenSpec.upto termCanonicalSpec)

/-- 'lemmarylaw02.UnifyBinds', WHERE WHAT IT READS IS OF BULK AT MOST 1048576: true; the input reads as it did. -/
def unifyBindsUptoRow : OpenClaim := { program := "ytgbfccbnbgbknaa", sum := "8f8e665c88f095a177a9ddcc5a96d788c8c510460eac2115280f00552cbfd0ce", func := "lemmary/lemmarylaw02.UnifyBinds", spec := "unifyBinds", unfollowed := true, recurses := true, plainKeys := false, apart := false, narrowed := true }
def UnifyBindsUptoSaid : Prop := unifyBindsUptoRow.holds Try.pinned (OpenSpec.upto unifyBindsSpec)

/-- 'lemmarylaw02.UnifyApplies', WHERE WHAT IT READS IS OF BULK AT MOST 1048576: true; the input reads as it did. -/
def unifyAppliesUptoRow : OpenClaim := { program := "ytgbfccbnbgbknaa", sum := "8f8e665c88f095a177a9ddcc5a96d788c8c510460eac2115280f00552cbfd0ce", func := "lemmary/lemmarylaw02.UnifyApplies", spec := "unifyApplies", unfollowed := true, recurses := true, plainKeys := false, apart := false, narrowed := true }
def UnifyAppliesUptoSaid : Prop := unifyAppliesUptoRow.holds Try.pinned (OpenSpec.upto unifyAppliesSpec)

/-- 'lemmarylaw02.UnifyMatches', WHERE WHAT IT READS IS OF BULK AT MOST 1048576: true; the input reads as it did. -/
def unifyMatchesUptoRow : OpenClaim := { program := "ytgbfccbnbgbknaa", sum := "8f8e665c88f095a177a9ddcc5a96d788c8c510460eac2115280f00552cbfd0ce", func := "lemmary/lemmarylaw02.UnifyMatches", spec := "unifyMatches", unfollowed := true, recurses := true, plainKeys := false, apart := false, narrowed := true }
def UnifyMatchesUptoSaid : Prop := unifyMatchesUptoRow.holds Try.pinned (OpenSpec.upto unifyMatchesSpec)

/-- 'lemmarylaw02.UnifyGeneral', WHERE WHAT IT READS IS OF BULK AT MOST 1048576: true; the input reads as it did. -/
def unifyGeneralUptoRow : OpenClaim := { program := "ytgbfccbnbgbknaa", sum := "8f8e665c88f095a177a9ddcc5a96d788c8c510460eac2115280f00552cbfd0ce", func := "lemmary/lemmarylaw02.UnifyGeneral", spec := "unifyGeneral", unfollowed := true, recurses := true, plainKeys := false, apart := false, narrowed := true }
def UnifyGeneralUptoSaid : Prop := unifyGeneralUptoRow.holds Try.pinned (OpenSpec.upto unifyGeneralSpec)

/-- 'lemmarylaw02.UnifyMeets', WHERE WHAT IT READS IS OF BULK AT MOST 1048576: true; the input reads as it did. -/
def unifyMeetsUptoRow : OpenClaim := { program := "ytgbfccbnbgbknaa", sum := "8f8e665c88f095a177a9ddcc5a96d788c8c510460eac2115280f00552cbfd0ce", func := "lemmary/lemmarylaw02.UnifyMeets", spec := "unifyMeets", unfollowed := true, recurses := true, plainKeys := false, apart := false, narrowed := true }
def UnifyMeetsUptoSaid : Prop := unifyMeetsUptoRow.holds Try.pinned (OpenSpec.upto unifyMeetsSpec)

/-- 'lemmarylaw02.UnifyJoins', WHERE WHAT IT READS IS OF BULK AT MOST 1048576: true; the input reads as it did. -/
def unifyJoinsUptoRow : OpenClaim := { program := "ytgbfccbnbgbknaa", sum := "8f8e665c88f095a177a9ddcc5a96d788c8c510460eac2115280f00552cbfd0ce", func := "lemmary/lemmarylaw02.UnifyJoins", spec := "unifyJoins", unfollowed := true, recurses := true, plainKeys := false, apart := false, narrowed := true }
def UnifyJoinsUptoSaid : Prop := unifyJoinsUptoRow.holds Try.pinned (OpenSpec.upto unifyJoinsSpec)

/-- 'lemmarylaw05.FindSearches', WHERE WHAT IT READS IS OF BULK AT MOST 1048576: true; the input reads as it did. -/
def findSearchesUptoRow : OpenClaim := { program := "ytgbfccbnbgbknaa", sum := "8f8e665c88f095a177a9ddcc5a96d788c8c510460eac2115280f00552cbfd0ce", func := "lemmary/lemmarylaw05.FindSearches", spec := "findSearches", unfollowed := true, recurses := true, plainKeys := false, apart := false, narrowed := true }
def FindSearchesUptoSaid : Prop := findSearchesUptoRow.holds Try.pinned (OpenSpec.upto findSearchesSpec)

/-- 'lemmarylaw05.FindParts', WHERE WHAT IT READS IS OF BULK AT MOST 1048576: true; the input reads as it did. -/
def findPartsUptoRow : OpenClaim := { program := "ytgbfccbnbgbknaa", sum := "8f8e665c88f095a177a9ddcc5a96d788c8c510460eac2115280f00552cbfd0ce", func := "lemmary/lemmarylaw05.FindParts", spec := "findParts", unfollowed := true, recurses := true, plainKeys := false, apart := false, narrowed := true }
def FindPartsUptoSaid : Prop := findPartsUptoRow.holds Try.pinned (OpenSpec.upto findPartsSpec)

/-- 'lemmarylaw05.FindWith', WHERE WHAT IT READS IS OF BULK AT MOST 1048576: true; the input reads as it did. -/
def findWithUptoRow : OpenClaim := { program := "ytgbfccbnbgbknaa", sum := "8f8e665c88f095a177a9ddcc5a96d788c8c510460eac2115280f00552cbfd0ce", func := "lemmary/lemmarylaw05.FindWith", spec := "findWith", unfollowed := true, recurses := true, plainKeys := false, apart := false, narrowed := true }
def FindWithUptoSaid : Prop := findWithUptoRow.holds Try.pinned (OpenSpec.upto findWithSpec)

/-- 'lemmarylaw05.FindRanks', WHERE WHAT IT READS IS OF BULK AT MOST 1048576: true; the input reads as it did. -/
def findRanksUptoRow : OpenClaim := { program := "ytgbfccbnbgbknaa", sum := "8f8e665c88f095a177a9ddcc5a96d788c8c510460eac2115280f00552cbfd0ce", func := "lemmary/lemmarylaw05.FindRanks", spec := "findRanks", unfollowed := true, recurses := true, plainKeys := false, apart := false, narrowed := true }
def FindRanksUptoSaid : Prop := findRanksUptoRow.holds Try.pinned (OpenSpec.upto findRanksSpec)

/-- 'lemmarylaw05.FindGroups', WHERE WHAT IT READS IS OF BULK AT MOST 1048576: true; the input reads as it did. -/
def findGroupsUptoRow : OpenClaim := { program := "ytgbfccbnbgbknaa", sum := "8f8e665c88f095a177a9ddcc5a96d788c8c510460eac2115280f00552cbfd0ce", func := "lemmary/lemmarylaw05.FindGroups", spec := "findGroups", unfollowed := true, recurses := true, plainKeys := false, apart := false, narrowed := true }
def FindGroupsUptoSaid : Prop := findGroupsUptoRow.holds Try.pinned (OpenSpec.upto findGroupsSpec)

/-- 'lemmarylaw05.FindBases', WHERE WHAT IT READS IS OF BULK AT MOST 1048576: true; the input reads as it did. -/
def findBasesUptoRow : OpenClaim := { program := "ytgbfccbnbgbknaa", sum := "8f8e665c88f095a177a9ddcc5a96d788c8c510460eac2115280f00552cbfd0ce", func := "lemmary/lemmarylaw05.FindBases", spec := "findBases", unfollowed := true, recurses := true, plainKeys := false, apart := false, narrowed := true }
def FindBasesUptoSaid : Prop := findBasesUptoRow.holds Try.pinned (OpenSpec.upto findBasesSpec)

/-- 'lemmarylaw05.FindOver', WHERE WHAT IT READS IS OF BULK AT MOST 1048576: true; the input reads as it did. -/
def findOverUptoRow : OpenClaim := { program := "ytgbfccbnbgbknaa", sum := "8f8e665c88f095a177a9ddcc5a96d788c8c510460eac2115280f00552cbfd0ce", func := "lemmary/lemmarylaw05.FindOver", spec := "findOver", unfollowed := true, recurses := true, plainKeys := false, apart := false, narrowed := true }
def FindOverUptoSaid : Prop := findOverUptoRow.holds Try.pinned (OpenSpec.upto findOverSpec)

end Rows
end Go.Proofs.Ytgbfccbnbgbknaa
