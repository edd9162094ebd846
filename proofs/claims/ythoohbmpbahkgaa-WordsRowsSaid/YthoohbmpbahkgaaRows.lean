/-
  No cell of these rows narrows 'for every input' (looked for: loops, veiled, ifaces, maps, wideKeys, modest, calm, conditions, laid).
  DERIVED. THE GIVEN ROWS OF THIS SEAT. 9 by the template 'for every input the law returns true; each argument reads behind the call as it read before'; 0 by the template 'total and deterministic' (their statements: YthoohbmpbahkgaaTotals.lean).
  GIVEN WITH THE SEED: the statements are not yours to turn. If you find one false, say at which input.
  Laid BY PROGRAM, IN A SANDBOX (cutbox-rows.mjs): the forced cells as the released guide's own fill.sh prints them over the translation fdfd25e83b9dd42d… (all of the seat's roots in one cut). By AI agents, Wed Nov 11 2026. No macro, syntax, notation, axiom, sorry.
-/
import Derived.Test.YthoohbmpbahkgaaChecked
import GoSem.Claim
import GoSem.ClaimJoined
import GoSem.ClaimMapViews
import Derived.JoinedTies
import Derived.KernelRfl
namespace Go.Proofs.Ythoohbmpbahkgaa
/- THE CELL 'sum', in the pinned program and in every row, IS THE sha256 OF THE DUMP (.gsa) THAT YthoohbmpbahkgaaProg.lean LOADS. Nothing in Lean hashes anything: it is a label: what it is worth is what the hold of that sum in a sandbox is worth. -/
noncomputable def Try.pinned : Pinned := { name := "ythoohbmpbahkgaa", sum := "fdfd25e83b9dd42d60cc6c7e7fff14157118520955e68861a9090521bee9779a", checked := Try.checked }
namespace Rows
def none {H : Type} : Left H := { results := [], args := [] }

/-- 'fleuronlaw05.WordsAll': WHATEVER THE INPUT: true; the input reads as it did. -/
def wordsAllSpec : ChangeSpec := { name := "wordsAll", fn := fun _ => fun
  | [d] => { results := [.lit (.bool true)], args := [d] }
  | _ => none }
def wordsAllRow : OpenClaim := { program := "ythoohbmpbahkgaa", sum := "fdfd25e83b9dd42d60cc6c7e7fff14157118520955e68861a9090521bee9779a", func := "fleuron/fleuronlaw05.WordsAll", spec := "wordsAll", unfollowed := true, recurses := true, apart := false }
def WordsAllSaid : Prop := wordsAllRow.holds Try.pinned (OpenSpec.ofChange wordsAllSpec)

/-- ITS FALSE NEIGHBOUR: 'it returns false'. Refute it at one input. -/
def wordsAllWrong : ChangeSpec := { name := "wordsAll", fn := fun _ => fun
  | [d] => { results := [.lit (.bool false)], args := [d] }
  | _ => none }
def WordsAllWrongFalsely : Prop := wordsAllRow.holds Try.pinned (OpenSpec.ofChange wordsAllWrong)

/-- 'fleuronlaw05.WordsKinds': WHATEVER THE INPUT: true; the input reads as it did. -/
def wordsKindsSpec : ChangeSpec := { name := "wordsKinds", fn := fun _ => fun
  | [d] => { results := [.lit (.bool true)], args := [d] }
  | _ => none }
def wordsKindsRow : OpenClaim := { program := "ythoohbmpbahkgaa", sum := "fdfd25e83b9dd42d60cc6c7e7fff14157118520955e68861a9090521bee9779a", func := "fleuron/fleuronlaw05.WordsKinds", spec := "wordsKinds", unfollowed := true, recurses := true, apart := false }
def WordsKindsSaid : Prop := wordsKindsRow.holds Try.pinned (OpenSpec.ofChange wordsKindsSpec)

/-- ITS FALSE NEIGHBOUR: 'it returns false'. Refute it at one input. -/
def wordsKindsWrong : ChangeSpec := { name := "wordsKinds", fn := fun _ => fun
  | [d] => { results := [.lit (.bool false)], args := [d] }
  | _ => none }
def WordsKindsWrongFalsely : Prop := wordsKindsRow.holds Try.pinned (OpenSpec.ofChange wordsKindsWrong)

/-- 'fleuronlaw05.WordsSets': WHATEVER THE INPUT: true; the input reads as it did. -/
def wordsSetsSpec : ChangeSpec := { name := "wordsSets", fn := fun _ => fun
  | [d1, d2] => { results := [.lit (.bool true)], args := [d1, d2] }
  | _ => none }
def wordsSetsRow : OpenClaim := { program := "ythoohbmpbahkgaa", sum := "fdfd25e83b9dd42d60cc6c7e7fff14157118520955e68861a9090521bee9779a", func := "fleuron/fleuronlaw05.WordsSets", spec := "wordsSets", unfollowed := true, recurses := true, apart := false }
def WordsSetsSaid : Prop := wordsSetsRow.holds Try.pinned (OpenSpec.ofChange wordsSetsSpec)

/-- ITS FALSE NEIGHBOUR: 'it returns false'. Refute it at one input. -/
def wordsSetsWrong : ChangeSpec := { name := "wordsSets", fn := fun _ => fun
  | [d1, d2] => { results := [.lit (.bool false)], args := [d1, d2] }
  | _ => none }
def WordsSetsWrongFalsely : Prop := wordsSetsRow.holds Try.pinned (OpenSpec.ofChange wordsSetsWrong)

/-- 'fleuronlaw05.WordsBack': WHATEVER THE INPUT: true; the input reads as it did. -/
def wordsBackSpec : ChangeSpec := { name := "wordsBack", fn := fun _ => fun
  | [d1, d2] => { results := [.lit (.bool true)], args := [d1, d2] }
  | _ => none }
def wordsBackRow : OpenClaim := { program := "ythoohbmpbahkgaa", sum := "fdfd25e83b9dd42d60cc6c7e7fff14157118520955e68861a9090521bee9779a", func := "fleuron/fleuronlaw05.WordsBack", spec := "wordsBack", unfollowed := true, recurses := true, apart := false }
def WordsBackSaid : Prop := wordsBackRow.holds Try.pinned (OpenSpec.ofChange wordsBackSpec)

/-- ITS FALSE NEIGHBOUR: 'it returns false'. Refute it at one input. -/
def wordsBackWrong : ChangeSpec := { name := "wordsBack", fn := fun _ => fun
  | [d1, d2] => { results := [.lit (.bool false)], args := [d1, d2] }
  | _ => none }
def WordsBackWrongFalsely : Prop := wordsBackRow.holds Try.pinned (OpenSpec.ofChange wordsBackWrong)

/-- 'fleuronlaw05.WordsPlaces': WHATEVER THE INPUT: true; the input reads as it did. -/
def wordsPlacesSpec : ChangeSpec := { name := "wordsPlaces", fn := fun _ => fun
  | [d] => { results := [.lit (.bool true)], args := [d] }
  | _ => none }
def wordsPlacesRow : OpenClaim := { program := "ythoohbmpbahkgaa", sum := "fdfd25e83b9dd42d60cc6c7e7fff14157118520955e68861a9090521bee9779a", func := "fleuron/fleuronlaw05.WordsPlaces", spec := "wordsPlaces", unfollowed := true, recurses := true, apart := false }
def WordsPlacesSaid : Prop := wordsPlacesRow.holds Try.pinned (OpenSpec.ofChange wordsPlacesSpec)

/-- ITS FALSE NEIGHBOUR: 'it returns false'. Refute it at one input. -/
def wordsPlacesWrong : ChangeSpec := { name := "wordsPlaces", fn := fun _ => fun
  | [d] => { results := [.lit (.bool false)], args := [d] }
  | _ => none }
def WordsPlacesWrongFalsely : Prop := wordsPlacesRow.holds Try.pinned (OpenSpec.ofChange wordsPlacesWrong)

/-- 'fleuronlaw05.WordsNotes': WHATEVER THE INPUT: true; the input reads as it did. -/
def wordsNotesSpec : ChangeSpec := { name := "wordsNotes", fn := fun _ => fun
  | [d1, d2, d3] => { results := [.lit (.bool true)], args := [d1, d2, d3] }
  | _ => none }
def wordsNotesRow : OpenClaim := { program := "ythoohbmpbahkgaa", sum := "fdfd25e83b9dd42d60cc6c7e7fff14157118520955e68861a9090521bee9779a", func := "fleuron/fleuronlaw05.WordsNotes", spec := "wordsNotes", unfollowed := true, recurses := true, apart := false }
def WordsNotesSaid : Prop := wordsNotesRow.holds Try.pinned (OpenSpec.ofChange wordsNotesSpec)

/-- ITS FALSE NEIGHBOUR: 'it returns false'. Refute it at one input. -/
def wordsNotesWrong : ChangeSpec := { name := "wordsNotes", fn := fun _ => fun
  | [d1, d2, d3] => { results := [.lit (.bool false)], args := [d1, d2, d3] }
  | _ => none }
def WordsNotesWrongFalsely : Prop := wordsNotesRow.holds Try.pinned (OpenSpec.ofChange wordsNotesWrong)

/-- 'fleuronlaw05.WordsNames': WHATEVER THE INPUT: true; the input reads as it did. -/
def wordsNamesSpec : ChangeSpec := { name := "wordsNames", fn := fun _ => fun
  | [d1, d2] => { results := [.lit (.bool true)], args := [d1, d2] }
  | _ => none }
def wordsNamesRow : OpenClaim := { program := "ythoohbmpbahkgaa", sum := "fdfd25e83b9dd42d60cc6c7e7fff14157118520955e68861a9090521bee9779a", func := "fleuron/fleuronlaw05.WordsNames", spec := "wordsNames", unfollowed := true, recurses := true, apart := false }
def WordsNamesSaid : Prop := wordsNamesRow.holds Try.pinned (OpenSpec.ofChange wordsNamesSpec)

/-- ITS FALSE NEIGHBOUR: 'it returns false'. Refute it at one input. -/
def wordsNamesWrong : ChangeSpec := { name := "wordsNames", fn := fun _ => fun
  | [d1, d2] => { results := [.lit (.bool false)], args := [d1, d2] }
  | _ => none }
def WordsNamesWrongFalsely : Prop := wordsNamesRow.holds Try.pinned (OpenSpec.ofChange wordsNamesWrong)

/-- 'fleuronlaw05.WordsNumbers': WHATEVER THE INPUT: true; the input reads as it did. -/
def wordsNumbersSpec : ChangeSpec := { name := "wordsNumbers", fn := fun _ => fun
  | [d1, d2, d3] => { results := [.lit (.bool true)], args := [d1, d2, d3] }
  | _ => none }
def wordsNumbersRow : OpenClaim := { program := "ythoohbmpbahkgaa", sum := "fdfd25e83b9dd42d60cc6c7e7fff14157118520955e68861a9090521bee9779a", func := "fleuron/fleuronlaw05.WordsNumbers", spec := "wordsNumbers", unfollowed := true, recurses := true, apart := false }
def WordsNumbersSaid : Prop := wordsNumbersRow.holds Try.pinned (OpenSpec.ofChange wordsNumbersSpec)

/-- ITS FALSE NEIGHBOUR: 'it returns false'. Refute it at one input. -/
def wordsNumbersWrong : ChangeSpec := { name := "wordsNumbers", fn := fun _ => fun
  | [d1, d2, d3] => { results := [.lit (.bool false)], args := [d1, d2, d3] }
  | _ => none }
def WordsNumbersWrongFalsely : Prop := wordsNumbersRow.holds Try.pinned (OpenSpec.ofChange wordsNumbersWrong)

/-- 'fleuronlaw05.WordsRows': WHATEVER THE INPUT: true; the input reads as it did. -/
def wordsRowsSpec : ChangeSpec := { name := "wordsRows", fn := fun _ => fun
  | [d1, d2, d3] => { results := [.lit (.bool true)], args := [d1, d2, d3] }
  | _ => none }
def wordsRowsRow : OpenClaim := { program := "ythoohbmpbahkgaa", sum := "fdfd25e83b9dd42d60cc6c7e7fff14157118520955e68861a9090521bee9779a", func := "fleuron/fleuronlaw05.WordsRows", spec := "wordsRows", unfollowed := true, recurses := true, apart := false }
def WordsRowsSaid : Prop := wordsRowsRow.holds Try.pinned (OpenSpec.ofChange wordsRowsSpec)

/-- ITS FALSE NEIGHBOUR: 'it returns false'. Refute it at one input. -/
def wordsRowsWrong : ChangeSpec := { name := "wordsRows", fn := fun _ => fun
  | [d1, d2, d3] => { results := [.lit (.bool false)], args := [d1, d2, d3] }
  | _ => none }
def WordsRowsWrongFalsely : Prop := wordsRowsRow.holds Try.pinned (OpenSpec.ofChange wordsRowsWrong)

/- THE SECOND FORM. 'bulk': how many values and letters a reading holds, each counted each time it is reached (what is shared counts as often as it is met; a slice's spare places count too). A statement '..UptoSaid' is the law's where the arguments, and the package variables that the reading takes, are together of bulk at most 1048576: NARROWER than '..Said'. Prove '..Said' where nothing that the law and all that it calls make is longer than what came in: it says more and counts as full. Else prove '..UptoSaid'. A law counts once. -/
mutual
def uptoBulk {H : Type} : DataW H → Nat
  | .lit (.string bytes) => bytes.length + 1
  | .lit _ => 1
  | .nil => 1
  | .ptr d => uptoBulk d + 1
  | .slice elems spare => uptoBulkAll elems + uptoBulkAll spare + 1
  | .agg parts => uptoBulkAll parts + 1
  | .iface _ d => uptoBulk d + 1
  | .map entries => uptoBulkEntries entries + 1
  | .held _ => 1
def uptoBulkAll {H : Type} : List (DataW H) → Nat
  | [] => 0
  | d :: r => uptoBulk d + uptoBulkAll r
def uptoBulkEntries {H : Type} : List (Lit × DataW H) → Nat
  | [] => 0
  | x :: r => uptoBulkEntry x + uptoBulkEntries r
def uptoBulkEntry {H : Type} : Lit × DataW H → Nat
  | (.string bytes, d) => bytes.length + uptoBulk d + 1
  | (_, d) => uptoBulk d + 1
 end
def uptoSmall : (H : Type) → List (DataW H) → Bool := fun _ ds => decide (uptoBulkAll ds ≤ 1048576)
def OpenSpec.upto (s : _root_.Go.ChangeSpec) : _root_.Go.OpenSpec := { _root_.Go.OpenSpec.ofChange s with cond := some uptoSmall }

/-- 'fleuronlaw05.WordsAll', WHERE WHAT IT READS IS OF BULK AT MOST 1048576: true; the input reads as it did. -/
def wordsAllUptoRow : OpenClaim := { program := "ythoohbmpbahkgaa", sum := "fdfd25e83b9dd42d60cc6c7e7fff14157118520955e68861a9090521bee9779a", func := "fleuron/fleuronlaw05.WordsAll", spec := "wordsAll", unfollowed := true, recurses := true, apart := false, narrowed := true }
def WordsAllUptoSaid : Prop := wordsAllUptoRow.holds Try.pinned (OpenSpec.upto wordsAllSpec)

/-- 'fleuronlaw05.WordsKinds', WHERE WHAT IT READS IS OF BULK AT MOST 1048576: true; the input reads as it did. -/
def wordsKindsUptoRow : OpenClaim := { program := "ythoohbmpbahkgaa", sum := "fdfd25e83b9dd42d60cc6c7e7fff14157118520955e68861a9090521bee9779a", func := "fleuron/fleuronlaw05.WordsKinds", spec := "wordsKinds", unfollowed := true, recurses := true, apart := false, narrowed := true }
def WordsKindsUptoSaid : Prop := wordsKindsUptoRow.holds Try.pinned (OpenSpec.upto wordsKindsSpec)

/-- 'fleuronlaw05.WordsSets', WHERE WHAT IT READS IS OF BULK AT MOST 1048576: true; the input reads as it did. -/
def wordsSetsUptoRow : OpenClaim := { program := "ythoohbmpbahkgaa", sum := "fdfd25e83b9dd42d60cc6c7e7fff14157118520955e68861a9090521bee9779a", func := "fleuron/fleuronlaw05.WordsSets", spec := "wordsSets", unfollowed := true, recurses := true, apart := false, narrowed := true }
def WordsSetsUptoSaid : Prop := wordsSetsUptoRow.holds Try.pinned (OpenSpec.upto wordsSetsSpec)

/-- 'fleuronlaw05.WordsBack', WHERE WHAT IT READS IS OF BULK AT MOST 1048576: true; the input reads as it did. -/
def wordsBackUptoRow : OpenClaim := { program := "ythoohbmpbahkgaa", sum := "fdfd25e83b9dd42d60cc6c7e7fff14157118520955e68861a9090521bee9779a", func := "fleuron/fleuronlaw05.WordsBack", spec := "wordsBack", unfollowed := true, recurses := true, apart := false, narrowed := true }
def WordsBackUptoSaid : Prop := wordsBackUptoRow.holds Try.pinned (OpenSpec.upto wordsBackSpec)

/-- 'fleuronlaw05.WordsPlaces', WHERE WHAT IT READS IS OF BULK AT MOST 1048576: true; the input reads as it did. -/
def wordsPlacesUptoRow : OpenClaim := { program := "ythoohbmpbahkgaa", sum := "fdfd25e83b9dd42d60cc6c7e7fff14157118520955e68861a9090521bee9779a", func := "fleuron/fleuronlaw05.WordsPlaces", spec := "wordsPlaces", unfollowed := true, recurses := true, apart := false, narrowed := true }
def WordsPlacesUptoSaid : Prop := wordsPlacesUptoRow.holds Try.pinned (OpenSpec.upto wordsPlacesSpec)

/-- 'fleuronlaw05.WordsNotes', WHERE WHAT IT READS IS OF BULK AT MOST 1048576: true; the input reads as it did. -/
def wordsNotesUptoRow : OpenClaim := { program := "ythoohbmpbahkgaa", sum := "fdfd25e83b9dd42d60cc6c7e7fff14157118520955e68861a9090521bee9779a", func := "fleuron/fleuronlaw05.WordsNotes", spec := "wordsNotes", unfollowed := true, recurses := true, apart := false, narrowed := true }
def WordsNotesUptoSaid : Prop := wordsNotesUptoRow.holds Try.pinned (OpenSpec.upto wordsNotesSpec)

/-- 'fleuronlaw05.WordsNames', WHERE WHAT IT READS IS OF BULK AT MOST 1048576: true; the input reads as it did. -/
def wordsNamesUptoRow : OpenClaim := { program := "ythoohbmpbahkgaa", sum := "fdfd25e83b9dd42d60cc6c7e7fff14157118520955e68861a9090521bee9779a", func := "fleuron/fleuronlaw05.WordsNames", spec := "wordsNames", unfollowed := true, recurses := true, apart := false, narrowed := true }
def WordsNamesUptoSaid : Prop := wordsNamesUptoRow.holds Try.pinned (OpenSpec.upto wordsNamesSpec)

/-- 'fleuronlaw05.WordsNumbers', WHERE WHAT IT READS IS OF BULK AT MOST 1048576: true; the input reads as it did. -/
def wordsNumbersUptoRow : OpenClaim := { program := "ythoohbmpbahkgaa", sum := "fdfd25e83b9dd42d60cc6c7e7fff14157118520955e68861a9090521bee9779a", func := "fleuron/fleuronlaw05.WordsNumbers", spec := "wordsNumbers", unfollowed := true, recurses := true, apart := false, narrowed := true }
def WordsNumbersUptoSaid : Prop := wordsNumbersUptoRow.holds Try.pinned (OpenSpec.upto wordsNumbersSpec)

/-- 'fleuronlaw05.WordsRows', WHERE WHAT IT READS IS OF BULK AT MOST 1048576: true; the input reads as it did. -/
def wordsRowsUptoRow : OpenClaim := { program := "ythoohbmpbahkgaa", sum := "fdfd25e83b9dd42d60cc6c7e7fff14157118520955e68861a9090521bee9779a", func := "fleuron/fleuronlaw05.WordsRows", spec := "wordsRows", unfollowed := true, recurses := true, apart := false, narrowed := true }
def WordsRowsUptoSaid : Prop := wordsRowsUptoRow.holds Try.pinned (OpenSpec.upto wordsRowsSpec)

end Rows
end Go.Proofs.Ythoohbmpbahkgaa
