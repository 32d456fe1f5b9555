/-
  No cell of these rows narrows 'for every input' (looked for: loops, veiled, ifaces, maps, wideKeys, modest, calm, conditions, laid).
  DERIVED. THE GIVEN ROWS OF THIS SEAT. 7 by the template 'for every input the law returns true; each argument reads behind the call as it read before'; 0 by the template 'total and deterministic' (their statements: YtaldgjcbbjjceaaTotals.lean).
  GIVEN WITH THE SEED: the statements are not yours to turn. If you find one false, say at which input.
  Laid BY PROGRAM, IN A SANDBOX (cutbox-rows.mjs): the forced cells as the released guide's own fill.sh prints them over the translation 30472b263a045fcb… (all of the seat's roots in one cut). By AI agents, Wed Nov 11 2026. No macro, syntax, notation, axiom, sorry.
-/
import Derived.Test.YtaldgjcbbjjceaaChecked
import GoSem.Claim
import GoSem.ClaimJoined
import GoSem.ClaimMapViews
import Derived.JoinedTies
import Derived.KernelRfl
namespace Go.Proofs.Ytaldgjcbbjjceaa
/- THE CELL 'sum', in the pinned program and in every row, IS THE sha256 OF THE DUMP (.gsa) THAT YtaldgjcbbjjceaaProg.lean LOADS. Nothing in Lean hashes anything: it is a label: what it is worth is what the hold of that sum in a sandbox is worth. -/
noncomputable def Try.pinned : Pinned := { name := "ytaldgjcbbjjceaa", sum := "30472b263a045fcb57bf22ca769f824473f3a788132439b227addc2482b777de", checked := Try.checked }
namespace Rows
def none {H : Type} : Left H := { results := [], args := [] }

/-- 'leveelaw10.ValueTells': WHATEVER THE INPUT: true; the input reads as it did. -/
def valueTellsSpec : ChangeSpec := { name := "valueTells", fn := fun _ => fun
  | [d1, d2, d3, d4, d5] => { results := [.lit (.bool true)], args := [d1, d2, d3, d4, d5] }
  | _ => none }
def valueTellsRow : OpenClaim := { program := "ytaldgjcbbjjceaa", sum := "30472b263a045fcb57bf22ca769f824473f3a788132439b227addc2482b777de", func := "levee/leveelaw10.ValueTells", spec := "valueTells", unfollowed := true, recurses := true, apart := false }
def ValueTellsSaid : Prop := valueTellsRow.holds Try.pinned (OpenSpec.ofChange valueTellsSpec)

/-- ITS FALSE NEIGHBOUR: 'it returns false'. Refute it at one input. -/
def valueTellsWrong : ChangeSpec := { name := "valueTells", fn := fun _ => fun
  | [d1, d2, d3, d4, d5] => { results := [.lit (.bool false)], args := [d1, d2, d3, d4, d5] }
  | _ => none }
def ValueTellsWrongFalsely : Prop := valueTellsRow.holds Try.pinned (OpenSpec.ofChange valueTellsWrong)

/-- 'leveelaw10.ValueOthers': WHATEVER THE INPUT: true; the input reads as it did. -/
def valueOthersSpec : ChangeSpec := { name := "valueOthers", fn := fun _ => fun
  | [d1, d2, d3, d4, d5] => { results := [.lit (.bool true)], args := [d1, d2, d3, d4, d5] }
  | _ => none }
def valueOthersRow : OpenClaim := { program := "ytaldgjcbbjjceaa", sum := "30472b263a045fcb57bf22ca769f824473f3a788132439b227addc2482b777de", func := "levee/leveelaw10.ValueOthers", spec := "valueOthers", unfollowed := true, recurses := true, apart := false }
def ValueOthersSaid : Prop := valueOthersRow.holds Try.pinned (OpenSpec.ofChange valueOthersSpec)

/-- ITS FALSE NEIGHBOUR: 'it returns false'. Refute it at one input. -/
def valueOthersWrong : ChangeSpec := { name := "valueOthers", fn := fun _ => fun
  | [d1, d2, d3, d4, d5] => { results := [.lit (.bool false)], args := [d1, d2, d3, d4, d5] }
  | _ => none }
def ValueOthersWrongFalsely : Prop := valueOthersRow.holds Try.pinned (OpenSpec.ofChange valueOthersWrong)

/-- 'leveelaw10.ValueAside': WHATEVER THE INPUT: true; the input reads as it did. -/
def valueAsideSpec : ChangeSpec := { name := "valueAside", fn := fun _ => fun
  | [d1, d2, d3, d4] => { results := [.lit (.bool true)], args := [d1, d2, d3, d4] }
  | _ => none }
def valueAsideRow : OpenClaim := { program := "ytaldgjcbbjjceaa", sum := "30472b263a045fcb57bf22ca769f824473f3a788132439b227addc2482b777de", func := "levee/leveelaw10.ValueAside", spec := "valueAside", unfollowed := true, recurses := true, apart := false }
def ValueAsideSaid : Prop := valueAsideRow.holds Try.pinned (OpenSpec.ofChange valueAsideSpec)

/-- ITS FALSE NEIGHBOUR: 'it returns false'. Refute it at one input. -/
def valueAsideWrong : ChangeSpec := { name := "valueAside", fn := fun _ => fun
  | [d1, d2, d3, d4] => { results := [.lit (.bool false)], args := [d1, d2, d3, d4] }
  | _ => none }
def ValueAsideWrongFalsely : Prop := valueAsideRow.holds Try.pinned (OpenSpec.ofChange valueAsideWrong)

/-- 'leveelaw10.ValueCounts': WHATEVER THE INPUT: true; the input reads as it did. -/
def valueCountsSpec : ChangeSpec := { name := "valueCounts", fn := fun _ => fun
  | [d1, d2, d3, d4, d5] => { results := [.lit (.bool true)], args := [d1, d2, d3, d4, d5] }
  | _ => none }
def valueCountsRow : OpenClaim := { program := "ytaldgjcbbjjceaa", sum := "30472b263a045fcb57bf22ca769f824473f3a788132439b227addc2482b777de", func := "levee/leveelaw10.ValueCounts", spec := "valueCounts", unfollowed := true, recurses := true, apart := false }
def ValueCountsSaid : Prop := valueCountsRow.holds Try.pinned (OpenSpec.ofChange valueCountsSpec)

/-- ITS FALSE NEIGHBOUR: 'it returns false'. Refute it at one input. -/
def valueCountsWrong : ChangeSpec := { name := "valueCounts", fn := fun _ => fun
  | [d1, d2, d3, d4, d5] => { results := [.lit (.bool false)], args := [d1, d2, d3, d4, d5] }
  | _ => none }
def ValueCountsWrongFalsely : Prop := valueCountsRow.holds Try.pinned (OpenSpec.ofChange valueCountsWrong)

/-- 'leveelaw10.ValueSorted': WHATEVER THE INPUT: true; the input reads as it did. -/
def valueSortedSpec : ChangeSpec := { name := "valueSorted", fn := fun _ => fun
  | [d1, d2, d3, d4] => { results := [.lit (.bool true)], args := [d1, d2, d3, d4] }
  | _ => none }
def valueSortedRow : OpenClaim := { program := "ytaldgjcbbjjceaa", sum := "30472b263a045fcb57bf22ca769f824473f3a788132439b227addc2482b777de", func := "levee/leveelaw10.ValueSorted", spec := "valueSorted", unfollowed := true, recurses := true, apart := false }
def ValueSortedSaid : Prop := valueSortedRow.holds Try.pinned (OpenSpec.ofChange valueSortedSpec)

/-- ITS FALSE NEIGHBOUR: 'it returns false'. Refute it at one input. -/
def valueSortedWrong : ChangeSpec := { name := "valueSorted", fn := fun _ => fun
  | [d1, d2, d3, d4] => { results := [.lit (.bool false)], args := [d1, d2, d3, d4] }
  | _ => none }
def ValueSortedWrongFalsely : Prop := valueSortedRow.holds Try.pinned (OpenSpec.ofChange valueSortedWrong)

/-- 'leveelaw11.FoldOthers': WHATEVER THE INPUT: true; the input reads as it did. -/
def foldOthersSpec : ChangeSpec := { name := "foldOthers", fn := fun _ => fun
  | [d1, d2, d3] => { results := [.lit (.bool true)], args := [d1, d2, d3] }
  | _ => none }
def foldOthersRow : OpenClaim := { program := "ytaldgjcbbjjceaa", sum := "30472b263a045fcb57bf22ca769f824473f3a788132439b227addc2482b777de", func := "levee/leveelaw11.FoldOthers", spec := "foldOthers", inPlace := ["slices.overlaps[levee/api.Tag]", "slices.overlaps[string]"], unfollowed := true, recurses := true, apart := false }
def FoldOthersSaid : Prop := foldOthersRow.holds Try.pinned (OpenSpec.ofChange foldOthersSpec)

/-- ITS FALSE NEIGHBOUR: 'it returns false'. Refute it at one input. -/
def foldOthersWrong : ChangeSpec := { name := "foldOthers", fn := fun _ => fun
  | [d1, d2, d3] => { results := [.lit (.bool false)], args := [d1, d2, d3] }
  | _ => none }
def FoldOthersWrongFalsely : Prop := foldOthersRow.holds Try.pinned (OpenSpec.ofChange foldOthersWrong)

/-- 'leveelaw11.FoldTags': WHATEVER THE INPUT: true; the input reads as it did. -/
def foldTagsSpec : ChangeSpec := { name := "foldTags", fn := fun _ => fun
  | [d1, d2, d3, d4] => { results := [.lit (.bool true)], args := [d1, d2, d3, d4] }
  | _ => none }
def foldTagsRow : OpenClaim := { program := "ytaldgjcbbjjceaa", sum := "30472b263a045fcb57bf22ca769f824473f3a788132439b227addc2482b777de", func := "levee/leveelaw11.FoldTags", spec := "foldTags", inPlace := ["slices.overlaps[levee/api.Tag]", "slices.overlaps[string]"], unfollowed := true, recurses := true, apart := false }
def FoldTagsSaid : Prop := foldTagsRow.holds Try.pinned (OpenSpec.ofChange foldTagsSpec)

/-- ITS FALSE NEIGHBOUR: 'it returns false'. Refute it at one input. -/
def foldTagsWrong : ChangeSpec := { name := "foldTags", fn := fun _ => fun
  | [d1, d2, d3, d4] => { results := [.lit (.bool false)], args := [d1, d2, d3, d4] }
  | _ => none }
def FoldTagsWrongFalsely : Prop := foldTagsRow.holds Try.pinned (OpenSpec.ofChange foldTagsWrong)

/- THE SECOND FORM. 'bulk': how many values and letters a reading holds, each counted each time it is reached (what is shared counts as often as it is met; a slice's spare places count too). A statement '..UptoSaid' is the law's where the arguments, and the package variables that the reading takes, are together of bulk at most 1048576: NARROWER than '..Said'. Prove '..Said' where nothing that the law and all that it calls make is longer than what came in: it says more and counts as full. Else prove '..UptoSaid'. A law counts once. -/
mutual
def uptoBulk {H : Type} : DataW H → Nat
  | .lit (.string bytes) => bytes.length + 1
  | .lit _ => 1
  | .nil => 1
  | .ptr d => uptoBulk d + 1
  | .slice elems spare => uptoBulkAll elems + uptoBulkAll spare + 1
  | .agg parts => uptoBulkAll parts + 1
  | .iface _ d => uptoBulk d + 1
  | .map entries => uptoBulkEntries entries + 1
  | .held _ => 1
def uptoBulkAll {H : Type} : List (DataW H) → Nat
  | [] => 0
  | d :: r => uptoBulk d + uptoBulkAll r
def uptoBulkEntries {H : Type} : List (Lit × DataW H) → Nat
  | [] => 0
  | x :: r => uptoBulkEntry x + uptoBulkEntries r
def uptoBulkEntry {H : Type} : Lit × DataW H → Nat
  | (.string bytes, d) => bytes.length + uptoBulk d + 1
  | (_, d) => uptoBulk d + 1
 end
def uptoSmall : (H : Type) → List (DataW H) → Bool := fun _ ds => decide (uptoBulkAll ds ≤ 1048576)
def OpenSpec.upto (s : _root_.Go.ChangeSpec) : _root_.Go.OpenSpec := { _root_.Go.OpenSpec.ofChange s with cond := some uptoSmall }

/-- 'leveelaw10.ValueTells', WHERE WHAT IT READS IS OF BULK AT MOST 1048576: true; the input reads as it did. -/
def valueTellsUptoRow : OpenClaim := { program := "ytaldgjcbbjjceaa", sum := "30472b263a045fcb57bf22ca769f824473f3a788132439b227addc2482b777de", func := "levee/leveelaw10.ValueTells", spec := "valueTells", unfollowed := true, recurses := true, apart := false, narrowed := true }
def ValueTellsUptoSaid : Prop := valueTellsUptoRow.holds Try.pinned (OpenSpec.upto valueTellsSpec)

/-- 'leveelaw10.ValueOthers', WHERE WHAT IT READS IS OF BULK AT MOST 1048576: true; the input reads as it did. -/
def valueOthersUptoRow : OpenClaim := { program := "ytaldgjcbbjjceaa", sum := "30472b263a045fcb57bf22ca769f824473f3a788132439b227addc2482b777de", func := "levee/leveelaw10.ValueOthers", spec := "valueOthers", unfollowed := true, recurses := true, apart := false, narrowed := true }
def ValueOthersUptoSaid : Prop := valueOthersUptoRow.holds Try.pinned (OpenSpec.upto valueOthersSpec)

/-- 'leveelaw10.ValueAside', WHERE WHAT IT READS IS OF BULK AT MOST 1048576: true; the input reads as it did. -/
def valueAsideUptoRow : OpenClaim := { program := "ytaldgjcbbjjceaa", sum := "30472b263a045fcb57bf22ca769f824473f3a788132439b227addc2482b777de", func := "levee/leveelaw10.ValueAside", spec := "valueAside", unfollowed := true, recurses := true, apart := false, narrowed := true }
def ValueAsideUptoSaid : Prop := valueAsideUptoRow.holds Try.pinned (OpenSpec.upto valueAsideSpec)

/-- 'leveelaw10.ValueCounts', WHERE WHAT IT READS IS OF BULK AT MOST 1048576: true; the input reads as it did. -/
def valueCountsUptoRow : OpenClaim := { program := "ytaldgjcbbjjceaa", sum := "30472b263a045fcb57bf22ca769f824473f3a788132439b227addc2482b777de", func := "levee/leveelaw10.ValueCounts", spec := "valueCounts", unfollowed := true, recurses := true, apart := false, narrowed := true }
def ValueCountsUptoSaid : Prop := valueCountsUptoRow.holds Try.pinned (OpenSpec.upto valueCountsSpec)

/-- 'leveelaw10.ValueSorted', WHERE WHAT IT READS IS OF BULK AT MOST 1048576: true; the input reads as it did. -/
def valueSortedUptoRow : OpenClaim := { program := "ytaldgjcbbjjceaa", sum := "30472b263a045fcb57bf22ca769f824473f3a788132439b227addc2482b777de", func := "levee/leveelaw10.ValueSorted", spec := "valueSorted", unfollowed := true, recurses := true, apart := false, narrowed := true }
def ValueSortedUptoSaid : Prop := valueSortedUptoRow.holds Try.pinned (OpenSpec.upto valueSortedSpec)

/-- 'leveelaw11.FoldOthers', WHERE WHAT IT READS IS OF BULK AT MOST 1048576: true; the input reads as it did. -/
def foldOthersUptoRow : OpenClaim := { program := "ytaldgjcbbjjceaa", sum := "30472b263a045fcb57bf22ca769f824473f3a788132439b227addc2482b777de", func := "levee/leveelaw11.FoldOthers", spec := "foldOthers", inPlace := ["slices.overlaps[levee/api.Tag]", "slices.overlaps[string]"], unfollowed := true, recurses := true, apart := false, narrowed := true }
def FoldOthersUptoSaid : Prop := foldOthersUptoRow.holds Try.pinned (OpenSpec.upto foldOthersSpec)

/-- 'leveelaw11.FoldTags', WHERE WHAT IT READS IS OF BULK AT MOST 1048576: true; the input reads as it did. -/
def foldTagsUptoRow : OpenClaim := { program := "ytaldgjcbbjjceaa", sum := "30472b263a045fcb57bf22ca769f824473f3a788132439b227addc2482b777de", func := "levee/leveelaw11.FoldTags", spec := "foldTags", inPlace := ["slices.overlaps[levee/api.Tag]", "slices.overlaps[string]"], unfollowed := true, recurses := true, apart := false, narrowed := true }
def FoldTagsUptoSaid : Prop := foldTagsUptoRow.holds Try.pinned (OpenSpec.upto foldTagsSpec)

end Rows
end Go.Proofs.Ytaldgjcbbjjceaa
