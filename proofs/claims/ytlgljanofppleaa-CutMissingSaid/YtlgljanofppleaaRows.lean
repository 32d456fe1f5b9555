/-
  No cell of these rows narrows 'for every input' (looked for: loops, veiled, ifaces, maps, wideKeys, modest, calm, conditions, laid).
  DERIVED. THE GIVEN ROWS OF THIS SEAT. 7 by the template 'for every input the law returns true; each argument reads behind the call as it read before'; 0 by the template 'total and deterministic' (their statements: YtlgljanofppleaaTotals.lean).
  GIVEN WITH THE SEED: the statements are not yours to turn. If you find one false, say at which input.
  Laid BY PROGRAM, IN A SANDBOX (cutbox-rows.mjs): the forced cells as the released guide's own fill.sh prints them over the translation 7d800ec36da45740… (all of the seat's roots in one cut). By AI agents, Wed Nov 11 2026. No macro, syntax, notation, axiom, sorry.
-/
import Derived.Test.YtlgljanofppleaaChecked
import GoSem.Claim
import GoSem.ClaimJoined
import GoSem.ClaimMapViews
import Derived.JoinedTies
import Derived.KernelRfl
namespace Go.Proofs.Ytlgljanofppleaa
/- THE CELL 'sum', in the pinned program and in every row, IS THE sha256 OF THE DUMP (.gsa) THAT YtlgljanofppleaaProg.lean LOADS. Nothing in Lean hashes anything: it is a label: what it is worth is what the hold of that sum in a sandbox is worth. -/
noncomputable def Try.pinned : Pinned := { name := "ytlgljanofppleaa", sum := "7d800ec36da45740412bfd02d758d09043e477c71484fb38ce820306d68619bb", checked := Try.checked }
namespace Rows
def none {H : Type} : Left H := { results := [], args := [] }

/-- 'leveelaw09.CutJoins': WHATEVER THE INPUT: true; the input reads as it did. -/
def cutJoinsSpec : ChangeSpec := { name := "cutJoins", fn := fun _ => fun
  | [d1, d2] => { results := [.lit (.bool true)], args := [d1, d2] }
  | _ => none }
def cutJoinsRow : OpenClaim := { program := "ytlgljanofppleaa", sum := "7d800ec36da45740412bfd02d758d09043e477c71484fb38ce820306d68619bb", func := "levee/leveelaw09.CutJoins", spec := "cutJoins", unfollowed := true, recurses := true, apart := false }
def CutJoinsSaid : Prop := cutJoinsRow.holds Try.pinned (OpenSpec.ofChange cutJoinsSpec)

/-- ITS FALSE NEIGHBOUR: 'it returns false'. Refute it at one input. -/
def cutJoinsWrong : ChangeSpec := { name := "cutJoins", fn := fun _ => fun
  | [d1, d2] => { results := [.lit (.bool false)], args := [d1, d2] }
  | _ => none }
def CutJoinsWrongFalsely : Prop := cutJoinsRow.holds Try.pinned (OpenSpec.ofChange cutJoinsWrong)

/-- 'leveelaw09.CutCloses': WHATEVER THE INPUT: true; the input reads as it did. -/
def cutClosesSpec : ChangeSpec := { name := "cutCloses", fn := fun _ => fun
  | [d1, d2, d3] => { results := [.lit (.bool true)], args := [d1, d2, d3] }
  | _ => none }
def cutClosesRow : OpenClaim := { program := "ytlgljanofppleaa", sum := "7d800ec36da45740412bfd02d758d09043e477c71484fb38ce820306d68619bb", func := "levee/leveelaw09.CutCloses", spec := "cutCloses", apart := false }
def CutClosesSaid : Prop := cutClosesRow.holds Try.pinned (OpenSpec.ofChange cutClosesSpec)

/-- ITS FALSE NEIGHBOUR: 'it returns false'. Refute it at one input. -/
def cutClosesWrong : ChangeSpec := { name := "cutCloses", fn := fun _ => fun
  | [d1, d2, d3] => { results := [.lit (.bool false)], args := [d1, d2, d3] }
  | _ => none }
def CutClosesWrongFalsely : Prop := cutClosesRow.holds Try.pinned (OpenSpec.ofChange cutClosesWrong)

/-- 'leveelaw09.CutOrders': WHATEVER THE INPUT: true; the input reads as it did. -/
def cutOrdersSpec : ChangeSpec := { name := "cutOrders", fn := fun _ => fun
  | [d1, d2] => { results := [.lit (.bool true)], args := [d1, d2] }
  | _ => none }
def cutOrdersRow : OpenClaim := { program := "ytlgljanofppleaa", sum := "7d800ec36da45740412bfd02d758d09043e477c71484fb38ce820306d68619bb", func := "levee/leveelaw09.CutOrders", spec := "cutOrders", unfollowed := true, recurses := true, apart := false }
def CutOrdersSaid : Prop := cutOrdersRow.holds Try.pinned (OpenSpec.ofChange cutOrdersSpec)

/-- ITS FALSE NEIGHBOUR: 'it returns false'. Refute it at one input. -/
def cutOrdersWrong : ChangeSpec := { name := "cutOrders", fn := fun _ => fun
  | [d1, d2] => { results := [.lit (.bool false)], args := [d1, d2] }
  | _ => none }
def CutOrdersWrongFalsely : Prop := cutOrdersRow.holds Try.pinned (OpenSpec.ofChange cutOrdersWrong)

/-- 'leveelaw09.CutSteps': WHATEVER THE INPUT: true; the input reads as it did. -/
def cutStepsSpec : ChangeSpec := { name := "cutSteps", fn := fun _ => fun
  | [d] => { results := [.lit (.bool true)], args := [d] }
  | _ => none }
def cutStepsRow : OpenClaim := { program := "ytlgljanofppleaa", sum := "7d800ec36da45740412bfd02d758d09043e477c71484fb38ce820306d68619bb", func := "levee/leveelaw09.CutSteps", spec := "cutSteps", unfollowed := true, recurses := true, apart := false }
def CutStepsSaid : Prop := cutStepsRow.holds Try.pinned (OpenSpec.ofChange cutStepsSpec)

/-- ITS FALSE NEIGHBOUR: 'it returns false'. Refute it at one input. -/
def cutStepsWrong : ChangeSpec := { name := "cutSteps", fn := fun _ => fun
  | [d] => { results := [.lit (.bool false)], args := [d] }
  | _ => none }
def CutStepsWrongFalsely : Prop := cutStepsRow.holds Try.pinned (OpenSpec.ofChange cutStepsWrong)

/-- 'leveelaw09.CutAdds': WHATEVER THE INPUT: true; the input reads as it did. -/
def cutAddsSpec : ChangeSpec := { name := "cutAdds", fn := fun _ => fun
  | [d1, d2] => { results := [.lit (.bool true)], args := [d1, d2] }
  | _ => none }
def cutAddsRow : OpenClaim := { program := "ytlgljanofppleaa", sum := "7d800ec36da45740412bfd02d758d09043e477c71484fb38ce820306d68619bb", func := "levee/leveelaw09.CutAdds", spec := "cutAdds", apart := false }
def CutAddsSaid : Prop := cutAddsRow.holds Try.pinned (OpenSpec.ofChange cutAddsSpec)

/-- ITS FALSE NEIGHBOUR: 'it returns false'. Refute it at one input. -/
def cutAddsWrong : ChangeSpec := { name := "cutAdds", fn := fun _ => fun
  | [d1, d2] => { results := [.lit (.bool false)], args := [d1, d2] }
  | _ => none }
def CutAddsWrongFalsely : Prop := cutAddsRow.holds Try.pinned (OpenSpec.ofChange cutAddsWrong)

/-- 'leveelaw09.CutMissing': WHATEVER THE INPUT: true; the input reads as it did. -/
def cutMissingSpec : ChangeSpec := { name := "cutMissing", fn := fun _ => fun
  | [d1, d2, d3] => { results := [.lit (.bool true)], args := [d1, d2, d3] }
  | _ => none }
def cutMissingRow : OpenClaim := { program := "ytlgljanofppleaa", sum := "7d800ec36da45740412bfd02d758d09043e477c71484fb38ce820306d68619bb", func := "levee/leveelaw09.CutMissing", spec := "cutMissing", unfollowed := true, recurses := true, apart := false }
def CutMissingSaid : Prop := cutMissingRow.holds Try.pinned (OpenSpec.ofChange cutMissingSpec)

/-- ITS FALSE NEIGHBOUR: 'it returns false'. Refute it at one input. -/
def cutMissingWrong : ChangeSpec := { name := "cutMissing", fn := fun _ => fun
  | [d1, d2, d3] => { results := [.lit (.bool false)], args := [d1, d2, d3] }
  | _ => none }
def CutMissingWrongFalsely : Prop := cutMissingRow.holds Try.pinned (OpenSpec.ofChange cutMissingWrong)

/-- 'leveelaw09.CutThree': WHATEVER THE INPUT: true; the input reads as it did. -/
def cutThreeSpec : ChangeSpec := { name := "cutThree", fn := fun _ => fun
  | [d1, d2, d3, d4] => { results := [.lit (.bool true)], args := [d1, d2, d3, d4] }
  | _ => none }
def cutThreeRow : OpenClaim := { program := "ytlgljanofppleaa", sum := "7d800ec36da45740412bfd02d758d09043e477c71484fb38ce820306d68619bb", func := "levee/leveelaw09.CutThree", spec := "cutThree", unfollowed := true, recurses := true, apart := false }
def CutThreeSaid : Prop := cutThreeRow.holds Try.pinned (OpenSpec.ofChange cutThreeSpec)

/-- ITS FALSE NEIGHBOUR: 'it returns false'. Refute it at one input. -/
def cutThreeWrong : ChangeSpec := { name := "cutThree", fn := fun _ => fun
  | [d1, d2, d3, d4] => { results := [.lit (.bool false)], args := [d1, d2, d3, d4] }
  | _ => none }
def CutThreeWrongFalsely : Prop := cutThreeRow.holds Try.pinned (OpenSpec.ofChange cutThreeWrong)

/- THE SECOND FORM. 'bulk': how many values and letters a reading holds, each counted each time it is reached (what is shared counts as often as it is met; a slice's spare places count too). A statement '..UptoSaid' is the law's where the arguments, and the package variables that the reading takes, are together of bulk at most 1048576: NARROWER than '..Said'. Prove '..Said' where nothing that the law and all that it calls make is longer than what came in: it says more and counts as full. Else prove '..UptoSaid'. A law counts once. -/
mutual
def uptoBulk {H : Type} : DataW H → Nat
  | .lit (.string bytes) => bytes.length + 1
  | .lit _ => 1
  | .nil => 1
  | .ptr d => uptoBulk d + 1
  | .slice elems spare => uptoBulkAll elems + uptoBulkAll spare + 1
  | .agg parts => uptoBulkAll parts + 1
  | .iface _ d => uptoBulk d + 1
  | .map entries => uptoBulkEntries entries + 1
  | .held _ => 1
def uptoBulkAll {H : Type} : List (DataW H) → Nat
  | [] => 0
  | d :: r => uptoBulk d + uptoBulkAll r
def uptoBulkEntries {H : Type} : List (Lit × DataW H) → Nat
  | [] => 0
  | x :: r => uptoBulkEntry x + uptoBulkEntries r
def uptoBulkEntry {H : Type} : Lit × DataW H → Nat
  | (.string bytes, d) => bytes.length + uptoBulk d + 1
  | (_, d) => uptoBulk d + 1
 end
def uptoSmall : (H : Type) → List (DataW H) → Bool := fun _ ds => decide (uptoBulkAll ds ≤ 1048576)
def OpenSpec.upto (s : _root_.Go.ChangeSpec) : _root_.Go.OpenSpec := { _root_.Go.OpenSpec.ofChange s with cond := some uptoSmall }

/-- 'leveelaw09.CutJoins', WHERE WHAT IT READS IS OF BULK AT MOST 1048576: true; the input reads as it did. -/
def cutJoinsUptoRow : OpenClaim := { program := "ytlgljanofppleaa", sum := "7d800ec36da45740412bfd02d758d09043e477c71484fb38ce820306d68619bb", func := "levee/leveelaw09.CutJoins", spec := "cutJoins", unfollowed := true, recurses := true, apart := false, narrowed := true }
def CutJoinsUptoSaid : Prop := cutJoinsUptoRow.holds Try.pinned (OpenSpec.upto cutJoinsSpec)

/-- 'leveelaw09.CutCloses', WHERE WHAT IT READS IS OF BULK AT MOST 1048576: true; the input reads as it did. -/
def cutClosesUptoRow : OpenClaim := { program := "ytlgljanofppleaa", sum := "7d800ec36da45740412bfd02d758d09043e477c71484fb38ce820306d68619bb", func := "levee/leveelaw09.CutCloses", spec := "cutCloses", apart := false, narrowed := true }
def CutClosesUptoSaid : Prop := cutClosesUptoRow.holds Try.pinned (OpenSpec.upto cutClosesSpec)

/-- 'leveelaw09.CutOrders', WHERE WHAT IT READS IS OF BULK AT MOST 1048576: true; the input reads as it did. -/
def cutOrdersUptoRow : OpenClaim := { program := "ytlgljanofppleaa", sum := "7d800ec36da45740412bfd02d758d09043e477c71484fb38ce820306d68619bb", func := "levee/leveelaw09.CutOrders", spec := "cutOrders", unfollowed := true, recurses := true, apart := false, narrowed := true }
def CutOrdersUptoSaid : Prop := cutOrdersUptoRow.holds Try.pinned (OpenSpec.upto cutOrdersSpec)

/-- 'leveelaw09.CutSteps', WHERE WHAT IT READS IS OF BULK AT MOST 1048576: true; the input reads as it did. -/
def cutStepsUptoRow : OpenClaim := { program := "ytlgljanofppleaa", sum := "7d800ec36da45740412bfd02d758d09043e477c71484fb38ce820306d68619bb", func := "levee/leveelaw09.CutSteps", spec := "cutSteps", unfollowed := true, recurses := true, apart := false, narrowed := true }
def CutStepsUptoSaid : Prop := cutStepsUptoRow.holds Try.pinned (OpenSpec.upto cutStepsSpec)

/-- 'leveelaw09.CutAdds', WHERE WHAT IT READS IS OF BULK AT MOST 1048576: true; the input reads as it did. -/
def cutAddsUptoRow : OpenClaim := { program := "ytlgljanofppleaa", sum := "7d800ec36da45740412bfd02d758d09043e477c71484fb38ce820306d68619bb", func := "levee/leveelaw09.CutAdds", spec := "cutAdds", apart := false, narrowed := true }
def CutAddsUptoSaid : Prop := cutAddsUptoRow.holds Try.pinned (OpenSpec.upto cutAddsSpec)

/-- 'leveelaw09.CutMissing', WHERE WHAT IT READS IS OF BULK AT MOST 1048576: true; the input reads as it did. -/
def cutMissingUptoRow : OpenClaim := { program := "ytlgljanofppleaa", sum := "7d800ec36da45740412bfd02d758d09043e477c71484fb38ce820306d68619bb", func := "levee/leveelaw09.CutMissing", spec := "cutMissing", unfollowed := true, recurses := true, apart := false, narrowed := true }
def CutMissingUptoSaid : Prop := cutMissingUptoRow.holds Try.pinned (OpenSpec.upto cutMissingSpec)

/-- 'leveelaw09.CutThree', WHERE WHAT IT READS IS OF BULK AT MOST 1048576: true; the input reads as it did. -/
def cutThreeUptoRow : OpenClaim := { program := "ytlgljanofppleaa", sum := "7d800ec36da45740412bfd02d758d09043e477c71484fb38ce820306d68619bb", func := "levee/leveelaw09.CutThree", spec := "cutThree", unfollowed := true, recurses := true, apart := false, narrowed := true }
def CutThreeUptoSaid : Prop := cutThreeUptoRow.holds Try.pinned (OpenSpec.upto cutThreeSpec)

end Rows
end Go.Proofs.Ytlgljanofppleaa
