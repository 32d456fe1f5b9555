/-
  NARROWER THAN 'FOR EVERY INPUT', by the rows' own cells (each row's printed sentence says how): LsmOpens: laid · LsmActs: laid · LsmKept: laid · LsmSame: laid · LsmAgain: laid · LsmModel: laid · LsmShapes: laid.
  DERIVED. THE GIVEN ROWS OF THIS SEAT. 7 by the template 'for every input the law returns true; each argument reads behind the call as it read before'; 0 by the template 'total and deterministic' (their statements: YtlnhbndghnkfmaaGreatDoorTotals.lean).
  GIVEN WITH THE SEED: the statements are not yours to turn. If you find one false, say at which input.
  Laid BY PROGRAM, IN A SANDBOX (cutbox-rows.mjs): the forced cells as the released guide's own fill.sh prints them over the translation ca753d1eab8cf606… (all of the seat's roots in one cut). By AI agents, Wed Nov 11 2026. No macro, syntax, notation, axiom, sorry.
-/
import Derived.Test.YtlnhbndghnkfmaaGreatDoorChecked
import GoSem.Claim
import GoSem.ClaimJoined
import GoSem.ClaimMapViews
import Derived.JoinedTies
import Derived.KernelRfl
namespace Go.Proofs.YtlnhbndghnkfmaaGreatDoor
/- THE CELL 'sum', in the pinned program and in every row, IS THE sha256 OF THE DUMP (.gsa) THAT YtlnhbndghnkfmaaGreatDoorProg.lean LOADS. Nothing in Lean hashes anything: it is a label: what it is worth is what the hold of that sum in a sandbox is worth. -/
noncomputable def Tryz.pinned : Pinned := { name := "ytlnhbndghnkfmaagreatdoor", sum := "ca753d1eab8cf6062f185d2c4b3c88a703cc2fa6c85a29b8e5a2e57dac701f64", checked := Tryz.checked }
namespace Rows
def none {H : Type} : Left H := { results := [], args := [] }

/- WHAT THE LISTED PACKAGE-LEVEL VARIABLES READ AS WHEN THE CALL BEGINS. Each datum BY PROGRAM (the guide's laid-datum.mjs) off the statement by which the dump's own 'gosem.cut.vars' lays the variable. In a bare row this is a premise. The card (YtlnhbndghnkfmaaGreatDoorCards.lean) ties it to the program's text. -/
def laid_levee_code_halves {H : Type} : DataW H := .agg [.lit (.int .u32 0), .lit (.int .u32 498536548), .lit (.int .u32 997073096), .lit (.int .u32 651767980), .lit (.int .u32 1994146192), .lit (.int .u32 1802195444), .lit (.int .u32 1303535960), .lit (.int .u32 1342533948), .lit (.int .u32 3988292384), .lit (.int .u32 4027552580), .lit (.int .u32 3604390888), .lit (.int .u32 3412177804), .lit (.int .u32 2607071920), .lit (.int .u32 2262029012), .lit (.int .u32 2685067896), .lit (.int .u32 3183342108)]

/-- 'leveelaw07.LsmOpens': WHATEVER THE INPUT: true; the input reads as it did. -/
def lsmOpensSpec : ChangeSpec := { name := "lsmOpens", fn := fun _ => fun
  | [d] => { results := [.lit (.bool true)], args := [d] }
  | _ => none }
def lsmOpensRow : OpenClaim := { program := "ytlnhbndghnkfmaagreatdoor", sum := "ca753d1eab8cf6062f185d2c4b3c88a703cc2fa6c85a29b8e5a2e57dac701f64", func := "levee/leveelaw07.LsmOpens", spec := "lsmOpens", inPlace := ["slices.overlaps[levee/disk.draft]", "internal/abi.NoEscape", "internal/bytealg.MakeNoZero", "internal/bytealg.abigen_runtime_cmpstring"], unfollowed := true, recurses := true, named := ["levee/code.halves"], apart := false, laid := [("levee/code.halves", laid_levee_code_halves)] }
def LsmOpensSaid : Prop := lsmOpensRow.holds Tryz.pinned (OpenSpec.ofChange lsmOpensSpec)

/-- ITS FALSE NEIGHBOUR: 'it returns false'. Refute it at one input. -/
def lsmOpensWrong : ChangeSpec := { name := "lsmOpens", fn := fun _ => fun
  | [d] => { results := [.lit (.bool false)], args := [d] }
  | _ => none }
def LsmOpensWrongFalsely : Prop := lsmOpensRow.holds Tryz.pinned (OpenSpec.ofChange lsmOpensWrong)

/-- 'leveelaw07.LsmActs': WHATEVER THE INPUT: true; the input reads as it did. -/
def lsmActsSpec : ChangeSpec := { name := "lsmActs", fn := fun _ => fun
  | [d1, d2, d3, d4] => { results := [.lit (.bool true)], args := [d1, d2, d3, d4] }
  | _ => none }
def lsmActsRow : OpenClaim := { program := "ytlnhbndghnkfmaagreatdoor", sum := "ca753d1eab8cf6062f185d2c4b3c88a703cc2fa6c85a29b8e5a2e57dac701f64", func := "levee/leveelaw07.LsmActs", spec := "lsmActs", inPlace := ["slices.overlaps[levee/disk.draft]", "internal/abi.NoEscape", "internal/bytealg.MakeNoZero", "internal/bytealg.abigen_runtime_cmpstring"], unfollowed := true, recurses := true, named := ["levee/code.halves"], apart := false, laid := [("levee/code.halves", laid_levee_code_halves)] }
def LsmActsSaid : Prop := lsmActsRow.holds Tryz.pinned (OpenSpec.ofChange lsmActsSpec)

/-- ITS FALSE NEIGHBOUR: 'it returns false'. Refute it at one input. -/
def lsmActsWrong : ChangeSpec := { name := "lsmActs", fn := fun _ => fun
  | [d1, d2, d3, d4] => { results := [.lit (.bool false)], args := [d1, d2, d3, d4] }
  | _ => none }
def LsmActsWrongFalsely : Prop := lsmActsRow.holds Tryz.pinned (OpenSpec.ofChange lsmActsWrong)

/-- 'leveelaw07.LsmKept': WHATEVER THE INPUT: true; the input reads as it did. -/
def lsmKeptSpec : ChangeSpec := { name := "lsmKept", fn := fun _ => fun
  | [d1, d2, d3, d4] => { results := [.lit (.bool true)], args := [d1, d2, d3, d4] }
  | _ => none }
def lsmKeptRow : OpenClaim := { program := "ytlnhbndghnkfmaagreatdoor", sum := "ca753d1eab8cf6062f185d2c4b3c88a703cc2fa6c85a29b8e5a2e57dac701f64", func := "levee/leveelaw07.LsmKept", spec := "lsmKept", inPlace := ["slices.overlaps[levee/disk.draft]", "internal/abi.NoEscape", "internal/bytealg.MakeNoZero", "internal/bytealg.abigen_runtime_cmpstring"], unfollowed := true, recurses := true, named := ["levee/code.halves"], apart := false, laid := [("levee/code.halves", laid_levee_code_halves)] }
def LsmKeptSaid : Prop := lsmKeptRow.holds Tryz.pinned (OpenSpec.ofChange lsmKeptSpec)

/-- ITS FALSE NEIGHBOUR: 'it returns false'. Refute it at one input. -/
def lsmKeptWrong : ChangeSpec := { name := "lsmKept", fn := fun _ => fun
  | [d1, d2, d3, d4] => { results := [.lit (.bool false)], args := [d1, d2, d3, d4] }
  | _ => none }
def LsmKeptWrongFalsely : Prop := lsmKeptRow.holds Tryz.pinned (OpenSpec.ofChange lsmKeptWrong)

/-- 'leveelaw07.LsmSame': WHATEVER THE INPUT: true; the input reads as it did. -/
def lsmSameSpec : ChangeSpec := { name := "lsmSame", fn := fun _ => fun
  | [d] => { results := [.lit (.bool true)], args := [d] }
  | _ => none }
def lsmSameRow : OpenClaim := { program := "ytlnhbndghnkfmaagreatdoor", sum := "ca753d1eab8cf6062f185d2c4b3c88a703cc2fa6c85a29b8e5a2e57dac701f64", func := "levee/leveelaw07.LsmSame", spec := "lsmSame", inPlace := ["slices.overlaps[levee/disk.draft]", "internal/abi.NoEscape", "internal/bytealg.MakeNoZero", "internal/bytealg.abigen_runtime_cmpstring"], unfollowed := true, recurses := true, named := ["levee/code.halves"], apart := false, laid := [("levee/code.halves", laid_levee_code_halves)] }
def LsmSameSaid : Prop := lsmSameRow.holds Tryz.pinned (OpenSpec.ofChange lsmSameSpec)

/-- ITS FALSE NEIGHBOUR: 'it returns false'. Refute it at one input. -/
def lsmSameWrong : ChangeSpec := { name := "lsmSame", fn := fun _ => fun
  | [d] => { results := [.lit (.bool false)], args := [d] }
  | _ => none }
def LsmSameWrongFalsely : Prop := lsmSameRow.holds Tryz.pinned (OpenSpec.ofChange lsmSameWrong)

/-- 'leveelaw07.LsmAgain': WHATEVER THE INPUT: true; the input reads as it did. -/
def lsmAgainSpec : ChangeSpec := { name := "lsmAgain", fn := fun _ => fun
  | [d] => { results := [.lit (.bool true)], args := [d] }
  | _ => none }
def lsmAgainRow : OpenClaim := { program := "ytlnhbndghnkfmaagreatdoor", sum := "ca753d1eab8cf6062f185d2c4b3c88a703cc2fa6c85a29b8e5a2e57dac701f64", func := "levee/leveelaw07.LsmAgain", spec := "lsmAgain", inPlace := ["slices.overlaps[levee/disk.draft]", "internal/abi.NoEscape", "internal/bytealg.MakeNoZero", "internal/bytealg.abigen_runtime_cmpstring"], unfollowed := true, recurses := true, named := ["levee/code.halves"], apart := false, laid := [("levee/code.halves", laid_levee_code_halves)] }
def LsmAgainSaid : Prop := lsmAgainRow.holds Tryz.pinned (OpenSpec.ofChange lsmAgainSpec)

/-- ITS FALSE NEIGHBOUR: 'it returns false'. Refute it at one input. -/
def lsmAgainWrong : ChangeSpec := { name := "lsmAgain", fn := fun _ => fun
  | [d] => { results := [.lit (.bool false)], args := [d] }
  | _ => none }
def LsmAgainWrongFalsely : Prop := lsmAgainRow.holds Tryz.pinned (OpenSpec.ofChange lsmAgainWrong)

/-- 'leveelaw07.LsmModel': WHATEVER THE INPUT: true; the input reads as it did. -/
def lsmModelSpec : ChangeSpec := { name := "lsmModel", fn := fun _ => fun
  | [d1, d2] => { results := [.lit (.bool true)], args := [d1, d2] }
  | _ => none }
def lsmModelRow : OpenClaim := { program := "ytlnhbndghnkfmaagreatdoor", sum := "ca753d1eab8cf6062f185d2c4b3c88a703cc2fa6c85a29b8e5a2e57dac701f64", func := "levee/leveelaw07.LsmModel", spec := "lsmModel", inPlace := ["slices.overlaps[levee/disk.draft]", "internal/abi.NoEscape", "internal/bytealg.MakeNoZero", "internal/bytealg.abigen_runtime_cmpstring"], unfollowed := true, recurses := true, named := ["levee/code.halves"], apart := false, laid := [("levee/code.halves", laid_levee_code_halves)] }
def LsmModelSaid : Prop := lsmModelRow.holds Tryz.pinned (OpenSpec.ofChange lsmModelSpec)

/-- ITS FALSE NEIGHBOUR: 'it returns false'. Refute it at one input. -/
def lsmModelWrong : ChangeSpec := { name := "lsmModel", fn := fun _ => fun
  | [d1, d2] => { results := [.lit (.bool false)], args := [d1, d2] }
  | _ => none }
def LsmModelWrongFalsely : Prop := lsmModelRow.holds Tryz.pinned (OpenSpec.ofChange lsmModelWrong)

/-- 'leveelaw07.LsmShapes': WHATEVER THE INPUT: true; the input reads as it did. -/
def lsmShapesSpec : ChangeSpec := { name := "lsmShapes", fn := fun _ => fun
  | [d] => { results := [.lit (.bool true)], args := [d] }
  | _ => none }
def lsmShapesRow : OpenClaim := { program := "ytlnhbndghnkfmaagreatdoor", sum := "ca753d1eab8cf6062f185d2c4b3c88a703cc2fa6c85a29b8e5a2e57dac701f64", func := "levee/leveelaw07.LsmShapes", spec := "lsmShapes", inPlace := ["slices.overlaps[levee/disk.draft]", "internal/abi.NoEscape", "internal/bytealg.MakeNoZero", "internal/bytealg.abigen_runtime_cmpstring"], unfollowed := true, recurses := true, named := ["levee/code.halves"], apart := false, laid := [("levee/code.halves", laid_levee_code_halves)] }
def LsmShapesSaid : Prop := lsmShapesRow.holds Tryz.pinned (OpenSpec.ofChange lsmShapesSpec)

/-- ITS FALSE NEIGHBOUR: 'it returns false'. Refute it at one input. -/
def lsmShapesWrong : ChangeSpec := { name := "lsmShapes", fn := fun _ => fun
  | [d] => { results := [.lit (.bool false)], args := [d] }
  | _ => none }
def LsmShapesWrongFalsely : Prop := lsmShapesRow.holds Tryz.pinned (OpenSpec.ofChange lsmShapesWrong)

/- THE SECOND FORM. 'bulk': how many values and letters a reading holds, each counted each time it is reached (what is shared counts as often as it is met; a slice's spare places count too). A statement '..UptoSaid' is the law's where the arguments, and the package variables that the reading takes, are together of bulk at most 1048576: NARROWER than '..Said'. Prove '..Said' where nothing that the law and all that it calls make is longer than what came in: it says more and counts as full. Else prove '..UptoSaid'. A law counts once. -/
mutual
def uptoBulk {H : Type} : DataW H → Nat
  | .lit (.string bytes) => bytes.length + 1
  | .lit _ => 1
  | .nil => 1
  | .ptr d => uptoBulk d + 1
  | .slice elems spare => uptoBulkAll elems + uptoBulkAll spare + 1
  | .agg parts => uptoBulkAll parts + 1
  | .iface _ d => uptoBulk d + 1
  | .map entries => uptoBulkEntries entries + 1
  | .held _ => 1
def uptoBulkAll {H : Type} : List (DataW H) → Nat
  | [] => 0
  | d :: r => uptoBulk d + uptoBulkAll r
def uptoBulkEntries {H : Type} : List (Lit × DataW H) → Nat
  | [] => 0
  | x :: r => uptoBulkEntry x + uptoBulkEntries r
def uptoBulkEntry {H : Type} : Lit × DataW H → Nat
  | (.string bytes, d) => bytes.length + uptoBulk d + 1
  | (_, d) => uptoBulk d + 1
 end
def uptoSmall : (H : Type) → List (DataW H) → Bool := fun _ ds => decide (uptoBulkAll ds ≤ 1048576)
def OpenSpec.upto (s : _root_.Go.ChangeSpec) : _root_.Go.OpenSpec := { _root_.Go.OpenSpec.ofChange s with cond := some uptoSmall }

/-- 'leveelaw07.LsmOpens', WHERE WHAT IT READS IS OF BULK AT MOST 1048576: true; the input reads as it did. -/
def lsmOpensUptoRow : OpenClaim := { program := "ytlnhbndghnkfmaagreatdoor", sum := "ca753d1eab8cf6062f185d2c4b3c88a703cc2fa6c85a29b8e5a2e57dac701f64", func := "levee/leveelaw07.LsmOpens", spec := "lsmOpens", inPlace := ["slices.overlaps[levee/disk.draft]", "internal/abi.NoEscape", "internal/bytealg.MakeNoZero", "internal/bytealg.abigen_runtime_cmpstring"], unfollowed := true, recurses := true, named := ["levee/code.halves"], apart := false, laid := [("levee/code.halves", laid_levee_code_halves)], narrowed := true }
def LsmOpensUptoSaid : Prop := lsmOpensUptoRow.holds Tryz.pinned (OpenSpec.upto lsmOpensSpec)

/-- 'leveelaw07.LsmActs', WHERE WHAT IT READS IS OF BULK AT MOST 1048576: true; the input reads as it did. -/
def lsmActsUptoRow : OpenClaim := { program := "ytlnhbndghnkfmaagreatdoor", sum := "ca753d1eab8cf6062f185d2c4b3c88a703cc2fa6c85a29b8e5a2e57dac701f64", func := "levee/leveelaw07.LsmActs", spec := "lsmActs", inPlace := ["slices.overlaps[levee/disk.draft]", "internal/abi.NoEscape", "internal/bytealg.MakeNoZero", "internal/bytealg.abigen_runtime_cmpstring"], unfollowed := true, recurses := true, named := ["levee/code.halves"], apart := false, laid := [("levee/code.halves", laid_levee_code_halves)], narrowed := true }
def LsmActsUptoSaid : Prop := lsmActsUptoRow.holds Tryz.pinned (OpenSpec.upto lsmActsSpec)

/-- 'leveelaw07.LsmKept', WHERE WHAT IT READS IS OF BULK AT MOST 1048576: true; the input reads as it did. -/
def lsmKeptUptoRow : OpenClaim := { program := "ytlnhbndghnkfmaagreatdoor", sum := "ca753d1eab8cf6062f185d2c4b3c88a703cc2fa6c85a29b8e5a2e57dac701f64", func := "levee/leveelaw07.LsmKept", spec := "lsmKept", inPlace := ["slices.overlaps[levee/disk.draft]", "internal/abi.NoEscape", "internal/bytealg.MakeNoZero", "internal/bytealg.abigen_runtime_cmpstring"], unfollowed := true, recurses := true, named := ["levee/code.halves"], apart := false, laid := [("levee/code.halves", laid_levee_code_halves)], narrowed := true }
def LsmKeptUptoSaid : Prop := lsmKeptUptoRow.holds Tryz.pinned (OpenSpec.upto lsmKeptSpec)

/-- 'leveelaw07.LsmSame', WHERE WHAT IT READS IS OF BULK AT MOST 1048576: true; the input reads as it did. -/
def lsmSameUptoRow : OpenClaim := { program := "ytlnhbndghnkfmaagreatdoor", sum := "ca753d1eab8cf6062f185d2c4b3c88a703cc2fa6c85a29b8e5a2e57dac701f64", func := "levee/leveelaw07.LsmSame", spec := "lsmSame", inPlace := ["slices.overlaps[levee/disk.draft]", "internal/abi.NoEscape", "internal/bytealg.MakeNoZero", "internal/bytealg.abigen_runtime_cmpstring"], unfollowed := true, recurses := true, named := ["levee/code.halves"], apart := false, laid := [("levee/code.halves", laid_levee_code_halves)], narrowed := true }
def LsmSameUptoSaid : Prop := lsmSameUptoRow.holds Tryz.pinned (OpenSpec.upto lsmSameSpec)

/-- 'leveelaw07.LsmAgain', WHERE WHAT IT READS IS OF BULK AT MOST 1048576: true; the input reads as it did. -/
def lsmAgainUptoRow : OpenClaim := { program := "ytlnhbndghnkfmaagreatdoor", sum := "ca753d1eab8cf6062f185d2c4b3c88a703cc2fa6c85a29b8e5a2e57dac701f64", func := "levee/leveelaw07.LsmAgain", spec := "lsmAgain", inPlace := ["slices.overlaps[levee/disk.draft]", "internal/abi.NoEscape", "internal/bytealg.MakeNoZero", "internal/bytealg.abigen_runtime_cmpstring"], unfollowed := true, recurses := true, named := ["levee/code.halves"], apart := false, laid := [("levee/code.halves", laid_levee_code_halves)], narrowed := true }
def LsmAgainUptoSaid : Prop := lsmAgainUptoRow.holds Tryz.pinned (OpenSpec.upto lsmAgainSpec)

/-- 'leveelaw07.LsmModel', WHERE WHAT IT READS IS OF BULK AT MOST 1048576: true; the input reads as it did. -/
def lsmModelUptoRow : OpenClaim := { program := "ytlnhbndghnkfmaagreatdoor", sum := "ca753d1eab8cf6062f185d2c4b3c88a703cc2fa6c85a29b8e5a2e57dac701f64", func := "levee/leveelaw07.LsmModel", spec := "lsmModel", inPlace := ["slices.overlaps[levee/disk.draft]", "internal/abi.NoEscape", "internal/bytealg.MakeNoZero", "internal/bytealg.abigen_runtime_cmpstring"], unfollowed := true, recurses := true, named := ["levee/code.halves"], apart := false, laid := [("levee/code.halves", laid_levee_code_halves)], narrowed := true }
def LsmModelUptoSaid : Prop := lsmModelUptoRow.holds Tryz.pinned (OpenSpec.upto lsmModelSpec)

/-- 'leveelaw07.LsmShapes', WHERE WHAT IT READS IS OF BULK AT MOST 1048576: true; the input reads as it did. -/
def lsmShapesUptoRow : OpenClaim := { program := "ytlnhbndghnkfmaagreatdoor", sum := "ca753d1eab8cf6062f185d2c4b3c88a703cc2fa6c85a29b8e5a2e57dac701f64", func := "levee/leveelaw07.LsmShapes", spec := "lsmShapes", inPlace := ["slices.overlaps[levee/disk.draft]", "internal/abi.NoEscape", "internal/bytealg.MakeNoZero", "internal/bytealg.abigen_runtime_cmpstring"], unfollowed := true, recurses := true, named := ["levee/code.halves"], apart := false, laid := [("levee/code.halves", laid_levee_code_halves)], narrowed := true }
def LsmShapesUptoSaid : Prop := lsmShapesUptoRow.holds Tryz.pinned (OpenSpec.upto lsmShapesSpec)

end Rows
end Go.Proofs.YtlnhbndghnkfmaaGreatDoor
