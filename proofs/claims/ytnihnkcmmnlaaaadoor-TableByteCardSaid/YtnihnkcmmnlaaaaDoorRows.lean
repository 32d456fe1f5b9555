/-
  NARROWER THAN 'FOR EVERY INPUT', by the rows' own cells (each row's printed sentence says how): TableBuilds: laid · TableReads: laid · TableBack: laid · TableAsked: laid · TableByte: laid · TableUnlike: laid.
  DERIVED. THE GIVEN ROWS OF THIS SEAT. 6 by the template 'for every input the law returns true; each argument reads behind the call as it read before'; 0 by the template 'total and deterministic' (their statements: YtnihnkcmmnlaaaaDoorTotals.lean).
  GIVEN WITH THE SEED: the statements are not yours to turn. If you find one false, say at which input.
  Laid BY PROGRAM, IN A SANDBOX (cutbox-rows.mjs): the forced cells as the released guide's own fill.sh prints them over the translation 1529a8ba1bd22477… (all of the seat's roots in one cut). By AI agents, Wed Nov 11 2026. No macro, syntax, notation, axiom, sorry.
-/
import Derived.Test.YtnihnkcmmnlaaaaDoorChecked
import GoSem.Claim
import GoSem.ClaimJoined
import GoSem.ClaimMapViews
import Derived.JoinedTies
import Derived.KernelRfl
namespace Go.Proofs.YtnihnkcmmnlaaaaDoor
/- THE CELL 'sum', in the pinned program and in every row, IS THE sha256 OF THE DUMP (.gsa) THAT YtnihnkcmmnlaaaaDoorProg.lean LOADS. Nothing in Lean hashes anything: it is a label: what it is worth is what the hold of that sum in a sandbox is worth. -/
noncomputable def Tryd.pinned : Pinned := { name := "ytnihnkcmmnlaaaadoor", sum := "1529a8ba1bd22477b3ce9f6737907183ed8770387dc058c031304d52c9f72e7a", checked := Tryd.checked }
namespace Rows
def none {H : Type} : Left H := { results := [], args := [] }

/- WHAT THE LISTED PACKAGE-LEVEL VARIABLES READ AS WHEN THE CALL BEGINS. Each datum BY PROGRAM (the guide's laid-datum.mjs) off the statement by which the dump's own 'gosem.cut.vars' lays the variable. In a bare row this is a premise. The card (YtnihnkcmmnlaaaaDoorCards.lean) ties it to the program's text. -/
def laid_levee_code_halves {H : Type} : DataW H := .agg [.lit (.int .u32 0), .lit (.int .u32 498536548), .lit (.int .u32 997073096), .lit (.int .u32 651767980), .lit (.int .u32 1994146192), .lit (.int .u32 1802195444), .lit (.int .u32 1303535960), .lit (.int .u32 1342533948), .lit (.int .u32 3988292384), .lit (.int .u32 4027552580), .lit (.int .u32 3604390888), .lit (.int .u32 3412177804), .lit (.int .u32 2607071920), .lit (.int .u32 2262029012), .lit (.int .u32 2685067896), .lit (.int .u32 3183342108)]

/-- 'leveelaw06.TableBuilds': WHATEVER THE INPUT: true; the input reads as it did. -/
def tableBuildsSpec : ChangeSpec := { name := "tableBuilds", fn := fun _ => fun
  | [d] => { results := [.lit (.bool true)], args := [d] }
  | _ => none }
def tableBuildsRow : OpenClaim := { program := "ytnihnkcmmnlaaaadoor", sum := "1529a8ba1bd22477b3ce9f6737907183ed8770387dc058c031304d52c9f72e7a", func := "levee/leveelaw06.TableBuilds", spec := "tableBuilds", inPlace := ["internal/abi.NoEscape", "internal/bytealg.MakeNoZero"], unfollowed := true, recurses := true, named := ["levee/code.halves"], apart := false, laid := [("levee/code.halves", laid_levee_code_halves)] }
def TableBuildsSaid : Prop := tableBuildsRow.holds Tryd.pinned (OpenSpec.ofChange tableBuildsSpec)

/-- ITS FALSE NEIGHBOUR: 'it returns false'. Refute it at one input. -/
def tableBuildsWrong : ChangeSpec := { name := "tableBuilds", fn := fun _ => fun
  | [d] => { results := [.lit (.bool false)], args := [d] }
  | _ => none }
def TableBuildsWrongFalsely : Prop := tableBuildsRow.holds Tryd.pinned (OpenSpec.ofChange tableBuildsWrong)

/-- 'leveelaw06.TableReads': WHATEVER THE INPUT: true; the input reads as it did. -/
def tableReadsSpec : ChangeSpec := { name := "tableReads", fn := fun _ => fun
  | [d1, d2, d3, d4] => { results := [.lit (.bool true)], args := [d1, d2, d3, d4] }
  | _ => none }
def tableReadsRow : OpenClaim := { program := "ytnihnkcmmnlaaaadoor", sum := "1529a8ba1bd22477b3ce9f6737907183ed8770387dc058c031304d52c9f72e7a", func := "levee/leveelaw06.TableReads", spec := "tableReads", inPlace := ["internal/abi.NoEscape", "internal/bytealg.MakeNoZero"], unfollowed := true, recurses := true, named := ["levee/code.halves"], apart := false, laid := [("levee/code.halves", laid_levee_code_halves)] }
def TableReadsSaid : Prop := tableReadsRow.holds Tryd.pinned (OpenSpec.ofChange tableReadsSpec)

/-- ITS FALSE NEIGHBOUR: 'it returns false'. Refute it at one input. -/
def tableReadsWrong : ChangeSpec := { name := "tableReads", fn := fun _ => fun
  | [d1, d2, d3, d4] => { results := [.lit (.bool false)], args := [d1, d2, d3, d4] }
  | _ => none }
def TableReadsWrongFalsely : Prop := tableReadsRow.holds Tryd.pinned (OpenSpec.ofChange tableReadsWrong)

/-- 'leveelaw06.TableBack': WHATEVER THE INPUT: true; the input reads as it did. -/
def tableBackSpec : ChangeSpec := { name := "tableBack", fn := fun _ => fun
  | [d1, d2] => { results := [.lit (.bool true)], args := [d1, d2] }
  | _ => none }
def tableBackRow : OpenClaim := { program := "ytnihnkcmmnlaaaadoor", sum := "1529a8ba1bd22477b3ce9f6737907183ed8770387dc058c031304d52c9f72e7a", func := "levee/leveelaw06.TableBack", spec := "tableBack", inPlace := ["internal/abi.NoEscape", "internal/bytealg.MakeNoZero"], unfollowed := true, recurses := true, named := ["levee/code.halves"], apart := false, laid := [("levee/code.halves", laid_levee_code_halves)] }
def TableBackSaid : Prop := tableBackRow.holds Tryd.pinned (OpenSpec.ofChange tableBackSpec)

/-- ITS FALSE NEIGHBOUR: 'it returns false'. Refute it at one input. -/
def tableBackWrong : ChangeSpec := { name := "tableBack", fn := fun _ => fun
  | [d1, d2] => { results := [.lit (.bool false)], args := [d1, d2] }
  | _ => none }
def TableBackWrongFalsely : Prop := tableBackRow.holds Tryd.pinned (OpenSpec.ofChange tableBackWrong)

/-- 'leveelaw06.TableAsked': WHATEVER THE INPUT: true; the input reads as it did. -/
def tableAskedSpec : ChangeSpec := { name := "tableAsked", fn := fun _ => fun
  | [d1, d2, d3, d4] => { results := [.lit (.bool true)], args := [d1, d2, d3, d4] }
  | _ => none }
def tableAskedRow : OpenClaim := { program := "ytnihnkcmmnlaaaadoor", sum := "1529a8ba1bd22477b3ce9f6737907183ed8770387dc058c031304d52c9f72e7a", func := "levee/leveelaw06.TableAsked", spec := "tableAsked", inPlace := ["internal/abi.NoEscape", "internal/bytealg.MakeNoZero"], unfollowed := true, recurses := true, named := ["levee/code.halves"], apart := false, laid := [("levee/code.halves", laid_levee_code_halves)] }
def TableAskedSaid : Prop := tableAskedRow.holds Tryd.pinned (OpenSpec.ofChange tableAskedSpec)

/-- ITS FALSE NEIGHBOUR: 'it returns false'. Refute it at one input. -/
def tableAskedWrong : ChangeSpec := { name := "tableAsked", fn := fun _ => fun
  | [d1, d2, d3, d4] => { results := [.lit (.bool false)], args := [d1, d2, d3, d4] }
  | _ => none }
def TableAskedWrongFalsely : Prop := tableAskedRow.holds Tryd.pinned (OpenSpec.ofChange tableAskedWrong)

/-- 'leveelaw06.TableByte': WHATEVER THE INPUT: true; the input reads as it did. -/
def tableByteSpec : ChangeSpec := { name := "tableByte", fn := fun _ => fun
  | [d1, d2, d3] => { results := [.lit (.bool true)], args := [d1, d2, d3] }
  | _ => none }
def tableByteRow : OpenClaim := { program := "ytnihnkcmmnlaaaadoor", sum := "1529a8ba1bd22477b3ce9f6737907183ed8770387dc058c031304d52c9f72e7a", func := "levee/leveelaw06.TableByte", spec := "tableByte", inPlace := ["internal/abi.NoEscape", "internal/bytealg.MakeNoZero"], unfollowed := true, recurses := true, named := ["levee/code.halves"], apart := false, laid := [("levee/code.halves", laid_levee_code_halves)] }
def TableByteSaid : Prop := tableByteRow.holds Tryd.pinned (OpenSpec.ofChange tableByteSpec)

/-- ITS FALSE NEIGHBOUR: 'it returns false'. Refute it at one input. -/
def tableByteWrong : ChangeSpec := { name := "tableByte", fn := fun _ => fun
  | [d1, d2, d3] => { results := [.lit (.bool false)], args := [d1, d2, d3] }
  | _ => none }
def TableByteWrongFalsely : Prop := tableByteRow.holds Tryd.pinned (OpenSpec.ofChange tableByteWrong)

/-- 'leveelaw06.TableUnlike': WHATEVER THE INPUT: true; the input reads as it did. -/
def tableUnlikeSpec : ChangeSpec := { name := "tableUnlike", fn := fun _ => fun
  | [d1, d2, d3] => { results := [.lit (.bool true)], args := [d1, d2, d3] }
  | _ => none }
def tableUnlikeRow : OpenClaim := { program := "ytnihnkcmmnlaaaadoor", sum := "1529a8ba1bd22477b3ce9f6737907183ed8770387dc058c031304d52c9f72e7a", func := "levee/leveelaw06.TableUnlike", spec := "tableUnlike", inPlace := ["internal/abi.NoEscape", "internal/bytealg.MakeNoZero"], unfollowed := true, recurses := true, named := ["levee/code.halves"], apart := false, laid := [("levee/code.halves", laid_levee_code_halves)] }
def TableUnlikeSaid : Prop := tableUnlikeRow.holds Tryd.pinned (OpenSpec.ofChange tableUnlikeSpec)

/-- ITS FALSE NEIGHBOUR: 'it returns false'. Refute it at one input. -/
def tableUnlikeWrong : ChangeSpec := { name := "tableUnlike", fn := fun _ => fun
  | [d1, d2, d3] => { results := [.lit (.bool false)], args := [d1, d2, d3] }
  | _ => none }
def TableUnlikeWrongFalsely : Prop := tableUnlikeRow.holds Tryd.pinned (OpenSpec.ofChange tableUnlikeWrong)

/- THE SECOND FORM. 'bulk': how many values and letters a reading holds, each counted each time it is reached (what is shared counts as often as it is met; a slice's spare places count too). A statement '..UptoSaid' is the law's where the arguments, and the package variables that the reading takes, are together of bulk at most 1048576: NARROWER than '..Said'. Prove '..Said' where nothing that the law and all that it calls make is longer than what came in: it says more and counts as full. Else prove '..UptoSaid'. A law counts once. -/
mutual
def uptoBulk {H : Type} : DataW H → Nat
  | .lit (.string bytes) => bytes.length + 1
  | .lit _ => 1
  | .nil => 1
  | .ptr d => uptoBulk d + 1
  | .slice elems spare => uptoBulkAll elems + uptoBulkAll spare + 1
  | .agg parts => uptoBulkAll parts + 1
  | .iface _ d => uptoBulk d + 1
  | .map entries => uptoBulkEntries entries + 1
  | .held _ => 1
def uptoBulkAll {H : Type} : List (DataW H) → Nat
  | [] => 0
  | d :: r => uptoBulk d + uptoBulkAll r
def uptoBulkEntries {H : Type} : List (Lit × DataW H) → Nat
  | [] => 0
  | x :: r => uptoBulkEntry x + uptoBulkEntries r
def uptoBulkEntry {H : Type} : Lit × DataW H → Nat
  | (.string bytes, d) => bytes.length + uptoBulk d + 1
  | (_, d) => uptoBulk d + 1
 end
def uptoSmall : (H : Type) → List (DataW H) → Bool := fun _ ds => decide (uptoBulkAll ds ≤ 1048576)
def OpenSpec.upto (s : _root_.Go.ChangeSpec) : _root_.Go.OpenSpec := { _root_.Go.OpenSpec.ofChange s with cond := some uptoSmall }

/-- 'leveelaw06.TableBuilds', WHERE WHAT IT READS IS OF BULK AT MOST 1048576: true; the input reads as it did. -/
def tableBuildsUptoRow : OpenClaim := { program := "ytnihnkcmmnlaaaadoor", sum := "1529a8ba1bd22477b3ce9f6737907183ed8770387dc058c031304d52c9f72e7a", func := "levee/leveelaw06.TableBuilds", spec := "tableBuilds", inPlace := ["internal/abi.NoEscape", "internal/bytealg.MakeNoZero"], unfollowed := true, recurses := true, named := ["levee/code.halves"], apart := false, laid := [("levee/code.halves", laid_levee_code_halves)], narrowed := true }
def TableBuildsUptoSaid : Prop := tableBuildsUptoRow.holds Tryd.pinned (OpenSpec.upto tableBuildsSpec)

/-- 'leveelaw06.TableReads', WHERE WHAT IT READS IS OF BULK AT MOST 1048576: true; the input reads as it did. -/
def tableReadsUptoRow : OpenClaim := { program := "ytnihnkcmmnlaaaadoor", sum := "1529a8ba1bd22477b3ce9f6737907183ed8770387dc058c031304d52c9f72e7a", func := "levee/leveelaw06.TableReads", spec := "tableReads", inPlace := ["internal/abi.NoEscape", "internal/bytealg.MakeNoZero"], unfollowed := true, recurses := true, named := ["levee/code.halves"], apart := false, laid := [("levee/code.halves", laid_levee_code_halves)], narrowed := true }
def TableReadsUptoSaid : Prop := tableReadsUptoRow.holds Tryd.pinned (OpenSpec.upto tableReadsSpec)

/-- 'leveelaw06.TableBack', WHERE WHAT IT READS IS OF BULK AT MOST 1048576: true; the input reads as it did. -/
def tableBackUptoRow : OpenClaim := { program := "ytnihnkcmmnlaaaadoor", sum := "1529a8ba1bd22477b3ce9f6737907183ed8770387dc058c031304d52c9f72e7a", func := "levee/leveelaw06.TableBack", spec := "tableBack", inPlace := ["internal/abi.NoEscape", "internal/bytealg.MakeNoZero"], unfollowed := true, recurses := true, named := ["levee/code.halves"], apart := false, laid := [("levee/code.halves", laid_levee_code_halves)], narrowed := true }
def TableBackUptoSaid : Prop := tableBackUptoRow.holds Tryd.pinned (OpenSpec.upto tableBackSpec)

/-- 'leveelaw06.TableAsked', WHERE WHAT IT READS IS OF BULK AT MOST 1048576: true; the input reads as it did. -/
def tableAskedUptoRow : OpenClaim := { program := "ytnihnkcmmnlaaaadoor", sum := "1529a8ba1bd22477b3ce9f6737907183ed8770387dc058c031304d52c9f72e7a", func := "levee/leveelaw06.TableAsked", spec := "tableAsked", inPlace := ["internal/abi.NoEscape", "internal/bytealg.MakeNoZero"], unfollowed := true, recurses := true, named := ["levee/code.halves"], apart := false, laid := [("levee/code.halves", laid_levee_code_halves)], narrowed := true }
def TableAskedUptoSaid : Prop := tableAskedUptoRow.holds Tryd.pinned (OpenSpec.upto tableAskedSpec)

/-- 'leveelaw06.TableByte', WHERE WHAT IT READS IS OF BULK AT MOST 1048576: true; the input reads as it did. -/
def tableByteUptoRow : OpenClaim := { program := "ytnihnkcmmnlaaaadoor", sum := "1529a8ba1bd22477b3ce9f6737907183ed8770387dc058c031304d52c9f72e7a", func := "levee/leveelaw06.TableByte", spec := "tableByte", inPlace := ["internal/abi.NoEscape", "internal/bytealg.MakeNoZero"], unfollowed := true, recurses := true, named := ["levee/code.halves"], apart := false, laid := [("levee/code.halves", laid_levee_code_halves)], narrowed := true }
def TableByteUptoSaid : Prop := tableByteUptoRow.holds Tryd.pinned (OpenSpec.upto tableByteSpec)

/-- 'leveelaw06.TableUnlike', WHERE WHAT IT READS IS OF BULK AT MOST 1048576: true; the input reads as it did. -/
def tableUnlikeUptoRow : OpenClaim := { program := "ytnihnkcmmnlaaaadoor", sum := "1529a8ba1bd22477b3ce9f6737907183ed8770387dc058c031304d52c9f72e7a", func := "levee/leveelaw06.TableUnlike", spec := "tableUnlike", inPlace := ["internal/abi.NoEscape", "internal/bytealg.MakeNoZero"], unfollowed := true, recurses := true, named := ["levee/code.halves"], apart := false, laid := [("levee/code.halves", laid_levee_code_halves)], narrowed := true }
def TableUnlikeUptoSaid : Prop := tableUnlikeUptoRow.holds Tryd.pinned (OpenSpec.upto tableUnlikeSpec)

end Rows
end Go.Proofs.YtnihnkcmmnlaaaaDoor
