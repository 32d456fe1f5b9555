/-
  NARROWER THAN 'FOR EVERY INPUT', by the rows' own cells (each row's printed sentence says how): WalOpens: laid · WalKeeps: laid · WalMends: laid · WalOne: laid · WalGone: laid.
  DERIVED. THE GIVEN ROWS OF THIS SEAT. 5 by the template 'for every input the law returns true; each argument reads behind the call as it read before'; 0 by the template 'total and deterministic' (their statements: YtmkcgnljankmdaaDoorTotals.lean).
  GIVEN WITH THE SEED: the statements are not yours to turn. If you find one false, say at which input.
  Laid BY PROGRAM, IN A SANDBOX (cutbox-rows.mjs): the forced cells as the released guide's own fill.sh prints them over the translation d78a035b538f84df… (all of the seat's roots in one cut). By AI agents, Wed Nov 11 2026. No macro, syntax, notation, axiom, sorry.
-/
import Derived.Test.YtmkcgnljankmdaaDoorChecked
import GoSem.Claim
import GoSem.ClaimJoined
import GoSem.ClaimMapViews
import Derived.JoinedTies
import Derived.KernelRfl
namespace Go.Proofs.YtmkcgnljankmdaaDoor
/- THE CELL 'sum', in the pinned program and in every row, IS THE sha256 OF THE DUMP (.gsa) THAT YtmkcgnljankmdaaDoorProg.lean LOADS. Nothing in Lean hashes anything: it is a label: what it is worth is what the hold of that sum in a sandbox is worth. -/
noncomputable def Tryd.pinned : Pinned := { name := "ytmkcgnljankmdaadoor", sum := "d78a035b538f84df30500652caf55b2b3b037f962a83693c7bccbfd66e462766", checked := Tryd.checked }
namespace Rows
def none {H : Type} : Left H := { results := [], args := [] }

/- WHAT THE LISTED PACKAGE-LEVEL VARIABLES READ AS WHEN THE CALL BEGINS. Each datum BY PROGRAM (the guide's laid-datum.mjs) off the statement by which the dump's own 'gosem.cut.vars' lays the variable. In a bare row this is a premise. The card (YtmkcgnljankmdaaDoorCards.lean) ties it to the program's text. -/
def laid_levee_code_halves {H : Type} : DataW H := .agg [.lit (.int .u32 0), .lit (.int .u32 498536548), .lit (.int .u32 997073096), .lit (.int .u32 651767980), .lit (.int .u32 1994146192), .lit (.int .u32 1802195444), .lit (.int .u32 1303535960), .lit (.int .u32 1342533948), .lit (.int .u32 3988292384), .lit (.int .u32 4027552580), .lit (.int .u32 3604390888), .lit (.int .u32 3412177804), .lit (.int .u32 2607071920), .lit (.int .u32 2262029012), .lit (.int .u32 2685067896), .lit (.int .u32 3183342108)]

/-- 'leveelaw05.WalOpens': WHATEVER THE INPUT: true; the input reads as it did. -/
def walOpensSpec : ChangeSpec := { name := "walOpens", fn := fun _ => fun
  | [d1, d2] => { results := [.lit (.bool true)], args := [d1, d2] }
  | _ => none }
def walOpensRow : OpenClaim := { program := "ytmkcgnljankmdaadoor", sum := "d78a035b538f84df30500652caf55b2b3b037f962a83693c7bccbfd66e462766", func := "levee/leveelaw05.WalOpens", spec := "walOpens", named := ["levee/code.halves"], apart := false, laid := [("levee/code.halves", laid_levee_code_halves)] }
def WalOpensSaid : Prop := walOpensRow.holds Tryd.pinned (OpenSpec.ofChange walOpensSpec)

/-- ITS FALSE NEIGHBOUR: 'it returns false'. Refute it at one input. -/
def walOpensWrong : ChangeSpec := { name := "walOpens", fn := fun _ => fun
  | [d1, d2] => { results := [.lit (.bool false)], args := [d1, d2] }
  | _ => none }
def WalOpensWrongFalsely : Prop := walOpensRow.holds Tryd.pinned (OpenSpec.ofChange walOpensWrong)

/-- 'leveelaw05.WalKeeps': WHATEVER THE INPUT: true; the input reads as it did. -/
def walKeepsSpec : ChangeSpec := { name := "walKeeps", fn := fun _ => fun
  | [d1, d2, d3] => { results := [.lit (.bool true)], args := [d1, d2, d3] }
  | _ => none }
def walKeepsRow : OpenClaim := { program := "ytmkcgnljankmdaadoor", sum := "d78a035b538f84df30500652caf55b2b3b037f962a83693c7bccbfd66e462766", func := "levee/leveelaw05.WalKeeps", spec := "walKeeps", named := ["levee/code.halves"], apart := false, laid := [("levee/code.halves", laid_levee_code_halves)] }
def WalKeepsSaid : Prop := walKeepsRow.holds Tryd.pinned (OpenSpec.ofChange walKeepsSpec)

/-- ITS FALSE NEIGHBOUR: 'it returns false'. Refute it at one input. -/
def walKeepsWrong : ChangeSpec := { name := "walKeeps", fn := fun _ => fun
  | [d1, d2, d3] => { results := [.lit (.bool false)], args := [d1, d2, d3] }
  | _ => none }
def WalKeepsWrongFalsely : Prop := walKeepsRow.holds Tryd.pinned (OpenSpec.ofChange walKeepsWrong)

/-- 'leveelaw05.WalMends': WHATEVER THE INPUT: true; the input reads as it did. -/
def walMendsSpec : ChangeSpec := { name := "walMends", fn := fun _ => fun
  | [d1, d2] => { results := [.lit (.bool true)], args := [d1, d2] }
  | _ => none }
def walMendsRow : OpenClaim := { program := "ytmkcgnljankmdaadoor", sum := "d78a035b538f84df30500652caf55b2b3b037f962a83693c7bccbfd66e462766", func := "levee/leveelaw05.WalMends", spec := "walMends", named := ["levee/code.halves"], apart := false, laid := [("levee/code.halves", laid_levee_code_halves)] }
def WalMendsSaid : Prop := walMendsRow.holds Tryd.pinned (OpenSpec.ofChange walMendsSpec)

/-- ITS FALSE NEIGHBOUR: 'it returns false'. Refute it at one input. -/
def walMendsWrong : ChangeSpec := { name := "walMends", fn := fun _ => fun
  | [d1, d2] => { results := [.lit (.bool false)], args := [d1, d2] }
  | _ => none }
def WalMendsWrongFalsely : Prop := walMendsRow.holds Tryd.pinned (OpenSpec.ofChange walMendsWrong)

/-- 'leveelaw05.WalOne': WHATEVER THE INPUT: true; the input reads as it did. -/
def walOneSpec : ChangeSpec := { name := "walOne", fn := fun _ => fun
  | [d1, d2] => { results := [.lit (.bool true)], args := [d1, d2] }
  | _ => none }
def walOneRow : OpenClaim := { program := "ytmkcgnljankmdaadoor", sum := "d78a035b538f84df30500652caf55b2b3b037f962a83693c7bccbfd66e462766", func := "levee/leveelaw05.WalOne", spec := "walOne", named := ["levee/code.halves"], apart := false, laid := [("levee/code.halves", laid_levee_code_halves)] }
def WalOneSaid : Prop := walOneRow.holds Tryd.pinned (OpenSpec.ofChange walOneSpec)

/-- ITS FALSE NEIGHBOUR: 'it returns false'. Refute it at one input. -/
def walOneWrong : ChangeSpec := { name := "walOne", fn := fun _ => fun
  | [d1, d2] => { results := [.lit (.bool false)], args := [d1, d2] }
  | _ => none }
def WalOneWrongFalsely : Prop := walOneRow.holds Tryd.pinned (OpenSpec.ofChange walOneWrong)

/-- 'leveelaw05.WalGone': WHATEVER THE INPUT: true; the input reads as it did. -/
def walGoneSpec : ChangeSpec := { name := "walGone", fn := fun _ => fun
  | [d1, d2] => { results := [.lit (.bool true)], args := [d1, d2] }
  | _ => none }
def walGoneRow : OpenClaim := { program := "ytmkcgnljankmdaadoor", sum := "d78a035b538f84df30500652caf55b2b3b037f962a83693c7bccbfd66e462766", func := "levee/leveelaw05.WalGone", spec := "walGone", named := ["levee/code.halves"], apart := false, laid := [("levee/code.halves", laid_levee_code_halves)] }
def WalGoneSaid : Prop := walGoneRow.holds Tryd.pinned (OpenSpec.ofChange walGoneSpec)

/-- ITS FALSE NEIGHBOUR: 'it returns false'. Refute it at one input. -/
def walGoneWrong : ChangeSpec := { name := "walGone", fn := fun _ => fun
  | [d1, d2] => { results := [.lit (.bool false)], args := [d1, d2] }
  | _ => none }
def WalGoneWrongFalsely : Prop := walGoneRow.holds Tryd.pinned (OpenSpec.ofChange walGoneWrong)

/- THE SECOND FORM. 'bulk': how many values and letters a reading holds, each counted each time it is reached (what is shared counts as often as it is met; a slice's spare places count too). A statement '..UptoSaid' is the law's where the arguments, and the package variables that the reading takes, are together of bulk at most 1048576: NARROWER than '..Said'. Prove '..Said' where nothing that the law and all that it calls make is longer than what came in: it says more and counts as full. Else prove '..UptoSaid'. A law counts once. -/
mutual
def uptoBulk {H : Type} : DataW H → Nat
  | .lit (.string bytes) => bytes.length + 1
  | .lit _ => 1
  | .nil => 1
  | .ptr d => uptoBulk d + 1
  | .slice elems spare => uptoBulkAll elems + uptoBulkAll spare + 1
  | .agg parts => uptoBulkAll parts + 1
  | .iface _ d => uptoBulk d + 1
  | .map entries => uptoBulkEntries entries + 1
  | .held _ => 1
def uptoBulkAll {H : Type} : List (DataW H) → Nat
  | [] => 0
  | d :: r => uptoBulk d + uptoBulkAll r
def uptoBulkEntries {H : Type} : List (Lit × DataW H) → Nat
  | [] => 0
  | x :: r => uptoBulkEntry x + uptoBulkEntries r
def uptoBulkEntry {H : Type} : Lit × DataW H → Nat
  | (.string bytes, d) => bytes.length + uptoBulk d + 1
  | (_, d) => uptoBulk d + 1
 end
def uptoSmall : (H : Type) → List (DataW H) → Bool := fun _ ds => decide (uptoBulkAll ds ≤ 1048576)
def OpenSpec.upto (s : _root_.Go.ChangeSpec) : _root_.Go.OpenSpec := { _root_.Go.OpenSpec.ofChange s with cond := some uptoSmall }

/-- 'leveelaw05.WalOpens', WHERE WHAT IT READS IS OF BULK AT MOST 1048576: true; the input reads as it did. -/
def walOpensUptoRow : OpenClaim := { program := "ytmkcgnljankmdaadoor", sum := "d78a035b538f84df30500652caf55b2b3b037f962a83693c7bccbfd66e462766", func := "levee/leveelaw05.WalOpens", spec := "walOpens", named := ["levee/code.halves"], apart := false, laid := [("levee/code.halves", laid_levee_code_halves)], narrowed := true }
def WalOpensUptoSaid : Prop := walOpensUptoRow.holds Tryd.pinned (OpenSpec.upto walOpensSpec)

/-- 'leveelaw05.WalKeeps', WHERE WHAT IT READS IS OF BULK AT MOST 1048576: true; the input reads as it did. -/
def walKeepsUptoRow : OpenClaim := { program := "ytmkcgnljankmdaadoor", sum := "d78a035b538f84df30500652caf55b2b3b037f962a83693c7bccbfd66e462766", func := "levee/leveelaw05.WalKeeps", spec := "walKeeps", named := ["levee/code.halves"], apart := false, laid := [("levee/code.halves", laid_levee_code_halves)], narrowed := true }
def WalKeepsUptoSaid : Prop := walKeepsUptoRow.holds Tryd.pinned (OpenSpec.upto walKeepsSpec)

/-- 'leveelaw05.WalMends', WHERE WHAT IT READS IS OF BULK AT MOST 1048576: true; the input reads as it did. -/
def walMendsUptoRow : OpenClaim := { program := "ytmkcgnljankmdaadoor", sum := "d78a035b538f84df30500652caf55b2b3b037f962a83693c7bccbfd66e462766", func := "levee/leveelaw05.WalMends", spec := "walMends", named := ["levee/code.halves"], apart := false, laid := [("levee/code.halves", laid_levee_code_halves)], narrowed := true }
def WalMendsUptoSaid : Prop := walMendsUptoRow.holds Tryd.pinned (OpenSpec.upto walMendsSpec)

/-- 'leveelaw05.WalOne', WHERE WHAT IT READS IS OF BULK AT MOST 1048576: true; the input reads as it did. -/
def walOneUptoRow : OpenClaim := { program := "ytmkcgnljankmdaadoor", sum := "d78a035b538f84df30500652caf55b2b3b037f962a83693c7bccbfd66e462766", func := "levee/leveelaw05.WalOne", spec := "walOne", named := ["levee/code.halves"], apart := false, laid := [("levee/code.halves", laid_levee_code_halves)], narrowed := true }
def WalOneUptoSaid : Prop := walOneUptoRow.holds Tryd.pinned (OpenSpec.upto walOneSpec)

/-- 'leveelaw05.WalGone', WHERE WHAT IT READS IS OF BULK AT MOST 1048576: true; the input reads as it did. -/
def walGoneUptoRow : OpenClaim := { program := "ytmkcgnljankmdaadoor", sum := "d78a035b538f84df30500652caf55b2b3b037f962a83693c7bccbfd66e462766", func := "levee/leveelaw05.WalGone", spec := "walGone", named := ["levee/code.halves"], apart := false, laid := [("levee/code.halves", laid_levee_code_halves)], narrowed := true }
def WalGoneUptoSaid : Prop := walGoneUptoRow.holds Tryd.pinned (OpenSpec.upto walGoneSpec)

end Rows
end Go.Proofs.YtmkcgnljankmdaaDoor
