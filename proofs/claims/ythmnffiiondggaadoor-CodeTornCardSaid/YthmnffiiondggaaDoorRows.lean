/-
  NARROWER THAN 'FOR EVERY INPUT', by the rows' own cells (each row's printed sentence says how): CodeNums: laid · CodePacks: laid · CodeBack: laid · CodeSums: laid · CodeScans: laid · CodeFrames: laid · CodeTorn: laid · CodeByte: laid · CodeUnlike: laid.
  DERIVED. THE GIVEN ROWS OF THIS SEAT. 9 by the template 'for every input the law returns true; each argument reads behind the call as it read before'; 0 by the template 'total and deterministic' (their statements: YthmnffiiondggaaDoorTotals.lean).
  GIVEN WITH THE SEED: the statements are not yours to turn. If you find one false, say at which input.
  Laid BY PROGRAM, IN A SANDBOX (cutbox-rows.mjs): the forced cells as the released guide's own fill.sh prints them over the translation 560aa176ac8e0b27… (all of the seat's roots in one cut). By AI agents, Wed Nov 11 2026. No macro, syntax, notation, axiom, sorry.
-/
import Derived.Test.YthmnffiiondggaaDoorChecked
import GoSem.Claim
import GoSem.ClaimJoined
import GoSem.ClaimMapViews
import Derived.JoinedTies
import Derived.KernelRfl
namespace Go.Proofs.YthmnffiiondggaaDoor
/- THE CELL 'sum', in the pinned program and in every row, IS THE sha256 OF THE DUMP (.gsa) THAT YthmnffiiondggaaDoorProg.lean LOADS. Nothing in Lean hashes anything: it is a label: what it is worth is what the hold of that sum in a sandbox is worth. -/
noncomputable def Tryd.pinned : Pinned := { name := "ythmnffiiondggaadoor", sum := "560aa176ac8e0b274537593c4279a6ddbb315a8353a6ad0dc81b236ae924d275", checked := Tryd.checked }
namespace Rows
def none {H : Type} : Left H := { results := [], args := [] }

/- WHAT THE LISTED PACKAGE-LEVEL VARIABLES READ AS WHEN THE CALL BEGINS. Each datum BY PROGRAM (the guide's laid-datum.mjs) off the statement by which the dump's own 'gosem.cut.vars' lays the variable. In a bare row this is a premise. The card (YthmnffiiondggaaDoorCards.lean) ties it to the program's text. -/
def laid_levee_code_halves {H : Type} : DataW H := .agg [.lit (.int .u32 0), .lit (.int .u32 498536548), .lit (.int .u32 997073096), .lit (.int .u32 651767980), .lit (.int .u32 1994146192), .lit (.int .u32 1802195444), .lit (.int .u32 1303535960), .lit (.int .u32 1342533948), .lit (.int .u32 3988292384), .lit (.int .u32 4027552580), .lit (.int .u32 3604390888), .lit (.int .u32 3412177804), .lit (.int .u32 2607071920), .lit (.int .u32 2262029012), .lit (.int .u32 2685067896), .lit (.int .u32 3183342108)]

/-- 'leveelaw01.CodeNums': WHATEVER THE INPUT: true; the input reads as it did. -/
def codeNumsSpec : ChangeSpec := { name := "codeNums", fn := fun _ => fun
  | [d1, d2] => { results := [.lit (.bool true)], args := [d1, d2] }
  | _ => none }
def codeNumsRow : OpenClaim := { program := "ythmnffiiondggaadoor", sum := "560aa176ac8e0b274537593c4279a6ddbb315a8353a6ad0dc81b236ae924d275", func := "levee/leveelaw01.CodeNums", spec := "codeNums", named := ["levee/code.halves"], apart := false, laid := [("levee/code.halves", laid_levee_code_halves)] }
def CodeNumsSaid : Prop := codeNumsRow.holds Tryd.pinned (OpenSpec.ofChange codeNumsSpec)

/-- ITS FALSE NEIGHBOUR: 'it returns false'. Refute it at one input. -/
def codeNumsWrong : ChangeSpec := { name := "codeNums", fn := fun _ => fun
  | [d1, d2] => { results := [.lit (.bool false)], args := [d1, d2] }
  | _ => none }
def CodeNumsWrongFalsely : Prop := codeNumsRow.holds Tryd.pinned (OpenSpec.ofChange codeNumsWrong)

/-- 'leveelaw01.CodePacks': WHATEVER THE INPUT: true; the input reads as it did. -/
def codePacksSpec : ChangeSpec := { name := "codePacks", fn := fun _ => fun
  | [d1, d2] => { results := [.lit (.bool true)], args := [d1, d2] }
  | _ => none }
def codePacksRow : OpenClaim := { program := "ythmnffiiondggaadoor", sum := "560aa176ac8e0b274537593c4279a6ddbb315a8353a6ad0dc81b236ae924d275", func := "levee/leveelaw01.CodePacks", spec := "codePacks", inPlace := ["internal/abi.NoEscape", "internal/bytealg.MakeNoZero"], named := ["levee/code.halves"], apart := false, laid := [("levee/code.halves", laid_levee_code_halves)] }
def CodePacksSaid : Prop := codePacksRow.holds Tryd.pinned (OpenSpec.ofChange codePacksSpec)

/-- ITS FALSE NEIGHBOUR: 'it returns false'. Refute it at one input. -/
def codePacksWrong : ChangeSpec := { name := "codePacks", fn := fun _ => fun
  | [d1, d2] => { results := [.lit (.bool false)], args := [d1, d2] }
  | _ => none }
def CodePacksWrongFalsely : Prop := codePacksRow.holds Tryd.pinned (OpenSpec.ofChange codePacksWrong)

/-- 'leveelaw01.CodeBack': WHATEVER THE INPUT: true; the input reads as it did. -/
def codeBackSpec : ChangeSpec := { name := "codeBack", fn := fun _ => fun
  | [d1, d2] => { results := [.lit (.bool true)], args := [d1, d2] }
  | _ => none }
def codeBackRow : OpenClaim := { program := "ythmnffiiondggaadoor", sum := "560aa176ac8e0b274537593c4279a6ddbb315a8353a6ad0dc81b236ae924d275", func := "levee/leveelaw01.CodeBack", spec := "codeBack", inPlace := ["internal/abi.NoEscape", "internal/bytealg.MakeNoZero"], named := ["levee/code.halves"], apart := false, laid := [("levee/code.halves", laid_levee_code_halves)] }
def CodeBackSaid : Prop := codeBackRow.holds Tryd.pinned (OpenSpec.ofChange codeBackSpec)

/-- ITS FALSE NEIGHBOUR: 'it returns false'. Refute it at one input. -/
def codeBackWrong : ChangeSpec := { name := "codeBack", fn := fun _ => fun
  | [d1, d2] => { results := [.lit (.bool false)], args := [d1, d2] }
  | _ => none }
def CodeBackWrongFalsely : Prop := codeBackRow.holds Tryd.pinned (OpenSpec.ofChange codeBackWrong)

/-- 'leveelaw01.CodeSums': WHATEVER THE INPUT: true; the input reads as it did. -/
def codeSumsSpec : ChangeSpec := { name := "codeSums", fn := fun _ => fun
  | [d] => { results := [.lit (.bool true)], args := [d] }
  | _ => none }
def codeSumsRow : OpenClaim := { program := "ythmnffiiondggaadoor", sum := "560aa176ac8e0b274537593c4279a6ddbb315a8353a6ad0dc81b236ae924d275", func := "levee/leveelaw01.CodeSums", spec := "codeSums", inPlace := ["sync/atomic.LoadInt64", "sync/atomic.AddInt64", "sync/atomic.LoadUint32", "(*internal/sync.Mutex).Lock", "internal/race.Disable", "sync/atomic.CompareAndSwapInt32", "internal/race.Enable", "internal/race.Acquire", "(*internal/sync.Mutex).lockSlow", "internal/sync.runtime_canSpin", "internal/sync.runtime_doSpin", "internal/sync.throw", "internal/sync.runtime_nanotime", "internal/sync.runtime_SemacquireMutex", "sync/atomic.AddInt32", "(*internal/sync.Mutex).Unlock", "internal/race.ReleaseMerge", "(*internal/sync.Mutex).unlockSlow", "internal/sync.fatal", "internal/sync.runtime_Semrelease", "sync/atomic.StoreUint32"], unfollowed := true, recurses := true, named := ["levee/code.halves"], apart := false, laid := [("levee/code.halves", laid_levee_code_halves)] }
def CodeSumsSaid : Prop := codeSumsRow.holds Tryd.pinned (OpenSpec.ofChange codeSumsSpec)

/-- ITS FALSE NEIGHBOUR: 'it returns false'. Refute it at one input. -/
def codeSumsWrong : ChangeSpec := { name := "codeSums", fn := fun _ => fun
  | [d] => { results := [.lit (.bool false)], args := [d] }
  | _ => none }
def CodeSumsWrongFalsely : Prop := codeSumsRow.holds Tryd.pinned (OpenSpec.ofChange codeSumsWrong)

/-- 'leveelaw01.CodeScans': WHATEVER THE INPUT: true; the input reads as it did. -/
def codeScansSpec : ChangeSpec := { name := "codeScans", fn := fun _ => fun
  | [d] => { results := [.lit (.bool true)], args := [d] }
  | _ => none }
def codeScansRow : OpenClaim := { program := "ythmnffiiondggaadoor", sum := "560aa176ac8e0b274537593c4279a6ddbb315a8353a6ad0dc81b236ae924d275", func := "levee/leveelaw01.CodeScans", spec := "codeScans", named := ["levee/code.halves"], apart := false, laid := [("levee/code.halves", laid_levee_code_halves)] }
def CodeScansSaid : Prop := codeScansRow.holds Tryd.pinned (OpenSpec.ofChange codeScansSpec)

/-- ITS FALSE NEIGHBOUR: 'it returns false'. Refute it at one input. -/
def codeScansWrong : ChangeSpec := { name := "codeScans", fn := fun _ => fun
  | [d] => { results := [.lit (.bool false)], args := [d] }
  | _ => none }
def CodeScansWrongFalsely : Prop := codeScansRow.holds Tryd.pinned (OpenSpec.ofChange codeScansWrong)

/-- 'leveelaw01.CodeFrames': WHATEVER THE INPUT: true; the input reads as it did. -/
def codeFramesSpec : ChangeSpec := { name := "codeFrames", fn := fun _ => fun
  | [d1, d2] => { results := [.lit (.bool true)], args := [d1, d2] }
  | _ => none }
def codeFramesRow : OpenClaim := { program := "ythmnffiiondggaadoor", sum := "560aa176ac8e0b274537593c4279a6ddbb315a8353a6ad0dc81b236ae924d275", func := "levee/leveelaw01.CodeFrames", spec := "codeFrames", named := ["levee/code.halves"], apart := false, laid := [("levee/code.halves", laid_levee_code_halves)] }
def CodeFramesSaid : Prop := codeFramesRow.holds Tryd.pinned (OpenSpec.ofChange codeFramesSpec)

/-- ITS FALSE NEIGHBOUR: 'it returns false'. Refute it at one input. -/
def codeFramesWrong : ChangeSpec := { name := "codeFrames", fn := fun _ => fun
  | [d1, d2] => { results := [.lit (.bool false)], args := [d1, d2] }
  | _ => none }
def CodeFramesWrongFalsely : Prop := codeFramesRow.holds Tryd.pinned (OpenSpec.ofChange codeFramesWrong)

/-- 'leveelaw01.CodeTorn': WHATEVER THE INPUT: true; the input reads as it did. -/
def codeTornSpec : ChangeSpec := { name := "codeTorn", fn := fun _ => fun
  | [d1, d2] => { results := [.lit (.bool true)], args := [d1, d2] }
  | _ => none }
def codeTornRow : OpenClaim := { program := "ythmnffiiondggaadoor", sum := "560aa176ac8e0b274537593c4279a6ddbb315a8353a6ad0dc81b236ae924d275", func := "levee/leveelaw01.CodeTorn", spec := "codeTorn", named := ["levee/code.halves"], apart := false, laid := [("levee/code.halves", laid_levee_code_halves)] }
def CodeTornSaid : Prop := codeTornRow.holds Tryd.pinned (OpenSpec.ofChange codeTornSpec)

/-- ITS FALSE NEIGHBOUR: 'it returns false'. Refute it at one input. -/
def codeTornWrong : ChangeSpec := { name := "codeTorn", fn := fun _ => fun
  | [d1, d2] => { results := [.lit (.bool false)], args := [d1, d2] }
  | _ => none }
def CodeTornWrongFalsely : Prop := codeTornRow.holds Tryd.pinned (OpenSpec.ofChange codeTornWrong)

/-- 'leveelaw01.CodeByte': WHATEVER THE INPUT: true; the input reads as it did. -/
def codeByteSpec : ChangeSpec := { name := "codeByte", fn := fun _ => fun
  | [d1, d2, d3] => { results := [.lit (.bool true)], args := [d1, d2, d3] }
  | _ => none }
def codeByteRow : OpenClaim := { program := "ythmnffiiondggaadoor", sum := "560aa176ac8e0b274537593c4279a6ddbb315a8353a6ad0dc81b236ae924d275", func := "levee/leveelaw01.CodeByte", spec := "codeByte", named := ["levee/code.halves"], apart := false, laid := [("levee/code.halves", laid_levee_code_halves)] }
def CodeByteSaid : Prop := codeByteRow.holds Tryd.pinned (OpenSpec.ofChange codeByteSpec)

/-- ITS FALSE NEIGHBOUR: 'it returns false'. Refute it at one input. -/
def codeByteWrong : ChangeSpec := { name := "codeByte", fn := fun _ => fun
  | [d1, d2, d3] => { results := [.lit (.bool false)], args := [d1, d2, d3] }
  | _ => none }
def CodeByteWrongFalsely : Prop := codeByteRow.holds Tryd.pinned (OpenSpec.ofChange codeByteWrong)

/-- 'leveelaw01.CodeUnlike': WHATEVER THE INPUT: true; the input reads as it did. -/
def codeUnlikeSpec : ChangeSpec := { name := "codeUnlike", fn := fun _ => fun
  | [d1, d2] => { results := [.lit (.bool true)], args := [d1, d2] }
  | _ => none }
def codeUnlikeRow : OpenClaim := { program := "ythmnffiiondggaadoor", sum := "560aa176ac8e0b274537593c4279a6ddbb315a8353a6ad0dc81b236ae924d275", func := "levee/leveelaw01.CodeUnlike", spec := "codeUnlike", inPlace := ["internal/abi.NoEscape", "internal/bytealg.MakeNoZero"], named := ["levee/code.halves"], apart := false, laid := [("levee/code.halves", laid_levee_code_halves)] }
def CodeUnlikeSaid : Prop := codeUnlikeRow.holds Tryd.pinned (OpenSpec.ofChange codeUnlikeSpec)

/-- ITS FALSE NEIGHBOUR: 'it returns false'. Refute it at one input. -/
def codeUnlikeWrong : ChangeSpec := { name := "codeUnlike", fn := fun _ => fun
  | [d1, d2] => { results := [.lit (.bool false)], args := [d1, d2] }
  | _ => none }
def CodeUnlikeWrongFalsely : Prop := codeUnlikeRow.holds Tryd.pinned (OpenSpec.ofChange codeUnlikeWrong)

/- THE SECOND FORM. 'bulk': how many values and letters a reading holds, each counted each time it is reached (what is shared counts as often as it is met; a slice's spare places count too). A statement '..UptoSaid' is the law's where the arguments, and the package variables that the reading takes, are together of bulk at most 1048576: NARROWER than '..Said'. Prove '..Said' where nothing that the law and all that it calls make is longer than what came in: it says more and counts as full. Else prove '..UptoSaid'. A law counts once. -/
mutual
def uptoBulk {H : Type} : DataW H → Nat
  | .lit (.string bytes) => bytes.length + 1
  | .lit _ => 1
  | .nil => 1
  | .ptr d => uptoBulk d + 1
  | .slice elems spare => uptoBulkAll elems + uptoBulkAll spare + 1
  | .agg parts => uptoBulkAll parts + 1
  | .iface _ d => uptoBulk d + 1
  | .map entries => uptoBulkEntries entries + 1
  | .held _ => 1
def uptoBulkAll {H : Type} : List (DataW H) → Nat
  | [] => 0
  | d :: r => uptoBulk d + uptoBulkAll r
def uptoBulkEntries {H : Type} : List (Lit × DataW H) → Nat
  | [] => 0
  | x :: r => uptoBulkEntry x + uptoBulkEntries r
def uptoBulkEntry {H : Type} : Lit × DataW H → Nat
  | (.string bytes, d) => bytes.length + uptoBulk d + 1
  | (_, d) => uptoBulk d + 1
 end
def uptoSmall : (H : Type) → List (DataW H) → Bool := fun _ ds => decide (uptoBulkAll ds ≤ 1048576)
def OpenSpec.upto (s : _root_.Go.ChangeSpec) : _root_.Go.OpenSpec := { _root_.Go.OpenSpec.ofChange s with cond := some uptoSmall }

/-- 'leveelaw01.CodeNums', WHERE WHAT IT READS IS OF BULK AT MOST 1048576: true; the input reads as it did. -/
def codeNumsUptoRow : OpenClaim := { program := "ythmnffiiondggaadoor", sum := "560aa176ac8e0b274537593c4279a6ddbb315a8353a6ad0dc81b236ae924d275", func := "levee/leveelaw01.CodeNums", spec := "codeNums", named := ["levee/code.halves"], apart := false, laid := [("levee/code.halves", laid_levee_code_halves)], narrowed := true }
def CodeNumsUptoSaid : Prop := codeNumsUptoRow.holds Tryd.pinned (OpenSpec.upto codeNumsSpec)

/-- 'leveelaw01.CodePacks', WHERE WHAT IT READS IS OF BULK AT MOST 1048576: true; the input reads as it did. -/
def codePacksUptoRow : OpenClaim := { program := "ythmnffiiondggaadoor", sum := "560aa176ac8e0b274537593c4279a6ddbb315a8353a6ad0dc81b236ae924d275", func := "levee/leveelaw01.CodePacks", spec := "codePacks", inPlace := ["internal/abi.NoEscape", "internal/bytealg.MakeNoZero"], named := ["levee/code.halves"], apart := false, laid := [("levee/code.halves", laid_levee_code_halves)], narrowed := true }
def CodePacksUptoSaid : Prop := codePacksUptoRow.holds Tryd.pinned (OpenSpec.upto codePacksSpec)

/-- 'leveelaw01.CodeBack', WHERE WHAT IT READS IS OF BULK AT MOST 1048576: true; the input reads as it did. -/
def codeBackUptoRow : OpenClaim := { program := "ythmnffiiondggaadoor", sum := "560aa176ac8e0b274537593c4279a6ddbb315a8353a6ad0dc81b236ae924d275", func := "levee/leveelaw01.CodeBack", spec := "codeBack", inPlace := ["internal/abi.NoEscape", "internal/bytealg.MakeNoZero"], named := ["levee/code.halves"], apart := false, laid := [("levee/code.halves", laid_levee_code_halves)], narrowed := true }
def CodeBackUptoSaid : Prop := codeBackUptoRow.holds Tryd.pinned (OpenSpec.upto codeBackSpec)

/-- 'leveelaw01.CodeSums', WHERE WHAT IT READS IS OF BULK AT MOST 1048576: true; the input reads as it did. -/
def codeSumsUptoRow : OpenClaim := { program := "ythmnffiiondggaadoor", sum := "560aa176ac8e0b274537593c4279a6ddbb315a8353a6ad0dc81b236ae924d275", func := "levee/leveelaw01.CodeSums", spec := "codeSums", inPlace := ["sync/atomic.LoadInt64", "sync/atomic.AddInt64", "sync/atomic.LoadUint32", "(*internal/sync.Mutex).Lock", "internal/race.Disable", "sync/atomic.CompareAndSwapInt32", "internal/race.Enable", "internal/race.Acquire", "(*internal/sync.Mutex).lockSlow", "internal/sync.runtime_canSpin", "internal/sync.runtime_doSpin", "internal/sync.throw", "internal/sync.runtime_nanotime", "internal/sync.runtime_SemacquireMutex", "sync/atomic.AddInt32", "(*internal/sync.Mutex).Unlock", "internal/race.ReleaseMerge", "(*internal/sync.Mutex).unlockSlow", "internal/sync.fatal", "internal/sync.runtime_Semrelease", "sync/atomic.StoreUint32"], unfollowed := true, recurses := true, named := ["levee/code.halves"], apart := false, laid := [("levee/code.halves", laid_levee_code_halves)], narrowed := true }
def CodeSumsUptoSaid : Prop := codeSumsUptoRow.holds Tryd.pinned (OpenSpec.upto codeSumsSpec)

/-- 'leveelaw01.CodeScans', WHERE WHAT IT READS IS OF BULK AT MOST 1048576: true; the input reads as it did. -/
def codeScansUptoRow : OpenClaim := { program := "ythmnffiiondggaadoor", sum := "560aa176ac8e0b274537593c4279a6ddbb315a8353a6ad0dc81b236ae924d275", func := "levee/leveelaw01.CodeScans", spec := "codeScans", named := ["levee/code.halves"], apart := false, laid := [("levee/code.halves", laid_levee_code_halves)], narrowed := true }
def CodeScansUptoSaid : Prop := codeScansUptoRow.holds Tryd.pinned (OpenSpec.upto codeScansSpec)

/-- 'leveelaw01.CodeFrames', WHERE WHAT IT READS IS OF BULK AT MOST 1048576: true; the input reads as it did. -/
def codeFramesUptoRow : OpenClaim := { program := "ythmnffiiondggaadoor", sum := "560aa176ac8e0b274537593c4279a6ddbb315a8353a6ad0dc81b236ae924d275", func := "levee/leveelaw01.CodeFrames", spec := "codeFrames", named := ["levee/code.halves"], apart := false, laid := [("levee/code.halves", laid_levee_code_halves)], narrowed := true }
def CodeFramesUptoSaid : Prop := codeFramesUptoRow.holds Tryd.pinned (OpenSpec.upto codeFramesSpec)

/-- 'leveelaw01.CodeTorn', WHERE WHAT IT READS IS OF BULK AT MOST 1048576: true; the input reads as it did. -/
def codeTornUptoRow : OpenClaim := { program := "ythmnffiiondggaadoor", sum := "560aa176ac8e0b274537593c4279a6ddbb315a8353a6ad0dc81b236ae924d275", func := "levee/leveelaw01.CodeTorn", spec := "codeTorn", named := ["levee/code.halves"], apart := false, laid := [("levee/code.halves", laid_levee_code_halves)], narrowed := true }
def CodeTornUptoSaid : Prop := codeTornUptoRow.holds Tryd.pinned (OpenSpec.upto codeTornSpec)

/-- 'leveelaw01.CodeByte', WHERE WHAT IT READS IS OF BULK AT MOST 1048576: true; the input reads as it did. -/
def codeByteUptoRow : OpenClaim := { program := "ythmnffiiondggaadoor", sum := "560aa176ac8e0b274537593c4279a6ddbb315a8353a6ad0dc81b236ae924d275", func := "levee/leveelaw01.CodeByte", spec := "codeByte", named := ["levee/code.halves"], apart := false, laid := [("levee/code.halves", laid_levee_code_halves)], narrowed := true }
def CodeByteUptoSaid : Prop := codeByteUptoRow.holds Tryd.pinned (OpenSpec.upto codeByteSpec)

/-- 'leveelaw01.CodeUnlike', WHERE WHAT IT READS IS OF BULK AT MOST 1048576: true; the input reads as it did. -/
def codeUnlikeUptoRow : OpenClaim := { program := "ythmnffiiondggaadoor", sum := "560aa176ac8e0b274537593c4279a6ddbb315a8353a6ad0dc81b236ae924d275", func := "levee/leveelaw01.CodeUnlike", spec := "codeUnlike", inPlace := ["internal/abi.NoEscape", "internal/bytealg.MakeNoZero"], named := ["levee/code.halves"], apart := false, laid := [("levee/code.halves", laid_levee_code_halves)], narrowed := true }
def CodeUnlikeUptoSaid : Prop := codeUnlikeUptoRow.holds Tryd.pinned (OpenSpec.upto codeUnlikeSpec)

end Rows
end Go.Proofs.YthmnffiiondggaaDoor
