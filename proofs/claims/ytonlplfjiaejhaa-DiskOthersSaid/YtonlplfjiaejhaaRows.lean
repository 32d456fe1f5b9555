/-
  No cell of these rows narrows 'for every input' (looked for: loops, veiled, ifaces, maps, wideKeys, modest, calm, conditions, laid).
  DERIVED. THE GIVEN ROWS OF THIS SEAT. 6 by the template 'for every input the law returns true; each argument reads behind the call as it read before'; 0 by the template 'total and deterministic' (their statements: YtonlplfjiaejhaaTotals.lean).
  GIVEN WITH THE SEED: the statements are not yours to turn. If you find one false, say at which input.
  Laid BY PROGRAM, IN A SANDBOX (cutbox-rows.mjs): the forced cells as the released guide's own fill.sh prints them over the translation 7ce4d1ae4159db27… (all of the seat's roots in one cut). By AI agents, Wed Nov 11 2026. No macro, syntax, notation, axiom, sorry.
-/
import Derived.Test.YtonlplfjiaejhaaChecked
import GoSem.Claim
import GoSem.ClaimJoined
import GoSem.ClaimMapViews
import Derived.JoinedTies
import Derived.KernelRfl
namespace Go.Proofs.Ytonlplfjiaejhaa
/- THE CELL 'sum', in the pinned program and in every row, IS THE sha256 OF THE DUMP (.gsa) THAT YtonlplfjiaejhaaProg.lean LOADS. Nothing in Lean hashes anything: it is a label: what it is worth is what the hold of that sum in a sandbox is worth. -/
noncomputable def Try.pinned : Pinned := { name := "ytonlplfjiaejhaa", sum := "7ce4d1ae4159db277f5db841a54fd8d424aa451d56f11e4ce7bed3361c6a5ab5", checked := Try.checked }
namespace Rows
def none {H : Type} : Left H := { results := [], args := [] }

/-- 'leveelaw03.DiskDoes': WHATEVER THE INPUT: true; the input reads as it did. -/
def diskDoesSpec : ChangeSpec := { name := "diskDoes", fn := fun _ => fun
  | [d1, d2, d3] => { results := [.lit (.bool true)], args := [d1, d2, d3] }
  | _ => none }
def diskDoesRow : OpenClaim := { program := "ytonlplfjiaejhaa", sum := "7ce4d1ae4159db277f5db841a54fd8d424aa451d56f11e4ce7bed3361c6a5ab5", func := "levee/leveelaw03.DiskDoes", spec := "diskDoes", inPlace := ["slices.overlaps[levee/disk.draft]"], unfollowed := true, recurses := true, apart := false }
def DiskDoesSaid : Prop := diskDoesRow.holds Try.pinned (OpenSpec.ofChange diskDoesSpec)

/-- ITS FALSE NEIGHBOUR: 'it returns false'. Refute it at one input. -/
def diskDoesWrong : ChangeSpec := { name := "diskDoes", fn := fun _ => fun
  | [d1, d2, d3] => { results := [.lit (.bool false)], args := [d1, d2, d3] }
  | _ => none }
def DiskDoesWrongFalsely : Prop := diskDoesRow.holds Try.pinned (OpenSpec.ofChange diskDoesWrong)

/-- 'leveelaw03.DiskCrashes': WHATEVER THE INPUT: true; the input reads as it did. -/
def diskCrashesSpec : ChangeSpec := { name := "diskCrashes", fn := fun _ => fun
  | [d1, d2, d3] => { results := [.lit (.bool true)], args := [d1, d2, d3] }
  | _ => none }
def diskCrashesRow : OpenClaim := { program := "ytonlplfjiaejhaa", sum := "7ce4d1ae4159db277f5db841a54fd8d424aa451d56f11e4ce7bed3361c6a5ab5", func := "levee/leveelaw03.DiskCrashes", spec := "diskCrashes", inPlace := ["slices.overlaps[levee/disk.draft]"], unfollowed := true, recurses := true, apart := false }
def DiskCrashesSaid : Prop := diskCrashesRow.holds Try.pinned (OpenSpec.ofChange diskCrashesSpec)

/-- ITS FALSE NEIGHBOUR: 'it returns false'. Refute it at one input. -/
def diskCrashesWrong : ChangeSpec := { name := "diskCrashes", fn := fun _ => fun
  | [d1, d2, d3] => { results := [.lit (.bool false)], args := [d1, d2, d3] }
  | _ => none }
def DiskCrashesWrongFalsely : Prop := diskCrashesRow.holds Try.pinned (OpenSpec.ofChange diskCrashesWrong)

/-- 'leveelaw03.DiskSafe': WHATEVER THE INPUT: true; the input reads as it did. -/
def diskSafeSpec : ChangeSpec := { name := "diskSafe", fn := fun _ => fun
  | [d1, d2] => { results := [.lit (.bool true)], args := [d1, d2] }
  | _ => none }
def diskSafeRow : OpenClaim := { program := "ytonlplfjiaejhaa", sum := "7ce4d1ae4159db277f5db841a54fd8d424aa451d56f11e4ce7bed3361c6a5ab5", func := "levee/leveelaw03.DiskSafe", spec := "diskSafe", inPlace := ["slices.overlaps[levee/disk.draft]"], unfollowed := true, recurses := true, apart := false }
def DiskSafeSaid : Prop := diskSafeRow.holds Try.pinned (OpenSpec.ofChange diskSafeSpec)

/-- ITS FALSE NEIGHBOUR: 'it returns false'. Refute it at one input. -/
def diskSafeWrong : ChangeSpec := { name := "diskSafe", fn := fun _ => fun
  | [d1, d2] => { results := [.lit (.bool false)], args := [d1, d2] }
  | _ => none }
def DiskSafeWrongFalsely : Prop := diskSafeRow.holds Try.pinned (OpenSpec.ofChange diskSafeWrong)

/-- 'leveelaw03.DiskOn': WHATEVER THE INPUT: true; the input reads as it did. -/
def diskOnSpec : ChangeSpec := { name := "diskOn", fn := fun _ => fun
  | [d1, d2, d3] => { results := [.lit (.bool true)], args := [d1, d2, d3] }
  | _ => none }
def diskOnRow : OpenClaim := { program := "ytonlplfjiaejhaa", sum := "7ce4d1ae4159db277f5db841a54fd8d424aa451d56f11e4ce7bed3361c6a5ab5", func := "levee/leveelaw03.DiskOn", spec := "diskOn", inPlace := ["slices.overlaps[levee/disk.draft]"], unfollowed := true, recurses := true, apart := false }
def DiskOnSaid : Prop := diskOnRow.holds Try.pinned (OpenSpec.ofChange diskOnSpec)

/-- ITS FALSE NEIGHBOUR: 'it returns false'. Refute it at one input. -/
def diskOnWrong : ChangeSpec := { name := "diskOn", fn := fun _ => fun
  | [d1, d2, d3] => { results := [.lit (.bool false)], args := [d1, d2, d3] }
  | _ => none }
def DiskOnWrongFalsely : Prop := diskOnRow.holds Try.pinned (OpenSpec.ofChange diskOnWrong)

/-- 'leveelaw03.DiskOthers': WHATEVER THE INPUT: true; the input reads as it did. -/
def diskOthersSpec : ChangeSpec := { name := "diskOthers", fn := fun _ => fun
  | [d1, d2] => { results := [.lit (.bool true)], args := [d1, d2] }
  | _ => none }
def diskOthersRow : OpenClaim := { program := "ytonlplfjiaejhaa", sum := "7ce4d1ae4159db277f5db841a54fd8d424aa451d56f11e4ce7bed3361c6a5ab5", func := "levee/leveelaw03.DiskOthers", spec := "diskOthers", inPlace := ["slices.overlaps[levee/disk.draft]"], unfollowed := true, recurses := true, apart := false }
def DiskOthersSaid : Prop := diskOthersRow.holds Try.pinned (OpenSpec.ofChange diskOthersSpec)

/-- ITS FALSE NEIGHBOUR: 'it returns false'. Refute it at one input. -/
def diskOthersWrong : ChangeSpec := { name := "diskOthers", fn := fun _ => fun
  | [d1, d2] => { results := [.lit (.bool false)], args := [d1, d2] }
  | _ => none }
def DiskOthersWrongFalsely : Prop := diskOthersRow.holds Try.pinned (OpenSpec.ofChange diskOthersWrong)

/-- 'leveelaw03.DiskCalm': WHATEVER THE INPUT: true; the input reads as it did. -/
def diskCalmSpec : ChangeSpec := { name := "diskCalm", fn := fun _ => fun
  | [d1, d2, d3] => { results := [.lit (.bool true)], args := [d1, d2, d3] }
  | _ => none }
def diskCalmRow : OpenClaim := { program := "ytonlplfjiaejhaa", sum := "7ce4d1ae4159db277f5db841a54fd8d424aa451d56f11e4ce7bed3361c6a5ab5", func := "levee/leveelaw03.DiskCalm", spec := "diskCalm", inPlace := ["slices.overlaps[levee/disk.draft]"], unfollowed := true, recurses := true, apart := false }
def DiskCalmSaid : Prop := diskCalmRow.holds Try.pinned (OpenSpec.ofChange diskCalmSpec)

/-- ITS FALSE NEIGHBOUR: 'it returns false'. Refute it at one input. -/
def diskCalmWrong : ChangeSpec := { name := "diskCalm", fn := fun _ => fun
  | [d1, d2, d3] => { results := [.lit (.bool false)], args := [d1, d2, d3] }
  | _ => none }
def DiskCalmWrongFalsely : Prop := diskCalmRow.holds Try.pinned (OpenSpec.ofChange diskCalmWrong)

/- THE SECOND FORM. 'bulk': how many values and letters a reading holds, each counted each time it is reached (what is shared counts as often as it is met; a slice's spare places count too). A statement '..UptoSaid' is the law's where the arguments, and the package variables that the reading takes, are together of bulk at most 1048576: NARROWER than '..Said'. Prove '..Said' where nothing that the law and all that it calls make is longer than what came in: it says more and counts as full. Else prove '..UptoSaid'. A law counts once. -/
mutual
def uptoBulk {H : Type} : DataW H → Nat
  | .lit (.string bytes) => bytes.length + 1
  | .lit _ => 1
  | .nil => 1
  | .ptr d => uptoBulk d + 1
  | .slice elems spare => uptoBulkAll elems + uptoBulkAll spare + 1
  | .agg parts => uptoBulkAll parts + 1
  | .iface _ d => uptoBulk d + 1
  | .map entries => uptoBulkEntries entries + 1
  | .held _ => 1
def uptoBulkAll {H : Type} : List (DataW H) → Nat
  | [] => 0
  | d :: r => uptoBulk d + uptoBulkAll r
def uptoBulkEntries {H : Type} : List (Lit × DataW H) → Nat
  | [] => 0
  | x :: r => uptoBulkEntry x + uptoBulkEntries r
def uptoBulkEntry {H : Type} : Lit × DataW H → Nat
  | (.string bytes, d) => bytes.length + uptoBulk d + 1
  | (_, d) => uptoBulk d + 1
 end
def uptoSmall : (H : Type) → List (DataW H) → Bool := fun _ ds => decide (uptoBulkAll ds ≤ 1048576)
def OpenSpec.upto (s : _root_.Go.ChangeSpec) : _root_.Go.OpenSpec := { _root_.Go.OpenSpec.ofChange s with cond := some uptoSmall }

/-- 'leveelaw03.DiskDoes', WHERE WHAT IT READS IS OF BULK AT MOST 1048576: true; the input reads as it did. -/
def diskDoesUptoRow : OpenClaim := { program := "ytonlplfjiaejhaa", sum := "7ce4d1ae4159db277f5db841a54fd8d424aa451d56f11e4ce7bed3361c6a5ab5", func := "levee/leveelaw03.DiskDoes", spec := "diskDoes", inPlace := ["slices.overlaps[levee/disk.draft]"], unfollowed := true, recurses := true, apart := false, narrowed := true }
def DiskDoesUptoSaid : Prop := diskDoesUptoRow.holds Try.pinned (OpenSpec.upto diskDoesSpec)

/-- 'leveelaw03.DiskCrashes', WHERE WHAT IT READS IS OF BULK AT MOST 1048576: true; the input reads as it did. -/
def diskCrashesUptoRow : OpenClaim := { program := "ytonlplfjiaejhaa", sum := "7ce4d1ae4159db277f5db841a54fd8d424aa451d56f11e4ce7bed3361c6a5ab5", func := "levee/leveelaw03.DiskCrashes", spec := "diskCrashes", inPlace := ["slices.overlaps[levee/disk.draft]"], unfollowed := true, recurses := true, apart := false, narrowed := true }
def DiskCrashesUptoSaid : Prop := diskCrashesUptoRow.holds Try.pinned (OpenSpec.upto diskCrashesSpec)

/-- 'leveelaw03.DiskSafe', WHERE WHAT IT READS IS OF BULK AT MOST 1048576: true; the input reads as it did. -/
def diskSafeUptoRow : OpenClaim := { program := "ytonlplfjiaejhaa", sum := "7ce4d1ae4159db277f5db841a54fd8d424aa451d56f11e4ce7bed3361c6a5ab5", func := "levee/leveelaw03.DiskSafe", spec := "diskSafe", inPlace := ["slices.overlaps[levee/disk.draft]"], unfollowed := true, recurses := true, apart := false, narrowed := true }
def DiskSafeUptoSaid : Prop := diskSafeUptoRow.holds Try.pinned (OpenSpec.upto diskSafeSpec)

/-- 'leveelaw03.DiskOn', WHERE WHAT IT READS IS OF BULK AT MOST 1048576: true; the input reads as it did. -/
def diskOnUptoRow : OpenClaim := { program := "ytonlplfjiaejhaa", sum := "7ce4d1ae4159db277f5db841a54fd8d424aa451d56f11e4ce7bed3361c6a5ab5", func := "levee/leveelaw03.DiskOn", spec := "diskOn", inPlace := ["slices.overlaps[levee/disk.draft]"], unfollowed := true, recurses := true, apart := false, narrowed := true }
def DiskOnUptoSaid : Prop := diskOnUptoRow.holds Try.pinned (OpenSpec.upto diskOnSpec)

/-- 'leveelaw03.DiskOthers', WHERE WHAT IT READS IS OF BULK AT MOST 1048576: true; the input reads as it did. -/
def diskOthersUptoRow : OpenClaim := { program := "ytonlplfjiaejhaa", sum := "7ce4d1ae4159db277f5db841a54fd8d424aa451d56f11e4ce7bed3361c6a5ab5", func := "levee/leveelaw03.DiskOthers", spec := "diskOthers", inPlace := ["slices.overlaps[levee/disk.draft]"], unfollowed := true, recurses := true, apart := false, narrowed := true }
def DiskOthersUptoSaid : Prop := diskOthersUptoRow.holds Try.pinned (OpenSpec.upto diskOthersSpec)

/-- 'leveelaw03.DiskCalm', WHERE WHAT IT READS IS OF BULK AT MOST 1048576: true; the input reads as it did. -/
def diskCalmUptoRow : OpenClaim := { program := "ytonlplfjiaejhaa", sum := "7ce4d1ae4159db277f5db841a54fd8d424aa451d56f11e4ce7bed3361c6a5ab5", func := "levee/leveelaw03.DiskCalm", spec := "diskCalm", inPlace := ["slices.overlaps[levee/disk.draft]"], unfollowed := true, recurses := true, apart := false, narrowed := true }
def DiskCalmUptoSaid : Prop := diskCalmUptoRow.holds Try.pinned (OpenSpec.upto diskCalmSpec)

end Rows
end Go.Proofs.Ytonlplfjiaejhaa
